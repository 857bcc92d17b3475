import PyProof.Rows.All
import Wide.All
import OpenK.AllK
import Wide.FinOn
import Lean
import PyProof.EqAt
import PyProof.EqKinds
import PyProof.TupleCall
import PyProof.NsDelKeeps
import KE.KIsBytes
import PyProof.Rows.SetFrom
import KE.KDictOf
import PyProof.AttrMissSeq
import PyProof.WalksMore
import PyProof.ZipIter
import PyProof.StrBlock2
import PyProof.StrBlockI
import PyProof.Rows.StrJoin2
import PyProof.Rows.CountFlat
import PyProof.Rows.Range3
import PyProof.SumWalkG
import PyProof.Rows.ListMulArg
import PyProof.FactsAll.tuple
import PyProof.EnumFor
import PyProof.EnumMake
import KE.KDictLaws
import KE.KDictSum
import KE.KRevIter
import PyProof.Rows.SortStr
import PyProof.Rows.SortWalk
import PyProof.AutoListH
import PyProof.StrLawsReplace
import PyProof.Rows.SortShellK
import KE.KLam
import KE.KSortKey
import KE.KNestM
import PyProof.EnumStmt
import PyProof.ListMulRoad
import PySem.Challenge.RW_pageturns_k56_faults_of_walks
set_option tactic.hygienic false
set_option compiler.extract_closed false
set_option hygiene false in
local macro_rules|`(tactic|obtain $p:rcasesPatMed)=>`(tactic|(rintro _ _ _ _ _ _ _ S R Z hr ($p:rcasesPatMed);subst e))
local macro_rules|`(tactic| trivial)=>`(tactic| decide +kernel)
set_option Elab.async false
set_option linter.all false
set_option maxRecDepth 100000
set_option genInjectivity false
set_option genSizeOfSpec false
local macro_rules|`(δ $x)=>`(List $x)|`(θ $x)=>`(Option $x)|`(ϑ $x)=>`(some $x)|`(ψ $x $y)=>`(autoParam $x $y)|`(ω $x)=>`(decide $x)
local macro_rules|`($x:ident)=>match [(`π,`Nat),(`ρ,`PySem.Str),(`ε,`PySem.Addr),(`ν,`Int),(`ξ,`PySem.Value),(`ζ,`PySem.Shared),(`χ,`Bool),(`Γ,`PySem.Heap),(`Δ,`PySem.Expr),(`Φ,`PySem.W.Frag),(`Ψ,`PySem.Program),(`Ω,`PySem.World),(`ϕ,`PySem.Around),(`Ϙ,`PySem.sizeLine),(`ϱ,`true),(`ϰ,`false),(`ϐ,`none)].lookup x.getId with|some v=>return Lean.mkIdentFrom x v|_=>if x.getId==`η then `(Prop) else Lean.Macro.throwUnsupported
namespace Tactic
theorem qa:type_of% @if_neg:=@if_neg
theorem qb:type_of% @if_pos:=@if_pos
theorem qQQ(h:True:=by rfl):True:=h
def qQJ:Lean.Syntax:=qQQ._auto_1
theorem qQX(h:True:=by decide):True:=h
def qQZ:Lean.Syntax:=qQX._auto_1
theorem qQK(h:True:=by intro _;rfl):True:=h
def qQ0:Lean.Syntax:=qQK._auto_1
theorem qQ1(h:True:=by with_unfolding_all rfl):True:=h
def qQ2:Lean.Syntax:=qQ1._auto_1
theorem qQ3(h:True:=by exact⟨rfl,rfl,rfl,rfl⟩):True:=h
def qQ4:Lean.Syntax:=qQ3._auto_1
theorem qQ5(h:True:=by first|exact .inl rfl|exact .inr rfl|assumption):True:=h
def qQ6:Lean.Syntax:=qQ5._auto_1
theorem qQ7(h:True:=by trivial):True:=h
def qQ8:Lean.Syntax:=qQ7._auto_1
theorem qQ9(h:True:=by first|exact .inl rfl|exact .inr rfl):True:=h
def qJQ:Lean.Syntax:=qQ9._auto_1
theorem qJJ(h:True:=by intro _ _ _ _ _;exact{Or.inl rfl,rfl}):True:=h
def qJX:Lean.Syntax:=qJJ._auto_1
theorem qJZ(h:True:=by first|decide|omega):True:=h
def qJK:Lean.Syntax:=qJZ._auto_1
theorem qJ0(h:True:=by first|exact Or.inl rfl|exact Or.inr rfl):True:=h
def qJ1:Lean.Syntax:=qJ0._auto_1
theorem qJ2(h:True:=by intro _ _ _ _ _;rfl):True:=h
def qJ3:Lean.Syntax:=qJ2._auto_1
theorem qJ4(h:True:=by exact{by trivial,rfl,rfl,λ_ _ _ _ _=>{Or.inl rfl,rfl}}):True:=h
def qJ5:Lean.Syntax:=qJ4._auto_1
local macro_rules|`({$a:term})=>`(⟨$a⟩)|`({$a:term,$b:term,*})=>`(⟨$a,$b,*⟩)
local macro_rules|`(!$t)=>do{let mut t:=t;let mut n:=1;for _ in [0:20] do{if let `(!$u):=t then{t:=u;n:=n+1}};let xs←(match t with|`(⟨$x,*⟩)=>pure x.getElems|`({$x:term,$y:term,*})=>pure (#[x]++y.getElems)|_=>Lean.Macro.throwUnsupported);let mut a:=xs;for _ in [0:n] do{a:=#[←`(_),←`(rfl)]++a};`(⟨$a,*⟩)}
open PySem.W (instObj methodObj hideAll hideAll_get of_hideAll Frag lookIn plainGet hasDictIn findIn handedIn plainGet_of isFn plainOver takerIn makesIn emptyDict specialIn keepIn mroIn kitOne kia_one kitx_list fnOf codeIn excIn Looks callWith_K methodCall_KW envX kla_fn codeHdIn tabObj codeHd_of_K nsIn mg_of)
theorem za:type_of%@PySem.Heap.get?_push_of_some:=@PySem.Heap.get?_push_of_some
theorem zb:type_of%@List.length_map:=@List.length_map
theorem zc:type_of%@PySem.wpAny_bind:=@PySem.wpAny_bind
theorem zd:type_of%@Bool.false_ne_true:=@Bool.false_ne_true
theorem ze:type_of%@List.getElem?_eq_some_iff:=@List.getElem?_eq_some_iff
theorem zf:type_of%@List.getElem?_eq_getElem:=@List.getElem?_eq_getElem
theorem zg:type_of%@List.mem_cons_of_mem:=@List.mem_cons_of_mem
theorem zh:type_of%@List.mem_map:=@List.mem_map
theorem zj:type_of%@List.mem_cons:=@List.mem_cons
theorem zk:type_of%@Nat.le_refl:=@Nat.le_refl
theorem zm:type_of%@List.getElem?_map:=@List.getElem?_map
theorem zo:type_of%@List.length_append:=@List.length_append
theorem zp:type_of%@PySem.Heap.get?_push_size:=@PySem.Heap.get?_push_size
theorem zq:type_of%@List.mem_cons_self:=@List.mem_cons_self
theorem zr:type_of%@List.size_toArray:=@List.size_toArray
theorem zt:type_of%@Nat.lt_of_lt_of_le:=@Nat.lt_of_lt_of_le
theorem zu:type_of%@PySem.Heap.lt_size:=@PySem.Heap.lt_size
theorem zw:type_of%@decide_eq_false:=@decide_eq_false
theorem zx:type_of%@decide_eq_true:=@decide_eq_true
theorem zy:type_of%@List.map_map:=@List.map_map
theorem zA:type_of%@List.map_cons:=@List.map_cons
theorem zB:type_of%@PySem.wpAny_pure:=@PySem.wpAny_pure
theorem zC:type_of%@Nat.ne_of_lt:=@Nat.ne_of_lt
theorem zD:type_of%@List.mem_of_getElem?:=@List.mem_of_getElem?
theorem zE:type_of%@List.length_take:=@List.length_take
theorem zG:type_of%@of_decide_eq_true:=@of_decide_eq_true
theorem zH:type_of%@Nat.le_trans:=@Nat.le_trans
theorem zI:type_of%@List.map_append:=@List.map_append
theorem zJ:type_of%@Bool.and_eq_true:=@Bool.and_eq_true
theorem zK:type_of%@List.mem_append_right:=@List.mem_append_right
theorem zL:type_of%@List.mem_singleton:=@List.mem_singleton
theorem zM:type_of%@List.getD_eq_getElem?_getD:=@List.getD_eq_getElem?_getD
theorem zN:type_of%@List.not_mem_nil:=@List.not_mem_nil
theorem zO:type_of%@List.mem_append:=@List.mem_append
theorem zP:type_of%@decide_eq_true_eq:=@decide_eq_true_eq
theorem zQ:type_of%@PySem.F.plainAttrs_list:=@PySem.F.plainAttrs_list
theorem zR:type_of%@List.length_cons:=@List.length_cons
theorem zS:type_of%@List.length_drop:=@List.length_drop
theorem zT:type_of%@Option.some.inj:=@Option.some.inj
theorem zU:type_of%@Int.emod_lt_of_pos:=@Int.emod_lt_of_pos
theorem zV:type_of%@Int.emod_nonneg:=@Int.emod_nonneg
theorem zW:type_of%@List.mem_range:=@List.mem_range
theorem zX:type_of%@List.map_congr_left:=@List.map_congr_left
theorem zY:type_of%@Bool.false_and:=@Bool.false_and
theorem zZ:type_of%@List.all_eq_true:=@List.all_eq_true
theorem z0:type_of%@PySem.F.slot_list_append:=@PySem.F.slot_list_append
theorem ya:type_of%@PySem.F.type_list_append:=@PySem.F.type_list_append
theorem yb:type_of%@Nat.zero_le:=@Nat.zero_le
theorem yc:type_of%@List.drop_eq_getElem_cons:=@List.drop_eq_getElem_cons
theorem yd:type_of%@List.find?_cons:=@List.find?_cons
theorem ye:type_of%@List.mem_filter:=@List.mem_filter
theorem yf:type_of%@PySem.sizeLine_eq:=@PySem.sizeLine_eq
theorem yg:type_of%@PySem.Heap.size_push:=@PySem.Heap.size_push
theorem yh:type_of%@Array.length_toList:=@Array.length_toList
theorem yi:type_of%@List.mem_append_left:=@List.mem_append_left
theorem yj:type_of%@Bool.eq_iff_iff:=@Bool.eq_iff_iff
theorem yk:type_of%@List.lookup_cons:=@List.lookup_cons
theorem ym:type_of%@List.forall_mem_cons:=@List.forall_mem_cons
theorem yn:type_of%@of_decide_eq_false:=@of_decide_eq_false
theorem yo:type_of%@PySem.wpAny_field:=@PySem.wpAny_field
theorem yp:type_of%@Bool.true_and:=@Bool.true_and
theorem yq:type_of%@List.getElem?_of_mem:=@List.getElem?_of_mem
theorem yr:type_of%@List.nodup_cons:=@List.nodup_cons
theorem yt:type_of%@PySem.mem_of_lookup:=@PySem.mem_of_lookup
theorem yu:type_of%@Bool.not_eq_true':=@Bool.not_eq_true'
theorem yw:type_of%@Nat.ne_of_gt:=@Nat.ne_of_gt
theorem yx:type_of%@List.any_eq_true:=@List.any_eq_true
theorem yy:type_of%@decide_eq_false_iff_not:=@decide_eq_false_iff_not
theorem yz:type_of%@PySem.wpAny_mono:=@PySem.wpAny_mono
theorem yA:type_of%@PySem.Heap.get?_update_other:=@PySem.Heap.get?_update_other
theorem yB:type_of%@List.drop_eq_nil_of_le:=@List.drop_eq_nil_of_le
theorem yC:type_of%@PySem.wpAny_truthy_bool:=@PySem.wpAny_truthy_bool
theorem yD:type_of%@PySem.Heap.get?_update_self:=@PySem.Heap.get?_update_self
theorem yE:type_of%@List.length_filter_le:=@List.length_filter_le
theorem yF:type_of%@PySem.F.slot_dict_get:=@PySem.F.slot_dict_get
theorem yG:type_of%@PySem.Obj.data_mapFields:=@PySem.Obj.data_mapFields
theorem yH:type_of%@PySem.Paired.length:=@PySem.Paired.length
theorem yI:type_of%@Nat.lt_irrefl:=@Nat.lt_irrefl
theorem yJ:type_of%@Nat.le_succ:=@Nat.le_succ
theorem yK:type_of%@PySem.wpAny_newObj_type:=@PySem.wpAny_newObj_type
theorem yL:type_of%@PySem.Heap.SameBut.update:=@PySem.Heap.SameBut.update
theorem yM:type_of%@List.length_reverse:=@List.length_reverse
theorem yN:type_of%@List.filter_sublist:=@List.filter_sublist
theorem yO:type_of%@PySem.Calls.spliced_cons:=@PySem.Calls.spliced_cons
theorem yP:type_of%@List.take_length:=@List.take_length
theorem yQ:type_of%@List.foldl_cons:=@List.foldl_cons
theorem yR:type_of%@Nat.le_of_lt:=@Nat.le_of_lt
theorem yS:type_of%@PySem.wpAny_holding:=@PySem.wpAny_holding
theorem yT:type_of%@List.filter_cons:=@List.filter_cons
theorem yU:type_of%@PySem.wpAny_call_entry:=@PySem.wpAny_call_entry
theorem yV:type_of%@Sum.inr.inj:=@Sum.inr.inj
theorem yW:type_of%@PySem.codeAny_builtin:=@PySem.codeAny_builtin
theorem yX:type_of%@List.any_cons:=@List.any_cons
theorem yY:type_of%@List.map_take:=@List.map_take
theorem yZ:type_of%@PySem.wpAny_setField:=@PySem.wpAny_setField
theorem y3:type_of%@List.drop_zero:=@List.drop_zero
theorem y4:type_of%@List.map_nil:=@List.map_nil
theorem y6:type_of%@PySem.codeAny_mono:=@PySem.codeAny_mono
theorem y7:type_of%@PySem.wpAny_rule:=@PySem.wpAny_rule
theorem y8:type_of%@PySem.wpAny_of_eq:=@PySem.wpAny_of_eq
theorem y9:type_of%@Nat.lt_or_ge:=@Nat.lt_or_ge
namespace L2
open PySem PySem.Spec PyProof.Rows
abbrev Key:=Sum ν ρ
def keyIs:Key->ξ->χ|.inl k,v=>Value.isInt k v|.inr x,v=>Value.isStrOf x v
def Y2(w:Ω):Key->ν|.inl k=>hashInt k|.inr x=>hashStr w x
theorem bA:∀{k:Key}{v:ξ},keyIs k v=ϱ->(∃i t,k=Sum.inl i/\v=Value.int i t)\/(∃x t,k=Sum.inr x/\v=Value.str x t)|.inl i,v,h=>(by obtain⟨t,e⟩:=Value.isInt_shape (k:=i) (v:=v) h;exact .inl ⟨i,t,rfl,e⟩)|.inr x,v,h=>by obtain⟨t,e⟩:=Value.isStrOf_shape (x:=x) (v:=v) h;exact .inr ⟨x,t,rfl,e⟩
theorem FI(i:ν)(t:Tok):keyIs (.inl i) (.int i t)=ϱ:=by simp[keyIs,Value.isInt]
theorem FJ(x:ρ)(t:Tok):keyIs (.inr x) (.str x t)=ϱ:=by simp[keyIs,Value.isStrOf]
theorem Pn(a b:ν):ω ((Sum.inl a:Key)=Sum.inl b)=(a==b):=by by_cases e:a=b;subst e;simp;have h:¬(Sum.inl a:Key)=Sum.inl b:=λq=>e<|Sum.inl.inj q;rw[zw h];exact(beq_eq_false_iff_ne.mpr e).symm
theorem Po(a b:ρ):ω ((Sum.inr a:Key)=Sum.inr b)=ω (a=b):=by by_cases e:a=b;subst e;simp;have h:¬(Sum.inr a:Key)=Sum.inr b:=λq=>e<|yV q;rw[zw h,zw e]
theorem Pp(a:ν)(b:ρ):ω ((Sum.inl a:Key)=Sum.inr b)=ϰ:=zw λq=>nomatch q
theorem Pq(a:ρ)(b:ν):ω ((Sum.inr a:Key)=Sum.inl b)=ϰ:=zw λq=>nomatch q
def aD(prog:Ψ)(w:Ω):PySem.KeyKind prog w Key where
 is:=keyIs
 hash:=Y2 w
 inj:=λv a b ha hb=>by
  rcases bA ha with⟨i,t,rfl,rfl⟩|⟨x,t,rfl,rfl⟩
  ·rcases bA hb with⟨j,u,rfl,e⟩|⟨y,u,rfl,e⟩
   ·injection e with e1 _;rw[e1]
   ·exact nomatch e
  ·rcases bA hb with⟨j,u,rfl,e⟩|⟨y,u,rfl,e⟩
   ·exact nomatch e
   ·injection e with e1 _;rw[e1]
 byValue:=λk v h=>by
  rcases bA h with⟨i,t,rfl,rfl⟩|⟨x,t,rfl,rfl⟩<;>rfl
 pyHash:=λhv h=>by
  rcases bA hv with⟨i,t,rfl,rfl⟩|⟨x,t,rfl,rfl⟩
  ·exact wpAny_pyHash_int h
  ·exact wpAny_pyHash_str h
 eqBool:=λhu hv h=>by
  rcases bA hu with⟨i,t,rfl,rfl⟩|⟨x,t,rfl,rfl⟩
  ·rcases bA hv with⟨j,u,rfl,rfl⟩|⟨y,u,rfl,rfl⟩
   ·rw[Pn]at h;exact wpAny_eqBool_int h
   ·rw[Pp]at h;exact SeqAt.EqAt.int_str i t y u _ _ _ _ h
  ·rcases bA hv with⟨j,u,rfl,rfl⟩|⟨y,u,rfl,rfl⟩
   ·rw[Pq]at h;exact SeqAt.EqAt.str_int x t j u _ _ _ _ h
   ·rw[Po]at h;exact wpAny_eqBool_str h
 «strs»:=λk x t v h=>by
  rcases bA h with⟨i,u,rfl,e⟩|⟨y,u,rfl,e⟩
  ·exact nomatch e
  ·injection e with e1 _
   subst e1
   cases v<;>rfl
theorem Ab(prog:Ψ)(w:Ω)(i:ν)(t:Tok):(aD prog w).is (.inl i) (.int i t)=ϱ:=FI i t
theorem jz(prog:Ψ)(w:Ω)(x:ρ)(t:Tok):(aD prog w).is (.inr x) (.str x t)=ϱ:=FJ x t
set_option genInjectivity true in
set_option genSizeOfSpec true in
inductive V where
 |ay|bl (b:χ)|int (i:ν)|str (x:ρ)|Ej (b:Array UInt8)|Pr (b:UInt64)|ref (a:ε)|ty (n:String)
 deriving DecidableEq
def RelV:V->ξ->η|.ay,u=>u=Value.none|.bl b,u=>u=Value.bool b|.int i,u=>∃t,u=Value.int i t|.str x,u=>∃t,u=Value.str x t|.Ej b,u=>∃t,u=Value.bytes b t|.Pr b,u=>∃t,u=Value.float b t|.ref a,u=>u=Value.ref a|.ty n,u=>u=Value.type n
abbrev Vals:δ V->δ ξ->Prop:=Paired RelV
theorem Vals.length{xs:δ V}{us:δ ξ}(r:Vals xs us):xs.length=us.length:=yH r
theorem Vals.get:∀{xs:δ V}{us:δ ξ}{i:π}{x:V},Vals xs us->xs[i]?=some x->∃u,us[i]?=some u/\RelV x u|_,_,_,_,.nil,e=>by simp at e|_,_,0,_,.cons r _,e=>by simp at e;subst e;exact{_,rfl,r}|_,_,i+1,x,.cons _ t,e=>by obtain⟨u,h1,h2⟩:=Vals.get (i:=i) (x:=x) t (by simpa using e);exact{u,by simpa using h1,h2}
theorem Vals.set(r:RelV x u):∀{xs:δ V}{us:δ ξ}(i:π),Vals xs us->Vals (xs.set i x) (us.set i u)|_,_,_,.nil=>.nil|_,_,0,.cons _ t=>.cons r t|_,_,i+1,.cons q t=>.cons q<|Vals.set r i t
theorem Vals.append:∀{xs ys:δ V}{us ws:δ ξ},Vals xs us->Vals ys ws->Vals (xs++ys) (us++ws)|_,_,_,_,.nil,s=>s|_,_,_,_,.cons r t,s=>.cons r<|Vals.append t s
theorem Vals.take:∀{xs:δ V}{us:δ ξ}(n:π),Vals xs us->Vals (xs.take n) (us.take n)|_,_,0,_=>.nil|_,_,_+1,.nil=>.nil|_,_,n+1,.cons r t=>.cons r<|Vals.take n t
theorem Vals.drop:∀{xs:δ V}{us:δ ξ}(n:π),Vals xs us->Vals (xs.drop n) (us.drop n)|_,_,0,r=>r|_,_,_+1,.nil=>.nil|_,_,n+1,.cons _ t=>Vals.drop n t
def gb:θ V->θ ξ->η|some v,some u=>RelV v u|none,none=>True|_,_=>False
def KV{κ:Type} : δ (κ×V)->δ (κ×ξ)->Prop:=Paired λ(p:κ×V)(q:κ×ξ)=>p.1=q.1/\RelV p.2 q.2
def kV:Key->V|.inl i=>.int i|.inr x=>.str x
set_option genInjectivity true in
set_option genSizeOfSpec true in
inductive HO where
  |lst (xs:δ V)
  |tup (xs:δ V)
  |dK (kvs:δ<|Key×V)|dT (kvs:δ<|δ Key×V)
  |set (S:ν->χ) (n:π)
  |ins (C dx:ε) (fs:δ<|ρ×V)
  |own (x:ε)
  |xd (fs:δ<|ρ×V)
  |met (f x:ε)
  |X2 (lo hi:ν)
  |lA (o:Obj) (u:HO)
  |qN (ps:Array ξ)
  |ext (φ:Γ->η)
abbrev Hp:=ε->θ HO
noncomputable def upd(H:Hp)(a:ε)(o:HO):Hp:=λb=>if b=a then some o else H b
theorem aC{H:Hp}{a:ε}{o:HO} : upd H a o a=ϑ o:=by unfold upd;rw[qb rfl]
theorem au{H:Hp}{a b:ε}{o:HO}(h:b≠a):upd H a o b=H b:=by unfold upd;rw[qa h]
theorem az{H:Hp}{a b:ε}{o:HO}(h:H a=ϑ o)(h':H b=ϐ):a≠b:=by intro e;subst e;rw[h]at h';cases h'
def iF(h:Γ)(a:ε)(items:Array ξ):Prop:=∃o,h.get? a=ϑ o/\o.cls=.type "tuple"/\o.dict=ϐ/\∃n,o.data=.seq items n
theorem iF.tup(x:iF h a items):IsTup h a items:=by obtain⟨o,e,c,_,n,d⟩:=x;exact⟨o,e,c,n,d⟩
theorem iF.lt(x:iF h a items):a<h.objs.size:=x.tup.lt
theorem iF.new(h:Γ)(items:Array ξ):iF (h.push {cls:=.type "tuple",data:=.seq items}) h.objs.size items:={_,zp _ rfl,rfl,rfl,_,rfl}
section
variable(P:Ψ)(w:Ω)
def bf(H:Hp)(h:Γ)(a:ε):HO->η|.lst xs=>xs.length<=Ϙ/\∃(ax:δ ξ) (n:π),Vals xs ax/\h.get? a=ϑ {cls:=.type "list",data:=.seq ax.toArray n}|.tup xs=>xs.length<=Ϙ/\∃ax:δ ξ,Vals xs ax/\iF h a ax.toArray|.dK kvs=>kvs.length<=Ϙ/\(a==sysModules)=ϰ/\∃vs,KV kvs vs/\h.DictOf (aD P w) a vs|.dT _=>False|.set S n=>h.SetOf (intKind P w) a S n|.ins C dx fs=>H dx=ϑ (.own a)/\fs.length<=1000/\dx≠a/\h.get? a=ϑ (instObj C dx)/\∃mA,h.Ns1 dx mA/\(∀f,gb (fs.lookup f)<|mA f)/\PySem.Within mA (fs.map (·.1))|.own _=>∃o,h.get? a=ϑ o|.xd fs=>∃mA,h.Ns1 a mA/\∀f,gb (fs.lookup f) (mA f)|.X2 lo hi=>∃t u v,h.get? a=ϑ {cls:=.type "range",data:=.fields #[.int lo t,.int hi u,.int 1 v]}|.lA o u=>h.get? a=ϑ o/\bf H h a u|.qN ps=>h.get? a=ϑ {cls:=.none,data:=.fields ps}|.met f x=>h.get? a=ϑ (methodObj (.ref f)<|.ref x)|.ext φ=>φ h/\(∃o,h.get? a=ϑ o)/\∀h1 h2:Γ,φ h1->(∀o,h1.get? a=ϑ o->h2.get? a=ϑ o)->φ h2
def kQ(H:Hp)(h:Γ):Prop:=∀a o,H a=ϑ o->bf P w H h a o
end
section
variable{P:Ψ}{w:Ω}{H H':Hp}{h h':Γ}{a:ε}{o:HO}
theorem bf.lt(x:bf P w H h a o):a<h.objs.size:=by cases o with|lst xs=>(obtain⟨_,_,_,_,e⟩:=x;exact zu e)|tup xs=>(obtain⟨_,_,_,p⟩:=x;exact p.lt)|dK kvs=>(obtain⟨_,_,_,_,o,_,_,e,_⟩:=x;exact zu e)|dT kvs=>exact False.elim x|set S n=>(obtain⟨o,_,_,_,e,_⟩:=x;exact zu e)|ins C dx fs=>(obtain⟨_,_,_,e,_⟩:=x;exact zu e)|own y=>(obtain⟨_,e⟩:=x;exact zu e)|xd fs=>(obtain⟨_,⟨_,_,_,e,_⟩,_⟩:=x;exact zu e)|X2 lo hi=>(obtain⟨_,_,_,e⟩:=x;exact zu e)|lA c u=>(obtain⟨e,_⟩:=x;exact zu e)|qN ps=>exact zu (show h.get? a=ϑ _ from x)|met f y=>exact zu (show h.get? a=ϑ _ from x)|ext φ=>obtain⟨_,⟨_,e⟩,_⟩:=x;exact zu e
theorem bf.oa(x:bf P w H h a o)(k:∀b u,(b=a\/H b=ϑ (.own a))->h.get? b=ϑ u->h'.get? b=ϑ u) (ho:∀b,H b=ϑ (.own a)->H' b=ϑ (.own a)) (l:∀b xs,H b=ϑ (.tup xs)->H' b=ϑ (.tup xs)):bf P w H' h' a o:=by induction o with|lst xs=>(obtain⟨z,i,n,r,e⟩:=x;exact{z,i,n,r,k _ _ (.inl rfl) e})|tup xs=>(obtain⟨z,i,r,g,e,c⟩:=x;exact{z,i,r,g,k _ _ (.inl rfl) e,c})|dK kvs=>(obtain⟨z,y,vs,r,g,es,ep,e,c⟩:=x;exact{z,y,vs,r,g,es,ep,k _ _ (.inl rfl) e,c})|dT kvs=>exact False.elim x|set S n=>(obtain⟨g,es,ep,t,e,c⟩:=x;exact{g,es,ep,t,k _ _ (.inl rfl) e,c})|ins C dx fs=>(obtain⟨d,z,ne,e,mA,⟨od,es,ep,e2,c⟩,r⟩:=x;exact{ho _ d,z,ne,k _ _ (.inl rfl) e,mA,{od,es,ep,k _ _ (.inr d) e2,c},r})|own y=>(obtain⟨g,e⟩:=x;exact{g,k _ _ (.inl rfl) e})|xd fs=>(obtain⟨mA,⟨od,es,ep,e,c⟩,r⟩:=x;exact{mA,{od,es,ep,k _ _ (.inl rfl) e,c},r})|X2 lo hi=>(obtain⟨t,u,v,e⟩:=x;exact{t,u,v,k _ _ (.inl rfl) e})|lA g u j=>(obtain⟨e,q⟩:=x;exact{k _ _ (.inl rfl) e,j q})|qN ps=>have e:h.get? a=ϑ {cls:=.none,data:=.fields ps}:=x;show h'.get? a=ϑ {cls:=.none,data:=.fields ps};exact k a _ (.inl rfl) e|met f y=>have e:h.get? a=ϑ (methodObj (.ref f)<|.ref y):=x;show h'.get? a=ϑ (methodObj (.ref f)<|.ref y);exact k a _ (.inl rfl) e|ext φ=>obtain⟨p,⟨o,e⟩,st⟩:=x;exact{st _ _ p λo q=>k _ _ (.inl rfl) q,{o,k _ _ (.inl rfl) e},st}
theorem kQ.lt(x:kQ P w H h)(e:H a=ϑ o):a<h.objs.size:=(x a o e).lt
theorem kQ.fresh(x:kQ P w H h)(e:h.objs.size<=a):H a=ϐ:=by cases q:H a with|none=>rfl|some u=>exact absurd (zt (x.lt q) e)<|yI _
theorem kQ.kept(x:kQ P w H h)(k:∀b u,h.get? b=ϑ u->h'.get? b=ϑ u):kQ P w H h':=λa o e=>(x a o e).oa (λb u _ q=>k b u q) (λ_ q=>q) λ_ _ q=>q
theorem kQ.laid(x:kQ P w H h)(k:∀b u,h.get? b=ϑ u->h'.get? b=ϑ u)(hp:h.objs.size<=a)(new:bf P w (upd H a o) h' a o):kQ P w (upd H a o) h':=λb u e=>by have hn:=x.fresh hp;by_cases d:b=a;subst d;rw[aC]at e;cases e;exact new;rw[au d]at e;exact(x b u e).oa (λc v _ q=>k c v q) (λc q=>by rw[au<|az q hn];exact q) λc xs q=>by rw[au<|az q hn];exact q
end
def Rd(H:Hp)(a:ε)(u:HO):Prop:=H a=ϑ u\/∃o,H a=ϑ (.lA o u)
theorem Rd.of(h:H a=ϑ u):Rd H a u:=.inl h
theorem Rd.ok{P:Ψ}{w:Ω}{H:Hp}{h:Γ}{a:ε}{u:HO}(r:Rd H a u)(x:kQ P w H h):bf P w H h a u:=by rcases r with r|⟨o,r⟩;exact x a u r;obtain⟨_,q⟩:=x a _ r;exact q
def Up:θ HO->η|some (.lst _)=>True|some (.dK _)=>True|some (.dT _)=>True|some (.set _ _)=>True|some (.ins _ _ _)=>True|some (.ext _)=>True|_=>False
section
variable{P:Ψ}{w:Ω}{H:Hp}{h h':Γ}{x e:ε}{o':HO}
theorem kQ.write(ok:kQ P w H h)(i:Up<|H x)(l:e=x\/H e=ϑ (.own x))(k:∀b u,b≠e->h.get? b=ϑ u->h'.get? b=ϑ u)(p:∃u,h'.get? e=ϑ u) (new:bf P w (upd H x o') h' x o'):kQ P w (upd H x o') h':=λb u q=>by
 have j:∀c y,H c=ϑ (.own y)->c≠x:=λc y r z=>by subst z;rw[r]at i;exact i
 have o:∀c xs,H c=ϑ (.tup xs)->c≠x:=λc xs r z=>by subst z;rw[r]at i;exact i
 by_cases g:b=x;subst g;rw[aC]at q;cases q;exact new;rw[au g]at q;by_cases d:b=e;have m:H b=ϑ (.own x):=by rcases l with z|z;exact absurd (d.trans z) g;rw[d];exact z
 rw[q]at m;cases m;obtain⟨v,n⟩:=p;exact{v,by rw[d];exact n};refine(ok b u q).oa (λc v a r=>k c v ?_ r) (λc r=>by rw[au<|j c b r];exact r) λc xs r=>by rw[au<|o c xs r];exact r
 rcases a with rfl|a;exact d;rintro rfl;rcases l with z|z;exact j c b a z;rw[a]at z;cases z;exact g rfl
end
structure Un(fs ex:δ ε)(H H':Hp)(h h':Γ):η where
 keep:∀b o,h.get? b=ϑ o->H b=ϐ->b∉fs->b∉ex->h'.get? b=ϑ o
 slot:∀b o,h.get? b=ϑ o->H b=ϐ->b∈fs->b∉ex->∃sl,h'.get? b=ϑ {o with slots:=sl}
 free:∀b o,h.get? b=ϑ o->H b=ϐ->b∉ex->H' b=ϐ
 there:∀b o,h.get? b=ϑ o->b∉ex->∃o',h'.get? b=ϑ o'
 gH:∀b xs,H b=ϑ (.tup xs)->H' b=ϑ (.tup xs)
 gf:∀b o u,H b=ϑ (.lA o u)->H' b=ϑ (.lA o u)
 gk:∀b ps,H b=ϑ (.qN ps)->∃more,H' b=ϑ (.qN<|ps++more)
section
variable{fs ex:δ ε}{H H1:Hp}{h h1 h':Γ}{a x e:ε}{o:HO}
theorem Un.any(u:Un fs ex H H1 h h1){b:ε}{a:Obj}(q:h.get? b=ϑ a)(n:H b=ϐ)(hx:b∉ex):∃sl,h1.get? b=ϑ {a with slots:=sl}:=by by_cases c:b∈fs;exact u.slot b a q n c hx;exact{a.slots,u.keep b a q n c hx}
theorem Un.kept(k:∀b u,h.get? b=ϑ u->h'.get? b=ϑ u):Un fs ex H H h h':={λb a q _ _ _=>k b a q,λb a q _ _ _=>{a.slots,k b a q},λ_ _ _ n _=>n,λb a q _=>{a,k b a q},λ_ _ q=>q,λ_ _ _ q=>q,λ_ ps q=>{#[],by rw[q];simp}}
theorem Un.refl:Un fs ex H H h h:=Un.kept λ_ _ q=>q
theorem Un.laid(k:∀b u,h.get? b=ϑ u->h'.get? b=ϑ u)(hp:h.objs.size<=a)(hn:H a=ϐ):Un fs ex H (upd H a o) h h' where
 keep:=λb u q _ _ _=>k b u q
 slot:=λb u q _ _ _=>{u.slots,k b u q}
 free:=λb u q n _=>by rw[au<|zC<|zt (zu q) hp];exact n
 there:=λb u q _=>{u,k b u q}
 gH:=λb xs q=>by rw[au<|az q hn];exact q
 gf:=λb u xs q=>by rw[au<|az q hn];exact q
 gk:=λb ps q=>{#[],by rw[au<|az q hn,q];simp}
theorem Un.write(a:Up<|H x)(g:e=x\/H e=ϑ (.own x))(k:∀b u,b≠e->h.get? b=ϑ u->h'.get? b=ϑ u)(i:∃u,h'.get? e=ϑ u):Un fs ex H (upd H x o) h h':=by
 have hx:∀b,H b=ϐ->b≠x:=λb n z=>by subst z;rw[n]at a;exact a
 have d:∀b,H b=ϐ->b≠e:=λb n z=>by subst z;rcases g with r|r;exact hx b n r;rw[n]at r;cases r
 have hm:∀b u,H b=ϑ u->¬Up (some u)->b≠x:=λb u q j z=>by subst z;rw[q]at a;exact j a
 refine⟨λb u q n _ _=>k b u (d b n) q,λb u q n _ _=>{u.slots,k b u (d b n) q},λb u q n _=>by rw[au<|hx b n];exact n,λb u q _=>?_,
  λb xs q=>by rw[au<|hm b _ q λz=>z];exact q,λb u xs q=>by rw[au<|hm b _ q λz=>z];exact q,λb ps q=>{#[],by rw[au<|hm b _ q λz=>z,q];simp}⟩
 by_cases c:b=e;subst c;exact i;exact{u,k b u c q}
end
noncomputable def X3(h:Γ)(H:Hp):δ Addr:=(List.range h.objs.size).filter λa=>(H a).isSome
noncomputable def um(h:Γ)(H:Hp):Heap:=hideAll h<|X3 h H
theorem FK(h:Γ)(H:Hp):(um h H).objs.size=h.objs.size:=PySem.W.hideAll_size _ _
theorem HU(e:h.get? b=ϑ o)(n:H b=ϐ):(um h H).get? b=ϑ o:=hideAll_get _ e λhm=>by have q:(H b).isSome=ϱ:=(ye.mp hm).2;rw[n]at q;simp at q
theorem LF(e:(um h H).get? b=ϑ o):h.get? b=ϑ o/\H b=ϐ:=by have e':h.get? b=ϑ o:=of_hideAll (X3 h H) e;refine{e',?_};cases q:H b with|none=>rfl|some x=>have hm:b∈X3 h H:=ye.mpr {zW.mpr<|zu e',by simp[q]};have z:(um h H).get? b=ϐ:=PySem.W.hideAll_none (X3 h H) hm;rw[z]at e;cases e
noncomputable def LG(g h:Γ)(L:ε):δ (ε×Obj):=(List.range h.objs.size).filterMap λa=>if a=L\/(g.get? a).isSome=ϱ then none else (h.get? a).map λo=>(a,o)
noncomputable def rest(g h:Γ)(L d:ε):δ (ε×Obj):=(LG g h L).filter λp=>ω<|p.1≠d
structure Mod(K:Φ)(mg:ρ->θ ξ)(base:Γ):η where
 Td:K.In base
 glob:base.Ns mainGlobals mg
 blt:∃mb,base.Ns builtinsNs mb/\∀x:ρ,x≠"__name__"->mb x=bootBuiltins x
 nolimit:base.NoLimit
structure Cx where
 prog:Ψ
 w:Ω
 K:Φ
 mg:ρ->θ ξ
 base:Γ
 A:ϕ
 N:δ ρ
 dI:ζ
 vY:Hp
 env:Env
 outer:δ Env
 stack:δ Env
 ex:δ ε
 fn:ρ->χ
 calm:χ
 pn:δ (ε×Obj)
 xe:ξ->ζ->η
def lN(l:δ Env):δ Addr:=l.filterMap (·.frame)
noncomputable abbrev Cx.fs(X:Cx):δ Addr:=lN X.outer
def Pu(sc:Scope)(x:ρ):Prop:=sc.names.lookup x=ϑ .local\/sc.names.lookup x=ϑ .cell\/sc.names.lookup x=ϑ .free
def Loc(sc:Scope)(x:ρ):Prop:=sc.names.lookup x=ϑ .local\/sc.names.lookup x=ϑ .cell
def Look(env:Env)(h:Γ)(m:ρ->θ ξ)(x:ρ)(u:ξ):Prop:=(env.kindOf x=ϑ .local/\m x=ϑ u)\/((env.kindOf x=ϑ .cell\/env.kindOf x=ϑ .free)/\∃c,env.cells.lookup x=ϑ c/\h.IsCell c (some u))
structure Cx.Ok(X:Cx):η where
 mod:Mod X.K X.mg X.base
 kind:X.env.scope.kind=.function
 glob:X.env.globals=mainGlobals
 blt:X.env.builtins=builtinsNs
 above:X.dI.heap.objs.size<=X.env.locals
 inj:∀x y c,X.env.cells.lookup x=ϑ c->X.env.cells.lookup y=ϑ c->x=y
 has:∀x,(X.env.kindOf x=ϑ .cell\/X.env.kindOf x=ϑ .free)->∃c,X.env.cells.lookup x=ϑ c
 Px:∀x c,X.fn x=ϱ->X.env.cells.lookup x=ϑ c->X.dI.heap.objs.size<=c
 hd:X.calm=ϱ->X.A.handled=ϐ
 frames:X.A.frames=ϑ X.stack
 Te:X.stack=X.outer\/(X.stack=X.env::X.outer/\X.env.frame=ϑ X.env.locals)
 X4:∀b∈X.ex,b≠X.env.locals/\∀x c,X.env.cells.lookup x=ϑ c->c≠b
 bs:∀b o,X.base.get? b=ϑ o->X.dI.heap.get? b=ϑ o/\X.vY b=ϐ
 FL:X.base.objs.size<=X.dI.heap.objs.size
 BR:∀b o,X.base.get? b=ϑ o->b∉X.ex
 FN:∀b∈X.ex,b∉X.fs
 kR:X.dI.heap.FunFrames X.base X.outer
 HV:∀b∈X.fs,X.vY b=ϐ
structure Inv(X:Cx)(pins:δ (ε×Obj))(σ:δ (θ V))(H:Hp)(s:ζ):η where
 ok:X.Ok
 os:s.os=X.dI.os
 bare:AllBare s.gens
 base:Un X.fs X.ex X.vY H X.dI.heap s.heap
 loc:∃m,s.heap.Ns X.env.locals m/\∀(i:π)(x:ρ)(v:V),X.N[i]?=some x->σ[i]?=some (some v)->Pu X.env.scope x->∃u,RelV v u/\Look X.env s.heap m x u
 cell:∀x c,X.env.cells.lookup x=ϑ c->∃v,s.heap.IsCell c v
 free:H X.env.locals=ϐ
 dS:∀x c,X.env.cells.lookup x=ϑ c->H c=ϐ
 pin:∀p∈X.pn++pins,s.heap.get? p.1=ϑ p.2/\H p.1=ϐ/\p.1≠X.env.locals/\p.1∉X.fs/\∀v,p.2.data≠.cell v
 aG:kQ X.prog X.w H s.heap
 len:σ.length=X.N.length
section
variable{X:Cx}{pins:δ (ε×Obj)}{σ:δ (θ V)}{H H':Hp}{s:ζ}{h':Γ}
theorem Cx.Ok.FO(ok:X.Ok)(e:X.base.get? b=ϑ o):b∉X.fs:=λa=>by have:=(ok.kR.mem a).1;rw[e]at this;cases this
theorem Inv.bs(I:Inv X pins σ H s):∀b o,X.base.get? b=ϑ o->s.heap.get? b=ϑ o/\H b=ϐ:=λb o e=>{I.base.keep b o (I.ok.bs b o e).1 (I.ok.bs b o e).2 (I.ok.FO e)<|I.ok.BR b o e,I.base.free b o (I.ok.bs b o e).1 (I.ok.bs b o e).2<|I.ok.BR b o e}
theorem Inv.bk(I:Inv X pins σ H s):∀b o,X.base.get? b=ϑ o->s.heap.get? b=ϑ o:=λb o e=>(I.bs b o e).1
theorem Inv.mod(I:Inv X pins σ H s):Mod X.K X.mg X.base:=I.ok.mod
theorem Inv.n5(I:Inv X pins σ H s):X.K.In s.heap:=I.ok.mod.Td.keeps I.bk
theorem Inv.nolimit(I:Inv X pins σ H s):s.heap.NoLimit:=I.ok.mod.nolimit.keeps I.bk
theorem Inv.fr(I:Inv X pins σ H s):∃m,Fr X.base X.env.locals s.heap m :=
 let ⟨m,hn,_⟩:=I.loc
 ⟨m,hn,I.bk,zH I.ok.FL I.ok.above⟩
theorem Inv.lt(I:Inv X pins σ H s):X.env.locals<s.heap.objs.size:=by obtain⟨_,hn,_⟩:=I.loc;exact hn.lt
theorem Inv.sz(I:Inv X pins σ H s):X.dI.heap.objs.size<=s.heap.objs.size:=zH I.ok.above<|yR I.lt
theorem Inv.Ur(I:Inv X pins σ H s)(h:s.heap.objs.size<=a):a∉X.fs:=λc=>by obtain⟨_,o,ho,_⟩:=I.ok.kR.mem c;exact absurd (zt (zu ho)<|zH I.sz h)<|yI _
theorem Inv.Py(I:Inv X pins σ H s):∀x c,X.env.cells.lookup x=ϑ c->c≠X.env.locals:=λx c e z=>by obtain⟨v,o,ho,hd⟩:=I.cell x c e;obtain⟨m,⟨o',es,ep,d,a,_⟩,_⟩:=I.loc;rw[z,d]at ho;cases ho;rw[a]at hd;cases hd
theorem Inv.kR(I:Inv X pins σ H s):s.heap.FunFrames X.base X.outer:=by
 have all:∀(l:δ Env),(∀b∈lN l,b∈X.fs)->X.dI.heap.FunFrames X.base l->s.heap.FunFrames X.base l:=by intro l;induction l with|nil=>intro _ _;trivial|cons env r g=>intro d hl;obtain⟨hk,⟨L,o,hf,hn,ho,hd⟩,hr⟩:=hl;have a:L∈X.fs:=d L (by unfold lN;rw[List.filterMap_cons,hf];exact zq);obtain⟨sl,e⟩:=I.base.slot L o ho (I.ok.HV L a) a λz=>I.ok.FN L z a;exact{hk,{L,_,hf,hn,e,hd},g (λb c=>d b<|by unfold lN;rw[List.filterMap_cons,hf];exact zg _ c) hr}
 exact all X.outer (λ_ c=>c) I.ok.kR
theorem Inv.stack(I:Inv X pins σ H s):s.heap.FunFrames X.base X.stack:=by rcases I.ok.Te with e|⟨e,hf⟩;rw[e];exact I.kR;rw[e];obtain⟨m,hn,_⟩:=I.loc;refine .cons (by rw[I.ok.kind];decide) hf hn ?_ I.kR;exact Heap.get?_none_of_le<|zH I.ok.FL I.ok.above
theorem Inv.og(I:Inv X pins σ H s):∀b∈lN X.stack,b∈X.env.locals::X.fs:=λb a=>by rcases I.ok.Te with e|⟨e,hf⟩;rw[e]at a;exact zg _ a;rw[e]at a;unfold lN at a;rw[List.filterMap_cons,hf]at a;exact a
theorem Inv.qO(I:Inv X pins σ H s):∀b∈lN X.stack,H b=ϐ:=λb a=>by rcases zj.mp (I.og b a) with e|a;rw[e];exact I.free;obtain⟨_,o,ho,_⟩:=I.ok.kR.mem a;exact I.base.free b o ho (I.ok.HV b a) λz=>I.ok.FN b z a
theorem Inv.step{g':Array GenState}{t':π}{d':Drawn}{ch:δ ε}(I:Inv X pins σ H s) (h:∀b∈ch,(b∈X.ex\/X.dI.heap.objs.size<=b)/\b≠X.env.locals/\(∀x c,X.env.cells.lookup x=ϑ c->c≠b)/\∀p∈X.pn++pins,p.1≠b) (keep:∀b o,b≠X.env.locals->b∉X.fs->b∉ch->s.heap.get? b=ϑ o->H b=ϐ->h'.get? b=ϑ o) (slot:∀b o,b≠X.env.locals->b∈X.fs->b∉ch->s.heap.get? b=ϑ o->H b=ϐ->∃sl,h'.get? b=ϑ {o with slots:=sl}) (free:∀b o,b∉ch->s.heap.get? b=ϑ o->H b=ϐ->H' b=ϐ) (there:∀b o,b∉ch->s.heap.get? b=ϑ o->∃o',h'.get? b=ϑ o') (gH:∀b xs,H b=ϑ (.tup xs)->H' b=ϑ (.tup xs)) (gf:∀b o u,H b=ϑ (.lA o u)->H' b=ϑ (.lA o u)) (gk:∀b ps,H b=ϑ (.qN ps)->∃more,H' b=ϑ (.qN<|ps++more)) (ns:∀m,s.heap.Ns X.env.locals m->h'.Ns X.env.locals m) (aG:kQ X.prog X.w H' h') (hg:AllBare g'): Inv X pins σ H' {s with heap:=h',gens:=g',drawn:=d',toks:=t'}:=by
 have g:∀b o,X.dI.heap.get? b=ϑ o->b≠X.env.locals:=λb o e=>zC<|zt (zu e) I.ok.above;have t:∀b o,X.dI.heap.get? b=ϑ o->b∉X.ex->b∉ch:=λb o e hx a=>by rcases (h b a).1 with z|z;exact hx z;exact absurd (zt (zu e) z)<|yI _
 have cellK:∀x c,X.env.cells.lookup x=ϑ c->∀v,s.heap.IsCell c v->h'.IsCell c v:=by rintro x c e v ⟨o,ho,hd⟩;have j:c∉ch:=λz=>(h c z).2.2.1 x c e rfl;by_cases A:c∈X.fs;obtain⟨sl,q⟩:=slot c o (I.Py x c e) A j ho<|I.dS x c e;exact{_,q,hd};exact{o,keep c o (I.Py x c e) A j ho<|I.dS x c e,hd}
 refine{I.ok,I.os,hg,{λb o e n a hx=>?_,λb o e n a hx=>?_,λb o e n hx=>?_,λb o e hx=>?_,λb xs e=>gH b xs<|I.base.gH b xs e,λb o xs e=>gf b o xs<|I.base.gf b o xs e,λb ps e=>?_},?_,λx c e=>?_,?_,λx c e=>?_,λp hp=>?_,aG,I.len};exact keep b o (g b o e) a (t b o e hx) (I.base.keep b o e n a hx)<|I.base.free b o e n hx;obtain⟨sl,e1⟩:=I.base.slot b o e n a hx;obtain⟨y,e2⟩:=slot b _ (g b o e) a (t b o e hx) e1<|I.base.free b o e n hx;exact⟨y,e2⟩;obtain⟨o',e1⟩:=I.base.there b o e hx;exact free b o' (t b o e hx) e1<|I.base.free b o e n hx;obtain⟨o',e1⟩:=I.base.there b o e hx;exact there b o' (t b o e hx) e1;obtain⟨B,e1⟩:=I.base.gk b ps e;obtain⟨C,e2⟩:=gk b _ e1;exact{B++C,by rw[e2,Array.append_assoc]};obtain⟨m,hn,hl⟩:=I.loc;refine{m,ns m hn,λi x v e1 e2 e3=>?_};obtain⟨u,r,l⟩:=hl i x v e1 e2 e3;refine{u,r,?_};rcases l with l|⟨k,c,e,z⟩;exact .inl l;exact .inr {k,c,e,cellK x c e _ z};obtain⟨v,z⟩:=I.cell x c e;exact{v,cellK x c e v z};obtain⟨m,⟨o,_,_,ho,_⟩,_⟩:=I.loc;exact free _ o (λz=>(h _ z).2.1 rfl) ho I.free;obtain⟨v,o,ho,hd⟩:=I.cell x c e;exact free c o (λz=>(h c z).2.2.1 x c e rfl) ho<|I.dS x c e;obtain⟨e,n,ne,nf,d⟩:=I.pin p hp;have j:p.1∉ch:=λz=>(h p.1 z).2.2.2 p hp rfl;exact{keep p.1 p.2 ne nf j e n,free p.1 p.2 j e n,ne,nf,d}
theorem Inv.un{t':π}(I:Inv X pins σ H s)(u:Un X.fs [] H H' s.heap h')(aG:kQ X.prog X.w H' h'):Inv X pins σ H' {s with heap:=h',toks:=t'}:=by obtain⟨m,⟨o,es,ep,ho,r⟩,_⟩:=id I.loc;obtain⟨sl,g⟩:=u.any ho I.free (by simp);exact I.step (g':=s.gens) (d':=s.drawn) (ch:=[]) (λ_ z=>nomatch z) (λb o _ a _ e n=>u.keep b o e n a<|by simp) (λb o _ a _ e n=>u.slot b o e n a<|by simp) (λb o _ e n=>u.free b o e n<|by simp) (λb o _ e=>u.there b o e<|by simp) u.gH u.gf u.gk (λi hm=>by obtain⟨o',Lo,h,c,d⟩:=hm;rw[ho]at c;cases c;exact{_,Lo,h,g,d}) aG I.bare
theorem Inv.call{g':Array GenState}{t':π}{d':Drawn}{ch:δ ε}(I:Inv X pins σ H s)(u:Un (lN X.stack) ch H H' s.heap h')(aG:kQ X.prog X.w H' h')(hg:AllBare g') (g:∀b∈ch,(b∈X.ex\/X.dI.heap.objs.size<=b)/\b≠X.env.locals/\(∀x c,X.env.cells.lookup x=ϑ c->c≠b)/\∀p∈X.pn++pins,p.1≠b): Inv X pins σ H' {s with heap:=h',gens:=g',drawn:=d',toks:=t'}:=by obtain⟨m,⟨o,es,ep,ho,r⟩,_⟩:=id I.loc;obtain⟨sl,d⟩:=u.any ho I.free λz=>(g _ z).2.1 rfl;exact I.step (ch:=ch) g (λb o d j a e n=>u.keep b o e n (λz=>(zj.mp<|I.og b z).elim d j) a) (λb o _ _ a e n=>u.any e n a) (λb o a e n=>u.free b o e n a) (λb o a e=>u.there b o e a) u.gH u.gf u.gk (λq hm=>by obtain⟨o',Lo,l,h,i⟩:=hm;rw[ho]at h;cases h;exact{_,Lo,l,d,i}) aG hg
theorem Inv.turned{t':π}{it:ε}(I:Inv X pins σ H s)(k:∀b o,b≠it->s.heap.get? b=ϑ o->h'.get? b=ϑ o)(hn:H it=ϐ)(d:it≠X.env.locals) (h1:it∈X.ex\/X.dI.heap.objs.size<=it) (h2:∀x c,X.env.cells.lookup x=ϑ c->c≠it) (h:∀p∈X.pn++pins,p.1≠it):Inv X pins σ H {s with heap:=h',toks:=t'}:=by
 have g:∀b u,H b=ϑ u->b≠it:=λb u e z=>by rw[z,hn]at e;cases e
 refine I.step (g':=s.gens) (d':=s.drawn) (ch:=[it]) (λb i=>?_) (λb o _ _ a e _=>k b o (λz=>a<|by simp[z]) e) (λb o _ _ a e _=>{o.slots,k b o (λz=>a<|by simp[z]) e}) (λ_ _ _ _ n=>n) (λb o a e=>{o,k b o (λz=>a<|by simp[z]) e}) (λ_ _ e=>e) (λ_ _ _ e=>e) (λb ps e=>{#[],by rw[e];simp}) (λm hm=>?_) (λb u e=>?_) I.bare;have e:b=it:=by simpa using i
 subst e;exact⟨h1,d,h2,h⟩;obtain⟨o,es,ep,ho,r⟩:=hm;exact{o,es,ep,k _ o (Ne.symm d) ho,r};refine(I.aG b u e).oa (λc v a q=>k c v ?_ q) (λ_ q=>q) λ_ _ q=>q;rcases a with z|z;rw[z];exact g b u e;exact g c _ z
theorem Inv.tok(I:Inv X pins σ H s)(t:π):Inv X pins σ H {s with toks:=t}:=I.un (h':=s.heap) (t':=t) Un.refl I.aG
theorem Inv.kept(I:Inv X pins σ H s)(k:∀b u,s.heap.get? b=ϑ u->h'.get? b=ϑ u):Inv X pins σ H {s with heap:=h',toks:=t'}:=I.un (Un.kept k)<|I.aG.kept k
theorem Inv.laid{a:ε}{o:HO}{t':π}(I:Inv X pins σ H s)(k:∀b u,s.heap.get? b=ϑ u->h'.get? b=ϑ u)(hp:s.heap.objs.size<=a)(new:bf X.prog X.w (upd H a o) h' a o): Inv X pins σ (upd H a o) {s with heap:=h',toks:=t'}:=I.un (Un.laid k hp<|I.aG.fresh hp)<|I.aG.laid k hp new
theorem Inv.write(I:Inv X pins σ H s)(a:Up<|H x)(d:e=x\/H e=ϑ (.own x))(k:∀b u,b≠e->s.heap.get? b=ϑ u->h'.get? b=ϑ u)(c:∃u,h'.get? e=ϑ u) (new:bf X.prog X.w (upd H x o) h' x o):Inv X pins σ (upd H x o) {s with heap:=h',toks:=t'}:=I.un (Un.write a d k c)<|I.aG.write a d k c new
theorem Inv.weak(I:Inv X pins σ H s)(hl:av.length=σ.length)(w:∀(i:π) v,av[i]?=some (some v)->σ[i]?=some (some v)):Inv X pins av H s:={I.ok,I.os,I.bare,I.base,by obtain⟨m,hn,a⟩:=I.loc;exact{m,hn,λi x v e1 e2 e3=>a i x v e1 (w i v e2) e3},I.cell,I.free,I.dS,I.pin,I.aG,hl.trans I.len}
theorem Inv.mi(I:Inv X pins σ H s)(h:∀p∈pins',s.heap.get? p.1=ϑ p.2/\H p.1=ϐ/\p.1≠X.env.locals/\p.1∉X.fs/\∀v,p.2.data≠.cell v):Inv X pins' σ H s:={I.ok,I.os,I.bare,I.base,I.loc,I.cell,I.free,I.dS,λp hp=>(zO.mp hp).elim (λz=>I.pin p<|yi _ z)<|h p,I.aG,I.len}
theorem Ac{N:δ ρ}(c:N.Nodup){i j:π}{x:ρ}(a:N[i]?=some x)(b:N[j]?=some x):i=j:=by obtain⟨h1,e1⟩:=ze.mp a;obtain⟨h2,e2⟩:=ze.mp b;exact(List.getElem_inj c).mp<|e1.trans e2.symm
theorem uQ{M:Model}{A:ϕ}{E:ξ->ζ->η}{i:π}{x:ρ}{v:V}{u:ξ}{Q:Unit->ζ->η}(I:Inv X pins σ H s)(Y:X.N.Nodup)(hi:X.N[i]?=some x)(hx:Loc X.env.scope x)(r:RelV v u) (h:∀s',Inv X pins (σ.set i<|some v) H s'->(∃a,Heap.SameBut a s.heap s'.heap/\(a=X.env.locals\/X.env.cells.lookup x=ϑ a))->Q () s') (hf:ψ (X.fn x=ϱ\/X.env.scope.names.lookup x=ϑ .local) qQ6):wpAny M A (storeName X.env x u) Q E s:=by
 obtain⟨m,hn,hl⟩:=id I.loc;have PB:(X.env.scope.kind==.class||(X.env.scope.kind==.module&&X.env.locals != X.env.globals))=ϰ:=by rw[I.ok.kind];rfl
 have U:i<σ.length:=by rw[I.len];exact(ze.mp hi).1
 have Py:=I.Py;have tracked:∀{a:ε}{h':Γ},(∃o,s.heap.get? a=ϑ o/\H a=ϐ)->Heap.SameBut a s.heap h'->kQ X.prog X.w H h':=λ{a h'} ha g b ob e=>by obtain⟨_,_,P⟩:=ha;refine(I.aG b ob e).oa (λc C l q=>(g.2 c ?_).trans q) (λ_ q=>q) λ_ _ q=>q;rintro rfl;rcases l with rfl|l;rw[P]at e;cases e;rw[P]at l;cases l
 rcases hx with hk|hk;refine wpAny_storeName_local hk hn (λh' LH g=>?_) PB;obtain⟨oL,_,_,HC,_⟩:=id hn;refine h _ {I.ok,I.os,I.bare,{λb o e n t hx=>?_,λb o e n t hx=>?_,I.base.free,λb o e hx=>?_,I.base.gH,I.base.gf,I.base.gk},{_,LH,λj y L e1 e2 e3=>?_},λy c e=>?_,I.free,I.dS,λp hp=>?_,tracked ⟨oL,HC,I.free⟩ g,by simpa using I.len} {_,g,.inl rfl};exact(g.2 b<|zC<|zt (zu e) I.ok.above).trans<|I.base.keep b o e n t hx;obtain⟨sl,e1⟩:=I.base.slot b o e n t hx;exact{sl,(g.2 b<|zC<|zt (zu e) I.ok.above).trans e1};obtain⟨o',e1⟩:=I.base.there b o e hx;exact{o',(g.2 b<|zC<|zt (zu e) I.ok.above).trans e1};by_cases B:j=i;subst B;rw[hi]at e1;cases e1;rw[List.getElem?_set_self U]at e2;cases e2;exact{u,r,.inl {hk,by simp}};rw[List.getElem?_set_ne<|Ne.symm B]at e2;obtain⟨K,G,q⟩:=hl j y L e1 e2 e3;refine{K,G,?_};rcases q with⟨k,e⟩|⟨k,c,e,z⟩;refine .inl {k,?_};have:y≠x:=λe=>B<|Ac Y e1<|e ▸ hi;simp[this,e];exact .inr {k,c,e,z.sameBut g<|Py y c e};obtain⟨C,z⟩:=I.cell y c e;exact{C,z.sameBut g<|Py y c e};obtain⟨e,n,ne,nf,d⟩:=I.pin p hp;exact{(g.2 p.1 ne).trans e,n,ne,nf,d};have J:X.fn x=ϱ:=by rcases hf with z|z;exact z;rw[z]at hk;cases hk
 obtain⟨c,l⟩:=I.ok.has x<|.inl hk;obtain⟨C,z⟩:=I.cell x c l;refine wpAny_storeName_cell I.ok.kind hk l z λh' S g=>?_;obtain⟨oc,O,Y6⟩:=id z;refine h {s with heap:=h'} {I.ok,I.os,I.bare,{λb o e n t hx=>?_,λb o e n t hx=>?_,I.base.free,λb o e hx=>?_,I.base.gH,I.base.gf,I.base.gk},{m,hn.sameBut g<|Ne.symm<|Py x c l,λj y L e1 e2 e3=>?_},λy F e=>?_,I.free,I.dS,λp hp=>?_,tracked {oc,O,I.dS x c l} g,by simpa using I.len} {c,g,.inr l};exact(g.2 b<|zC<|zt (zu e)<|I.ok.Px x c J l).trans<|I.base.keep b o e n t hx;obtain⟨sl,e1⟩:=I.base.slot b o e n t hx;exact{sl,(g.2 b<|zC<|zt (zu e)<|I.ok.Px x c J l).trans e1};obtain⟨o',e1⟩:=I.base.there b o e hx;exact{o',(g.2 b<|zC<|zt (zu e)<|I.ok.Px x c J l).trans e1};by_cases B:j=i;subst B;rw[hi]at e1;cases e1;rw[List.getElem?_set_self U]at e2;cases e2;exact{u,r,.inr {.inl hk,c,l,S}};rw[List.getElem?_set_ne<|Ne.symm B]at e2;obtain⟨K,G,q⟩:=hl j y L e1 e2 e3;refine{K,G,?_};rcases q with q|⟨k,F,e,Z⟩;exact .inl q;refine .inr {k,F,e,Z.sameBut g ?_};rintro rfl;exact B<|Ac Y e1<|I.ok.inj _ _ _ e l ▸ hi;by_cases R:F=c;subst R;exact{_,S};obtain⟨w2,z2⟩:=I.cell y F e;exact{w2,z2.sameBut g R};obtain⟨e,n,ne,nf,d⟩:=I.pin p hp;refine{(g.2 p.1 ?_).trans e,n,ne,nf,d};intro q;rw[q,O]at e;have q':oc=p.2:=zT e;exact d C<|by rw[<-q'];exact Y6
theorem jA(I:Inv X pins σ H s)(a:X.N.Nodup)(hi:X.N[i]?=some x)(hx:Loc X.env.scope x)(r:RelV v u) (h:∀s',Inv X pins (σ.set i<|some v) H s'->Q () s') (hf:ψ (X.fn x=ϱ\/X.env.scope.names.lookup x=ϑ .local) qQ6):wpAny M A (storeName X.env x u) Q E s:=uQ I a hi hx r (λs' c _=>h s' c) hf
theorem Inv.HW(I:Inv X pins σ H s)(ho:s'.os=s.os)(u:Un (lN X.stack) ch H H' s.heap s'.heap)(aG:kQ X.prog X.w H' s'.heap)(hg:AllBare s'.gens) (h:∀b∈ch,(b∈X.ex\/X.dI.heap.objs.size<=b)/\b≠X.env.locals/\(∀x c,X.env.cells.lookup x=ϑ c->c≠b)/\∀p∈X.pn++pins,p.1≠b):Inv X pins σ H' s':=by obtain⟨h',a,g,d,o'⟩:=s';have e:o'=s.os:=ho;subst e;exact I.call (g':=a) (t':=d) (d':=g) u aG hg h
end
abbrev XK:=ξ->θ ε->Hp->η
abbrev St:=δ<|θ V
abbrev VK:=V->Hp->η
abbrev TE:=St->Hp->VK->η
abbrev TT:=St->Hp->(χ->Hp->η)->η
abbrev TA:=St->Hp->(δ V->Hp->η)->η
structure Ends where
 nx:St->Hp->η
 rt:VK
 bk:St->Hp->Prop:=λ_ _=>False
 ct:St->Hp->Prop:=λ_ _=>False
abbrev TS:=Ends->St->Hp->η
def EP(X:Cx)(pins:δ<|ε×Obj)(σ:St)(Q:VK)(u:ξ)(s':ζ):Prop:=∃v H',Inv X pins σ H' s'/\RelV v u/\Q v H'
def TP(X:Cx)(pins:δ<|ε×Obj)(σ:St)(Q:χ->Hp->η)(b:χ)(s':ζ):Prop:=∃H',Inv X pins σ H' s'/\Q b H'
def AP(X:Cx)(pins:δ<|ε×Obj)(σ:St)(Q:δ V->Hp->η)(us:δ ξ)(s':ζ):Prop:=∃vs H',Inv X pins σ H' s'/\Vals vs us/\Q vs H'
def SP(X:Cx)(pins:δ<|ε×Obj)(D:Ends)(f:Flow)(s':ζ):Prop:=match f with|.next=>∃av H',Inv X pins av H' s'/\D.nx av H'|.brk=>∃av H',Inv X pins av H' s'/\D.bk av H'|.cont=>∃av H',Inv X pins av H' s'/\D.ct av H'|.ret u=>∃v av H',Inv X pins av H' s'/\RelV v u/\D.rt v H'
def PE(X:Cx)(e:Δ)(t:TE):Prop:=∀(pins:δ (ε×Obj))(s:ζ)(σ:St)(H:Hp)(Q:VK),Inv X pins σ H s->t σ H Q->wpAny (model X.prog X.w) X.A (eval e X.env) (EP X pins σ Q) X.xe s
def PT(X:Cx)(e:Δ)(t:TT):Prop:=∀(pins:δ (ε×Obj))(s:ζ)(σ:St)(H:Hp)(Q:χ->Hp->η),Inv X pins σ H s->t σ H Q->wpAny (model X.prog X.w) X.A (isTrue e X.env<|eval e X.env) (TP X pins σ Q) X.xe s
def PW(X:Cx)(e:Δ)(t:TT):Prop:=∀(whole:Sem ξ)(pins:δ (ε×Obj))(s:ζ)(σ:St)(H:Hp)(Q:χ->Hp->η),Inv X pins σ H s->t σ H Q->wpAny (model X.prog X.w) X.A (isTrue e X.env whole) (TP X pins σ Q) X.xe s
theorem PW.pt{t:TT}(h:PW X e t):PT X e t:=h _
def PA(X:Cx)(es:δ Δ)(t:TA):Prop:=∀(pos:Pos)(pins:δ (ε×Obj))(s:ζ)(σ:St)(H:Hp)(Q:δ V->Hp->η),Inv X pins σ H s->t σ H Q->wpAny (model X.prog X.w) X.A (spliced<|backTo pos<|starEach es X.env) (AP X pins σ Q) X.xe s
def PS(X:Cx)(st:Stmt)(t:TS):Prop:=∀(pins:δ (ε×Obj))(s:ζ)(σ:St)(H:Hp)(D:Ends),Inv X pins σ H s->t D σ H->wpAny (model X.prog X.w) X.A (exec st X.env) (SP X pins D) X.xe s
def BV(X:Cx)(st:δ Stmt)(t:TS):Prop:=∀(pins:δ (ε×Obj))(s:ζ)(σ:St)(H:Hp)(D:Ends),Inv X pins σ H s->t D σ H->wpAny (model X.prog X.w) X.A (execs st X.env) (SP X pins D) X.xe s
theorem bp{t:Sem α}(h:wpAny M A t Q E s)(c:∀a s,Q a s->Q' a s):wpAny M A t Q' E s:=yz h c λ_ _ x=>x
section
variable{X:Cx}
def Y7(i:π):TE:=λσ H Q=>∃v,σ[i]?=some (some v)/\Q v H
def tC(v:V):TE:=λ_ H Q=>Q v H
theorem PD(o:X.N[i]?=some x)(j:Pu X.env.scope x)(hd:ψ ((x==("__debug__": ρ))=ϰ) qQZ)(n:ψ ((x==("__classdict__": ρ))=ϰ) qQZ):PE X (.Name x pos) (Y7 i):=by intro pins s σ H Q I h;obtain⟨v,e,h⟩:=h;obtain⟨m,hn,hl⟩:=I.loc;obtain⟨u,r,l⟩:=hl i x v o e j;have a:EP X pins σ Q u s:=⟨v,H,I,r,h⟩;rcases l with⟨hk,hm⟩|⟨hk,c,d,g⟩;exact wpAny_Name (wpAny_loadName_local I.ok.kind hk hn hm a) hd;rcases hk with hk|hk;exact wpAny_Name (wpAny_loadName_cell I.ok.kind hk d g a) hd;exact wpAny_Name (wpAny_loadName_free I.ok.kind hk d g a n) hd
theorem PF:PE X (.Constant (.int i) j pos) (tC<|.int i):=λ_ _ _ H _ I h=>wpAny_Constant_int {.int i,H,I.tok _,{_,rfl},h}
theorem N8:PE X (.Constant (.bool b) j pos) (tC<|.bl b):=λ_ _ _ H _ I h=>Constant_bool {.bl b,H,I,rfl,h}
theorem PH:PE X (.Constant .none j pos) (tC .ay):=λ_ _ _ H _ I h=>Constant_none {.ay,H,I,rfl,h}
theorem PJ:PE X (.Constant (.str x) j pos) (tC<|.str x):=λ_ _ _ H _ I h=>Calls.Constant_str {.str x,H,I.tok _,{_,rfl},h}
def Gl(X:Cx)(x:ρ):Prop:=X.env.kindOf x=ϑ .globalImplicit
theorem mj(I:Inv X pins σ H s)(hg:Gl X x)(hm:X.mg x=ϑ u)(h:Q u s) (hd:ψ ((x==("__debug__": ρ))=ϰ) qQZ):wpAny (model X.prog X.w) X.A (eval (.Name x pos) X.env) Q E s:=Calls.Name_function_global I.ok.kind hg (Calls.loadGlobal_global (by rw[I.ok.glob];exact I.mod.glob.keeps I.bk) hm h) hd
theorem fE(I:Inv X pins σ H s)(hg:Gl X x)(hm:X.mg x=ϐ)(a:bootBuiltins x=ϑ u)(h:Q u s) (hn:ψ (x≠"__name__") qQZ) (hd:ψ ((x==("__debug__": ρ))=ϰ) qQZ):wpAny (model X.prog X.w) X.A (eval (.Name x pos) X.env) Q E s:=by obtain⟨mb,h1,h2⟩:=I.mod.blt;exact Calls.Name_function_global I.ok.kind hg (Calls.loadGlobal_builtin (by rw[I.ok.glob];exact I.mod.glob.keeps I.bk) hm (by rw[I.ok.blt];exact h1.keeps I.bk) ((h2 x hn).trans a) h) hd
theorem El(hg:Gl X x)(hm:X.mg x=ϑ u)(r:RelV v u)(hd:ψ ((x==("__debug__": ρ))=ϰ) qQZ):PE X (.Name x pos) (tC v):=λ_ _ _ H _ I h=>mj I hg hm ⟨v,H,I,r,h⟩ hd
theorem LI(hg:Gl X x)(hm:X.mg x=ϐ)(a:bootBuiltins x=ϑ u)(r:RelV v u)(hn:ψ (x≠"__name__") qQZ)(hd:ψ ((x==("__debug__": ρ))=ϰ) qQZ):PE X (.Name x pos) (tC v):=λ_ _ _ H _ I h=>fE I hg hm a ⟨v,H,I,r,h⟩ hn hd
variable{a b:Δ}{ta tb:TE}{pos:Pos}
def tB(t:TE):TT:=λσ H Q=>t σ H λx H1=>∃c,x=.bl c/\Q c H1
theorem PK{t:TE}(h:PE X e t)(i:ψ (∀whole,isTrue e X.env whole=(do let v <-whole;standAt e.pos;holding [v] (truthy v))) qQ0):PT X e (tB t):=by intro pins s σ H Q I hw;refine isTrue_plain (bp (h pins s σ H _ I hw) λv s1 ⟨x,H1,c,g,a⟩=>?_)<|i _;obtain⟨d,rfl,q⟩:=a;cases g;exact yC ⟨H1,c,q⟩
variable{tA X7:TT}{rest:δ Δ}
def Y8(t u:TT):TT:=λσ H Q=>t σ H λc H1=>if c=ϱ then u σ H1 Q else Q false H1
def tOr(t u:TT):TT:=λσ H Q=>t σ H λc H1=>if c=ϱ then Q true H1 else u σ H1 Q
def Y9(t:TT):TT:=λσ H Q=>t σ H λc H1=>Q (!c) H1
theorem pw_and1(ha:PT X a tA):PW X (.BoolOp .And [a] pos) tA:=by intro d pins s σ H Q I h;refine isTrue_and<|bp (ha pins s σ H Q I h) λc s1 e=>?_;cases c with|true=>exact isTrue_and_nil e|false=>exact e
theorem pw_or1(ha:PT X a tA):PW X (.BoolOp .Or [a] pos) tA:=by intro d pins s σ H Q I h;refine isTrue_or<|bp (ha pins s σ H Q I h) λc s1 e=>?_;cases c with|false=>exact isTrue_or_nil e|true=>exact e
theorem pw_and(ha:PT X a tA)(i:PW X (.BoolOp .And (b::rest) pos) X7):PW X (.BoolOp .And (a::b::rest) pos) (Y8 tA X7):=by intro g pins s σ H Q I h;refine isTrue_and<|bp (ha pins s σ H _ I h) λc s1 ⟨H1,e,d⟩=>?_;cases c with|true=>exact i g pins s1 σ H1 Q e d|false=>exact⟨H1,e,d⟩
theorem pw_or(ha:PT X a tA)(i:PW X (.BoolOp .Or (b::rest) pos) X7):PW X (.BoolOp .Or (a::b::rest) pos) (tOr tA X7):=by intro g pins s σ H Q I h;refine isTrue_or<|bp (ha pins s σ H _ I h) λc s1 ⟨H1,e,d⟩=>?_;cases c with|true=>exact⟨H1,e,d⟩|false=>exact i g pins s1 σ H1 Q e d
theorem PL(ha:PT X a tA):PT X (.UnaryOp .Not a pos) (Y9 tA):=by intro pins s σ H Q I h;exact isTrue_not<|ha pins s σ H (λc H1=>Q (!c) H1) I h
def Uv(ta tb:TE):TE:=λσ H Q=>ta σ H λx H1=>∃c,x=.bl c/\if c=ϱ then tb σ H1 Q else Q (.bl false) H1
def Y_(ta tb:TE):TE:=λσ H Q=>ta σ H λx H1=>∃c,x=.bl c/\if c=ϱ then Q (.bl true) H1 else tb σ H1 Q
def Uw(ta:TE):TE:=λσ H Q=>ta σ H λx H1=>∃c,x=.bl c/\Q (.bl<|!c) H1
theorem PM{t:TE}(h:PE X a t):PE X (.BoolOp op [a] pos) t:=λpins s σ H Q I hw=>BoolOp_one<|h pins s σ H Q I hw
theorem PN(ha:PE X a ta)(i:PE X (.BoolOp .And (b::rest) pos) tb):PE X (.BoolOp .And (a::b::rest) pos) (Uv ta tb):=by intro pins s σ H Q I h;refine BoolOp_and<|bp (ha pins s σ H _ I h) λv s1 ⟨x,H1,e,g,d⟩=>?_;obtain⟨c,rfl,d⟩:=d;cases g;refine yC ?_;cases c with|true=>exact i pins s1 σ H1 Q e d|false=>exact{.bl false,H1,e,rfl,d}
theorem Ux(ha:PE X a ta)(i:PE X (.BoolOp .Or (b::rest) pos) tb):PE X (.BoolOp .Or (a::b::rest) pos) (Y_ ta tb):=by intro pins s σ H Q I h;refine BoolOp_or<|bp (ha pins s σ H _ I h) λv s1 ⟨x,H1,e,g,d⟩=>?_;obtain⟨c,rfl,d⟩:=d;cases g;refine yC ?_;cases c with|false=>exact i pins s1 σ H1 Q e d|true=>exact{.bl true,H1,e,rfl,d}
theorem PQ(ha:PE X a ta):PE X (.UnaryOp .Not a pos) (Uw ta):=by intro pins s σ H Q I h;refine UnaryOp_<|bp (ha pins s σ H _ I h) λv s1 ⟨x,H1,e,g,d⟩=>?_;obtain⟨c,rfl,d⟩:=d;cases g;exact not_of<|yC {.bl<|!c,H1,e,rfl,d}
def tIf(t:TT)(ta tb:TE):TE:=λσ H Q=>t σ H λc H1=>if c=ϱ then ta σ H1 Q else tb σ H1 Q
theorem HX(i:PT X c tA)(ha:PE X a ta)(j:PE X b tb):PE X (.IfExp c a b pos) (tIf tA ta tb):=by intro pins s σ H Q I h;refine wpAny_IfExp<|bp (i pins s σ H _ I h) λd s1 ⟨H1,g,e⟩=>?_;cases d with|true=>exact ha pins s1 σ H1 Q g e|false=>exact j pins s1 σ H1 Q g e
end
def iD(K:Φ)(H:Hp)(a:ε)(xs:δ V):Prop:=Rd H a (.lst xs)\/∃(o:Obj)(ax:Array ξ)(n:π),K.lookup a=ϑ o/\o.cls=.type "list"/\o.dict=ϐ/\o.data=.seq ax n/\ax.size<=Ϙ/\Vals xs ax.toList
def gW(K:Φ)(H:Hp)(a:ε)(xs:δ V):Prop:=Rd H a (.tup xs)\/∃(o:Obj)(ax:Array ξ)(n:π),K.lookup a=ϑ o/\o.cls=.type "tuple"/\o.data=.seq ax n/\ax.size<=Ϙ/\Vals xs ax.toList
noncomputable def Za:ξ->θ V|.none=>some .ay|.bool b=>some (.bl b)|.int i _=>some (.int i)|.str x _=>some (.str x)|.bytes b _=>some (.Ej b)|.float b _=>some (.Pr b)|.ref a=>some (.ref a)|.type n=>some (.ty n)|_=>none
theorem RelV.abs(r:RelV x u):Za u=ϑ x:=by cases x with|ay=>(cases r;rfl)|bl _=>(cases r;rfl)|int _=>(obtain⟨t,rfl⟩:=r;rfl)|str _=>(obtain⟨t,rfl⟩:=r;rfl)|Ej _=>(obtain⟨t,rfl⟩:=r;rfl)|Pr _=>(obtain⟨t,rfl⟩:=r;rfl)|ref _=>(cases r;rfl)|ty _=>cases r;rfl
theorem RelV.inj(r:RelV x u)(q:RelV y u):x=y:=zT<|r.abs.symm.trans q.abs
theorem Vals.inj:∀{xs ys:δ V}{us:δ ξ},Vals xs us->Vals ys us->xs=ys|_,_,_,.nil,.nil=>rfl|_,_,_,.cons r t,.cons a c=>by rw[r.inj a,Vals.inj t c]
section
variable{X:Cx}{pins:δ (ε×Obj)}{σ:St}{H:Hp}{s:ζ}{a:ε}{xs ys:δ V}
theorem iD.of{K:Φ}(h:H a=ϑ (.lst xs)):iD K H a xs:=.inl<|.inl h
theorem gW.of{K:Φ}(h:H a=ϑ (.tup xs)):gW K H a xs:=.inl<|.inl h
theorem Inv.list(I:Inv X pins σ H s)(h:iD X.K H a xs):∃c:δ ξ,Vals xs c/\PlainL s.heap a c.toArray/\xs.length<=sizeLine:=by rcases h with h|⟨o,c,n,hk,d,hd,g,hz,r⟩;obtain⟨z,c,n,r,e⟩:=h.ok I.aG;exact{c,r,{_,n,e,rfl,rfl,rfl},z};refine{c.toList,r,{o,n,I.n5 a o hk,d,hd,by simpa using g},?_};have e:=r.length;simp only[yh]at e;lia
theorem Inv.tuple(I:Inv X pins σ H s)(h:gW X.K H a xs):∃c:δ ξ,Vals xs c/\IsTup s.heap a c.toArray/\xs.length<=sizeLine:=by rcases h with h|⟨o,c,n,hk,d,g,hz,r⟩;obtain⟨z,c,r,p⟩:=h.ok I.aG;exact⟨c,r,p.tup,z⟩;refine{c.toList,r,{o,I.n5 a o hk,d,n,by simpa using g},?_};have e:=r.length;simp only[yh]at e;lia
theorem Inv.rJ(I:Inv X pins σ H s)(h:iD X.K H a xs)(h':iD X.K H a ys):xs=ys:=by
 obtain⟨j,r,⟨o,n,e,_,_,d⟩,_⟩:=I.list h;obtain⟨c,i,⟨o',l,e',_,_,g⟩,_⟩:=I.list h';rw[e]at e';cases e';rw[d]at g;injection g with d1 _;have:j=c:=by simpa using congrArg Array.toList d1
 subst this;exact r.inj i
theorem Inv.oh(I:Inv X pins σ H s)(h:gW X.K H a xs)(h':gW X.K H a ys):xs=ys:=by
 obtain⟨j,r,⟨o,e,_,n,d⟩,_⟩:=I.tuple h;obtain⟨c,i,⟨o',e',_,l,g⟩,_⟩:=I.tuple h';rw[e]at e';cases e';rw[d]at g;injection g with d1 _;have:j=c:=by simpa using congrArg Array.toList d1
 subst this;exact r.inj i
end
noncomputable abbrev Cx.ad6(X:Cx)(E:ξ->ζ->η):Cx:={X with xe:=E}
section
variable{X:Cx}{st:Stmt}{rest:δ Stmt}{t u:TS}{e:Δ}{te:TE}{pos:Pos}
def Uy:TS:=λD σ H=>D.nx σ H
def Zb(t u:TS):TS:=λD σ H=>t {D with nx:=u D} σ H
theorem vZ:BV X [] Uy:=λ_ _ σ H _ I h=>wpAny_execs_nil ⟨σ,H,I,h⟩
theorem HY(h1:PS X st t)(h2:BV X rest u):BV X (st::rest) (Zb t u):=by intro pins s σ H D I h;refine wpAny_execs_cons<|bp (h1 pins s σ H {D with nx:=u D} I h) λf s1 q=>?_;cases f with|next=>(obtain⟨av,H',a,q⟩:=q;exact h2 pins s1 av H' D a q)|ret v=>exact q|brk=>exact q|cont=>exact q
theorem LJ(h1:PS X st t):BV X [st] t:=by intro pins s σ H D I h;refine wpAny_execs_cons<|bp (h1 pins s σ H D I h) λf s1 q=>?_;cases f with|next=>exact wpAny_execs_nil q|ret v=>exact q|brk=>exact q|cont=>exact q
theorem Inv.quiet(I:Inv X pins σ H s):interactive X.env=ϰ:=by simp[interactive,I.ok.kind]
def Uz(te:TE):TS:=λD σ H=>te σ H λ_ H1=>D.nx σ H1
theorem LK(g:PE X e te)(a:ψ (swapsWith e none pos.line X.env=pure false) qQJ):PS X (.Expr e pos) (Uz te):=by intro pins s σ H D I h;exact wpAny_Expr_any (bp (g pins s σ H _ I h) <| by rintro v s1 ⟨x,H1,d,i,c⟩;exact⟨σ,H1,d,c⟩) I.quiet a
def Zc(te:TE):TS:=λD σ H=>te σ H D.rt
theorem PR(g:PE X e te):PS X (.Return (some e) pos) (Zc te):=by intro pins s σ H D I h;exact wpAny_Return_some<|bp (g pins s σ H _ I h) <| by rintro v s1 ⟨x,H1,c,d,a⟩;exact⟨x,σ,H1,c,d,a⟩
def Zd(c:TT)(t u:TS):TS:=λD σ H=>c σ H λb H1=>if b=ϱ then t D σ H1 else u D σ H1
theorem UA(i:PT X c tc)(ha:BV X a t)(j:BV X b u):PS X (.If c a b pos) (Zd tc t u):=by intro pins s σ H D I h;refine wpAny_If<|bp (i pins s σ H _ I h) λd s1 ⟨H1,g,e⟩=>?_;cases d with|true=>exact ha pins s1 σ H1 D g e|false=>exact j pins s1 σ H1 D g e
end
abbrev TG:=V->St->Hp->(St->Hp->η)->η
abbrev N9:=δ V->St->Hp->(St->Hp->η)->η
def PG(X:Cx)(target:Δ)(t:TG):Prop:=∀(pins:δ (ε×Obj))(s:ζ)(σ:St)(H:Hp)(v:V)(u:ξ)(Q:St->Hp->η),Inv X pins σ H s->RelV v u->t v σ H Q->wpAny (model X.prog X.w) X.A (assign target X.env u) (λ_ s'=>∃av H',Inv X pins av H' s'/\Q av H') X.xe s
def N_(X:Cx)(ts:δ Δ)(t:N9):Prop:=∀(pins:δ (ε×Obj))(s:ζ)(σ:St)(H:Hp)(vs:δ V)(us:δ ξ)(Q:St->Hp->η),Inv X pins σ H s->Vals vs us->t vs σ H Q->wpAny (model X.prog X.w) X.A (assignInOrder ((assignEach ts X.env).map (·.2)) us) (λ_ s'=>∃av H',Inv X pins av H' s'/\Q av H') X.xe s
abbrev PU:=V->V->V->Hp->(Hp->η)->η
def UB(X:Cx)(t:PU):Prop:=∀(pins:δ (ε×Obj))(s:ζ)(σ:St)(H:Hp)(o i v:V)(ov iv u:ξ)(Q:Hp->η),Inv X pins σ H s->RelV o ov->RelV i iv->RelV v u->t o i v H Q->wpAny (model X.prog X.w) X.A (setItem ov iv u) (λ_ s'=>∃H',Inv X pins σ H' s'/\Q H') X.xe s
abbrev Ze:=V->V->Hp->VK->η
def PIp(X:Cx)(op:Operator)(t:Ze):Prop:=∀(pins:δ (ε×Obj))(s:ζ)(σ:St)(H:Hp)(x y:V)(v u:ξ)(Q:VK),Inv X pins σ H s->RelV x v->RelV y u->t x y H Q->wpAny (model X.prog X.w) X.A (inplaceOp op v u) (EP X pins σ Q) X.xe s
section
variable{X:Cx}{pos:Pos}
def jd(i:π):TG:=λv σ H Q=>Q (σ.set i<|some v) H
theorem qP(a:X.N.Nodup)(hi:X.N[i]?=some x)(hx:Loc X.env.scope x)(hf:ψ (X.fn x=ϱ\/X.env.scope.names.lookup x=ϑ .local) qQ6):PG X (.Name x pos) (jd i):=by intro pins s σ H v u Q I r h;exact wpAny_assign_Name<|jA I a hi hx r (λs' c=>{_,H,c,h}) hf
def LL:N9:=λvs σ H Q=>vs=[]/\Q σ H
def rK(t:TG)(u:N9):N9:=λvs σ H Q=>∃v r,vs=v::r/\t v σ H λav H'=>u r av H' Q
theorem Em:N_ X [] LL:=by intro pins s σ H vs us Q I r h;obtain⟨e,h⟩:=h;subst e;cases r;exact assignInOrder_nil ⟨σ,H,I,h⟩
theorem rL{t:TG}(h1:PG X e t)(h2:N_ X es u) (d:ψ ((assignEach (e::es) X.env).map (·.2)=assign e X.env::(assignEach es X.env).map (·.2)) qQJ):N_ X (e::es) (rK t u):=by intro pins s σ H vs us Q I r h;obtain⟨v,j,e1,h⟩:=h;subst e1;cases r with|cons r a=>rw[d];refine assignInOrder_cons<|bp (h1 pins s σ H _ _ _ I r h) λ_ s1 ⟨i,H1,g,c⟩=>?_;exact h2 pins s1 i H1 _ _ Q g a c
def LM(K:Φ)(n:π)(t:N9):TG:=λv σ H Q=>∃a xs,v=.ref a/\gW K H a xs/\xs.length=n/\t xs σ H Q
theorem HZ{t:N9}(d:X.calm=ϱ)(h:N_ X es t) (hn:ψ ((assignEach es X.env).length=n) qQJ) (g:ψ ((assignEach es X.env).findIdx? (·.1)=ϐ) qQJ):PG X (.Tuple es k pos) (LM X.K n t):=by intro pins s σ H v u Q I r hw;obtain⟨a,xs,e1,j,hl,hw⟩:=hw;subst e1;cases r;obtain⟨m,c,i,hz⟩:=I.tuple j;refine assign_Tuple_tuple (I.ok.hd d) i (by simp[hn,<-hl,c.length]) g λh' hx=>?_;have l:Inv X pins σ H {s with heap:=h'}:=I.kept (t':=s.toks) λb o e=>hx b o (zC<|zu e) e;exact h pins _ σ H xs _ Q l (by simpa using c) hw
def Zg(to ti:TE)(t:PU):TG:=λv σ H Q=>to σ H λo H1=>ti σ H1 λi H2=>t o i v H2 λa=>Q σ a
theorem PX{t:PU}(ho:PE X o to)(hi:PE X i ti)(g:UB X t)
  (ha:ψ (∀v,assign (.Subscript o i pos) X.env v=(do
   let ov <-holding [v] (eval o X.env)
   let iv <-holding [v,ov] (eval i X.env)
   standAt pos
   holding [v,ov,iv] (setItem ov iv v)
   release [v,ov,iv] [])) qQ0):PG X (.Subscript o i pos) (Zg to ti t):=by
 intro pins s σ H v u Q I r h
 rw[ha]
 refine zc<|yS<|bp (ho pins s σ H _ I h) λov s1 ⟨x,H1,j,l,c⟩=>?_
 refine zc<|yS<|bp (hi pins s1 σ H1 _ j c) λiv s2 ⟨y,H2,e,m,n⟩=>?_
 refine zc<|wpAny_standAt<|zc<|yS<|bp (g pins s2 σ H2 x y v ov iv u _ e l m r n) λ_ q ⟨d,a,p⟩=>?_
 exact wpAny_release ⟨σ,d,a,p⟩
def PY(te:TE)(g:TG):TS:=λD σ H=>te σ H λx H1=>g x σ H1 D.nx
theorem H9(j:PE X e te)(hg:PG X tg g)(c:ψ (swapsWithSole [tg] e pos.line X.env=pure false) qQJ)(hw:ψ (swappedStores [tg] e X.env=pure none) qQJ) (h1:ψ ((assignEach [tg] X.env).map (·.2)=[assign tg X.env]) qQJ):PS X (.Assign [tg] e pos) (PY te g):=by intro pins s σ H D I h;refine wpAny_Assign_stores (bp (j pins s σ H _ I h) λv s1 ⟨x,H1,d,i,a⟩=>?_) c hw;rw[h1];exact bp (hg pins s1 σ H1 x v _ d i a) λ_ s2 q=>q
theorem PZ(d:X.N.Nodup)(hi:X.N[i]?=some x)(hx:Loc X.env.scope x)(m:PE X e te)(g:ψ (swapsWith e (some<|.Name x pos') pos.line X.env=pure false) qQJ)(hf:ψ (X.fn x=ϱ\/X.env.scope.names.lookup x=ϑ .local) qQ6): PS X (.Assign [.Name x pos'] e pos) (PY te<|jd i):=by intro pins s σ H D I h;refine wpAny_Assign_Name (bp (m pins s σ H _ I h) λv s1 ⟨y,H1,j,l,a⟩=>?_) g;exact jA j d hi hx l (λs2 c=>{_,H1,c,a}) hf
def Zh(i j:π)(ta:TA):TS:=λD σ H=>ta σ H λvs H1=>∃v w,vs=[v,w]/\D.nx ((σ.set i<|some v).set j<|some w) H1
theorem P0(r:X.calm=ϱ)(n:X.N.Nodup)(hi:X.N[i]?=some x)(L:X.N[j]?=some y)(E:i≠j) (hx:X.env.scope.names.lookup x=ϑ .local) (l:X.env.scope.names.lookup y=ϑ .local) (ha:PA X [a,b] ta) (hw:swappedStores [.Tuple [.Name x px,.Name y py] kt pt] (.Tuple [a,b] k2 pt2) X.env=pure (some [x,y])) (O:ψ (swapsWithSole [.Tuple [.Name x px,.Name y py] kt pt] (.Tuple [a,b] k2 pt2) pos.line X.env=pure false) qQJ): PS X (.Assign [.Tuple [.Name x px,.Name y py] kt pt] (.Tuple [a,b] k2 pt2) pos) (Zh i j ta):=by
 intro pins s σ H D I h;rw[exec_Assign_arm];refine zc<|wpAny_standAt ?_;rw[O];refine zc<|zB ?_;rw[qa<|by decide];refine zc<|Tuple_<|bp (ha _ pins s σ H _ I h) λus s1 ⟨vs,H1,G,P,g⟩=>?_;obtain⟨v,w,e1,g⟩:=g;subst e1;obtain⟨d,c,rfl,M,C⟩:∃d c,us=[d,c]/\RelV v d/\RelV w c:=by cases P with|cons p q=>cases q with|cons B K=>cases K;exact{_,_,rfl,p,B}
 refine yK ?_ (by show 2<=Ϙ;decide);have F:Inv X pins σ H1 {s1 with heap:=s1.heap.push {cls:=.type "tuple",data:=.seq [d,c].toArray}}:=G.kept (t':=s1.toks) λb o e=>za _ e;rw[hw];refine zc<|zB ?_;show wpAny (model X.prog X.w) X.A (do rule "assign.swapped-stores";let items <-unpackItems (.ref s1.heap.objs.size) 2 none;assignInOrder [λv=>bindName X.env y v,λv=>bindName X.env x v] items.reverse;pure Flow.next) _ _ _;refine zc<|y7<|zc<|unpackItems_tuple (items:=#[d,c]) (I.ok.hd r) (IsTup.new s1.heap _) λh' J=>?_;have t:=F.kept (h':=h') (t':=s1.toks) λb o e=>J b o (zC<|zu e) e;show wpAny _ _ (assignInOrder [λv=>bindName X.env y v,λv=>bindName X.env x v] [c,d] >>=λ_=>pure Flow.next) _ _ _;refine zc<|assignInOrder_cons<|wpAny_bindName<|jA t n L (.inl l) C (λs2 z=>?_)<|.inr l;refine assignInOrder_cons<|wpAny_bindName<|jA z n hi (.inl hx) M (λQ m=>assignInOrder_nil<|zB ?_)<|.inr hx;rw[List.set_comm _ _<|Ne.symm E]at m;exact{_,H1,m,g}
def Zi(i:π)(te:TE)(ti:Ze):TS:=λD σ H=>∃x,σ[i]?=some (some x)/\te σ H λy H1=>ti x y H1 λz H2=>D.nx (σ.set i<|some z) H2
theorem P1(C:X.N.Nodup)(hi:X.N[i]?=some x)(hx:Loc X.env.scope x)(G:PE X e te)(ho:PIp X op ti)(hf:ψ (X.fn x=ϱ\/X.env.scope.names.lookup x=ϑ .local) qQ6): PS X (.AugAssign (.Name x pos') op e pos) (Zi i te ti):=by
 intro pins s σ H D I h;obtain⟨v,e1,h⟩:=h;obtain⟨m,hn,hl⟩:=I.loc;have a:Pu X.env.scope x:=by rcases hx with k|k;exact .inl k;exact .inr<|.inl k
 obtain⟨u,r,l⟩:=hl i x v hi e1 a;refine wpAny_AugAssign_Name ?_;have go:wpAny (model X.prog X.w) X.A (eval e X.env) (λw o=>wpAny (model X.prog X.w) X.A (inplaceOp op u w) (λr B=>wpAny (model X.prog X.w) X.A (storeName X.env x r) (λ_=>SP X pins D .next) X.xe B) X.xe o) X.xe s:=by refine bp (G pins s σ H _ I h) λw s1 ⟨y,H1,q,E,j⟩=>?_;refine bp (ho pins s1 σ H1 v y u w _ q r E j) λz s2 ⟨K,H2,p,F,t⟩=>?_;exact jA p C hi hx F (λJ g=>{_,H2,g,t}) hf
 rcases l with⟨hk,hm⟩|⟨hk,c,d,n⟩;exact wpAny_loadName_local I.ok.kind hk hn hm go;rcases hk with hk|hk;exact wpAny_loadName_cell I.ok.kind hk d n go;rcases hx with k|k;have:X.env.scope.names.lookup x=ϑ .free:=hk;rw[k]at this;cases this;have:X.env.scope.names.lookup x=ϑ .free:=hk;rw[k]at this;cases this
def ipI(f:ν->ν->ν):Ze:=λx y H Q=>∃i j,x=.int i/\y=.int j/\Q (.int<|f i j) H
theorem P2:PIp X .Add (ipI λi j=>i+j):=by intro pins s σ H x y v u Q I a c h;obtain⟨i,j,e1,e2,q⟩:=h;subst e1;subst e2;obtain⟨t,rfl⟩:=a;obtain⟨d,rfl⟩:=c;exact iadd_int {.int _,H,I.tok _,{_,rfl},q}
def P4(c:TT)(tb:TS):TS:=λD σ H=>∃W:π->St->Hp->η,(∃m,W m σ H)/\∀m σ H,W m σ H->c σ H λb H1=>if b=ϱ then ∃N:St->Hp->η,(∀av H',N av H'->∃m',m'<m/\W m' av H')/\tb {D with nx:=N,ct:=N,bk:=D.nx} σ H1 else D.nx σ H1
theorem H_(hp:PassesOwn (model X.prog X.w) X.A X.env X.xe)(r:PT X c tc)(y:BV X body tb):PS X (.While c body [] pos) (P4 tc tb):=by intro pins s σ H D I h;obtain⟨W,⟨z,B⟩,turn⟩:=h;refine wpAny_While<|codeAny_whileLoop (λn s'=>∃av H',Inv X pins av H' s'/\W n av H') ?_ z ⟨σ,H,I,B⟩;rintro n s1 ⟨i,H1,x,t⟩;refine wpAny_passesOwn hp<|bp (r pins s1 i H1 _ x<|turn n i H1 t) λb s2 ⟨H2,p,e⟩=>?_;cases b with|true=>(obtain⟨N,q,e⟩:=e;rw[qb rfl];refine wpAny_passesOwn hp<|bp (y pins s2 i H2 _ p e) λf C g=>?_;cases f with|next=>(obtain⟨d,a,j,l⟩:=g;obtain⟨o,hm,m⟩:=q d a l;exact⟨o,hm,d,a,j,m⟩)|cont=>(obtain⟨d,a,j,l⟩:=g;obtain⟨o,hm,m⟩:=q d a l;exact⟨o,hm,d,a,j,m⟩)|brk=>exact g|ret v=>exact g)|false=>rw[qa zd];exact wpAny_execs_nil ⟨i,H2,p,e⟩
end
structure It where
 go:π->Hp->η
 UC:π->Hp->V->Hp->η
 stop:π->Hp->η
def rM(X:Cx)(pins:δ<|ε×Obj)(H:Hp)(b:ε):Prop:=H b=ϐ/\b≠X.env.locals/\b∉X.fs/\(b∈X.ex\/X.dI.heap.objs.size<=b)/\(∀x c,X.env.cells.lookup x=ϑ c->c≠b)/\∀p∈X.pn++pins,p.1≠b
theorem Inv.oj(I:Inv X pins σ H s)(a:s.heap.objs.size<=b)(hn:H' b=ϐ):rM X pins H' b:=by refine{hn,yw<|zt I.lt a,I.Ur a,.inr<|zH I.sz a,λx c e z=>?_,λp hp z=>?_};obtain⟨v,q⟩:=I.cell x c e;exact absurd (zt q.lt<|by rw[z];exact a)<|yI _;exact absurd (zt (zu (I.pin p hp).1)<|by rw[z];exact a)<|yI _
structure Turn(P:Ψ)(w:Ω)(K:Φ)(tg:Δ)(J:It)(fp:δ ε)(it:ε)(tn:π->Γ->η):η where
 mem:it∈fp
 obj:∀i h,tn i h->∀b∈fp,∃o,h.get? b=ϑ o/\∀v,o.data≠.cell v
 keep:∀i h h',tn i h->(∀b∈fp,∀o,h.get? b=ϑ o->h'.get? b=ϑ o)->tn i h'
 item:∀(X:Cx),X.prog=P->X.w=w->X.K=K->X.calm=ϱ->∀(i:π)(pins:δ (ε×Obj))(s:ζ)(σ:St)(H:Hp)(E:ξ->ζ->η),Inv X pins σ H s->(∀b∈fp,rM X pins H b)->tn i s.heap->J.go i H ->
  wpAny (model P w) X.A (pyNext<|.ref it) (λr s1=>∃u,r=ϑ u /\
   wpAny (model P w) X.A (letOwnedTupleGo tg (.ref it) u) (λ_ s2=>∃x H',Inv X pins σ H' s2/\RelV x u/\J.UC i H x H'/\tn (i+1) s2.heap/\∀b∈fp,H' b=ϐ) E s1) E s
 done:∀(X:Cx),X.prog=P->X.w=w->X.K=K->X.calm=ϱ->∀(i:π)(pins:δ (ε×Obj))(s:ζ)(σ:St)(H:Hp)(E:ξ->ζ->η),Inv X pins σ H s->(∀b∈fp,rM X pins H b)->tn i s.heap->J.stop i H ->
  wpAny (model P w) X.A (pyNext<|.ref it) (λr s1=>r=ϐ/\Inv X pins σ H s1) E s
 self:∀(A:ϕ)(i:π)(s:ζ)(Q:ξ->ζ->η)(E:ξ->ζ->η),tn i s.heap->Q (.ref it) s->wpAny (model P w) A (pyIter<|.ref it) Q E s
abbrev TI:=St->Hp->(It->Hp->η)->η
def Zj(X:Cx)(pins:δ<|ε×Obj)(σ:St)(tg:Δ)(R:It->Hp->η)(a:ξ)(s2:ζ):Prop:=∃(it:ε)(fp:δ ε)(tn:π->Γ->η)(J:It)(H':Hp),a=.ref it/\Inv X pins σ H' s2/\Turn X.prog X.w X.K tg J fp it tn/\tn 0 s2.heap/\(∀b∈fp,rM X pins H' b)/\R J H'
def PI(X:Cx)(tg iter:Δ)(wi:TI):Prop:=∀(pins:δ (ε×Obj))(s:ζ)(σ:St)(H:Hp)(R:It->Hp->η),Inv X pins σ H s->wi σ H R->wpAny (model X.prog X.w) X.A (eval iter X.env) (λv s1=>wpAny (model X.prog X.w) X.A (pyIter v) (Zj X pins σ tg R) X.xe s1) X.xe s
theorem uR(ho:s.heap.get? it=ϑ o)(c:o.cls=.type n)(hd:o.data=.fields vs) (hn:["enumerate","zip","dict_itemiterator","dict_reverseitemiterator","odict_iterator","itertools.zip_longest","itertools.pairwise"].contains n=ϰ) (a:Q () s):wpAny M A (letOwnedTupleGo tg (.ref it) u) Q E s:=by
 unfold letOwnedTupleGo
 cases tg<;>first
  |exact zB a
  | (cases u<;>first
    |exact zB a
    | (refine zc (wpAny_load ho ?_)
       rw[c,hd]
       show wpAny M A (if (["enumerate","zip","dict_itemiterator","dict_reverseitemiterator","odict_iterator","itertools.zip_longest","itertools.pairwise"].contains n&&vs[0]?==some (rawInt _))=ϱ then _ else _) Q E s
       rw[qa<|by intro h;rw[hn,zY]at h;cases h]
       exact zB a))
def Itl(K:Φ)(a:ε):It:={λi H=>∃xs x,iD K H a xs/\xs[i]?=some x,λi H x H'=>H'=H/\∀xs,iD K H a xs->xs[i]?=some x,λi H=>∃xs,iD K H a xs/\xs.length<=i}
def Itt(K:Φ)(a:ε):It:={λi H=>∃xs x,gW K H a xs/\xs[i]?=some x,λi H x H'=>H'=H/\∀xs,gW K H a xs->xs[i]?=some x,λi H=>∃xs,gW K H a xs/\xs.length<=i}
noncomputable def X9(lo:ν)(n:π):It:={λi _=>i<n,λi H x H'=>H'=H/\x=.int (lo+i),λi _=>n<=i}
theorem FQ{P:Ψ}{w:Ω}{K:Φ}{tg:Δ}(a it:ε):Turn P w K tg (Itl K a) [it] it (λi h=>h.IsListIter it a i) where
 mem:=by simp
 obj:=λi h st b hb=>by
  have e:b=it:=by simpa using hb
  subst e
  obtain⟨o,e,c,d⟩:=st
  exact{o,e,λv z=>by rw[d]at z;cases z}
 keep:=λi h h' st k=>st.at λo e=>k it (by simp) o e
 item:=by
  intro X hP hw hK hc i pins s σ H E I hf st hg
  subst hP hw hK
  obtain⟨xs,x,hq,hx⟩:=hg
  obtain⟨ax,rv,p,hz⟩:=I.list hq
  obtain⟨u,hu,ru⟩:=rv.get hx
  obtain⟨f0,f1,f2,f3,f4,f5⟩:=hf it<|by simp
  refine wpAny_pyNext_list_item st p.isList (x:=u) (by simpa using hu) λh' e_ sb=>?_
  have I1:Inv X pins σ H {s with heap:=h'}:=I.turned (t':=s.toks) (λb o hb e=>(sb.2 b hb).trans e) f0 f1 f3 f4 f5
  obtain⟨o,e,c,d⟩:=id e_
  exact{u,rfl,uR (s:={s with heap:=h'}) e c d (by decide) {x,H,I1,ru,{rfl,λys hy=>by rw[I.rJ hy hq];exact hx},e_,λb hb=>(hf b hb).1}}
 done:=by
  intro X hP hw hK hc i pins s σ H E I hf st hg
  subst hP hw hK
  obtain⟨xs,hq,hx⟩:=hg
  obtain⟨ax,rv,p,hz⟩:=I.list hq
  obtain⟨f0,f1,f2,f3,f4,f5⟩:=hf it<|by simp
  have hl:=rv.length
  exact wpAny_pyNext_list_end (I.ok.hd hc) st p.isList (by simp;lia) λh' eb=>{rfl,I.turned (t':=s.toks) (λb o hb e=>eb b o hb e) f0 f1 f3 f4 f5}
 self:=λ_ _ _ _ _ st h=>wpAny_pyIter_listiter st h
theorem BX{P:Ψ}{w:Ω}{K:Φ}{tg:Δ}(a it:ε):Turn P w K tg (Itt K a) [it] it (λi h=>h.IsTupleIter it a i) where
 mem:=by simp
 obj:=λi h st b hb=>by
  have e:b=it:=by simpa using hb
  subst e
  obtain⟨o,e,c,d⟩:=st
  exact{o,e,λv z=>by rw[d]at z;cases z}
 keep:=λi h h' st k=>st.at λo e=>k it (by simp) o e
 item:=by
  intro X hP hw hK hc i pins s σ H E I hf st hg
  subst hP hw hK
  obtain⟨xs,x,hq,hx⟩:=hg
  obtain⟨ax,rv,p,hz⟩:=I.tuple hq
  obtain⟨u,hu,ru⟩:=rv.get hx
  obtain⟨f0,f1,f2,f3,f4,f5⟩:=hf it<|by simp
  refine wpAny_pyNext_tuple_item st (show s.heap.IsTuple a ax.toArray from p) (x:=u) (by simpa using hu) λh' e_ sb=>?_
  have I1:Inv X pins σ H {s with heap:=h'}:=I.turned (t':=s.toks) (λb o hb e=>(sb.2 b hb).trans e) f0 f1 f3 f4 f5
  obtain⟨o,e,c,d⟩:=id e_
  exact{u,rfl,uR (s:={s with heap:=h'}) e c d (by decide) {x,H,I1,ru,{rfl,λys hy=>by rw[I.oh hy hq];exact hx},e_,λb hb=>(hf b hb).1}}
 done:=by
  intro X hP hw hK hc i pins s σ H E I hf st hg
  subst hP hw hK
  obtain⟨xs,hq,hx⟩:=hg
  obtain⟨ax,rv,p,hz⟩:=I.tuple hq
  obtain⟨f0,f1,f2,f3,f4,f5⟩:=hf it<|by simp
  have hl:=rv.length
  exact wpAny_pyNext_tuple_end (I.ok.hd hc) st (show s.heap.IsTuple a ax.toArray from p) (by simp;lia) λh' eb=>{rfl,I.turned (t':=s.toks) (λb o hb e=>eb b o hb e) f0 f1 f3 f4 f5}
 self:=λ_ _ _ _ _ st h=>wpAny_pyIter_tupleiter st h
theorem BY{P:Ψ}{w:Ω}{K:Φ}{tg:Δ}(it:ε)(lo:ν)(n:π):Turn P w K tg (X9 lo n) [it] it (λi h=>IsRangeIter h it (lo+(i:π)*1) ((n:ν)-(i:π)) 1) where
 mem:=by simp
 obj:=λi h st b hb=>by
  have e:b=it:=by simpa using hb
  subst e
  exact⟨_,st,λv z=>by
   have z':Data.fields _=Data.cell v:=z
   cases z'⟩
 keep:=λi h h' st k=>k it (by simp) _ st
 item:=by
  intro X hP hw hK hc i pins s σ H E I hf st hg
  subst hP hw hK
  obtain⟨f0,f1,f2,f3,f4,f5⟩:=hf it<|by simp
  have W:=Walks.range (prog:=X.prog) (w:=X.w) (I.ok.hd hc) it lo 1 n
  refine W.item i s _ _ hg st λv h' tk hv e_ kk=>?_
  obtain⟨t,rfl⟩:=hv
  have I1:Inv X pins σ H {s with heap:=h',toks:=tk}:=I.turned (λb o hb e=>kk b o (by simpa using hb) e) f0 f1 f3 f4 f5
  refine{_,rfl,uR (s:={s with heap:=h',toks:=tk}) (n:="range_iterator") e_ rfl rfl (by decide) {.int<|lo+i,H,I1,{t,?_},⟨rfl,rfl⟩,e_,λb hb=>(hf b hb).1}}
  rw[Int.mul_one]
 done:=by
  intro X hP hw hK hc i pins s σ H E I hf st hg
  subst hP hw hK
  obtain⟨f0,f1,f2,f3,f4,f5⟩:=hf it<|by simp
  exact wpAny_pyNext_range_end (I.ok.hd hc) st (by have:n<=i:=hg;lia) λh' eb=>{rfl,I.turned (t':=s.toks) (λb o hb e=>eb b o hb e) f0 f1 f3 f4 f5}
 self:=λ_ _ _ _ _ st h=>wpAny_pyIter_rangeiter st h
section
variable{X:Cx}{tg:Δ}
def UD(K:Φ)(tl:TE):TI:=λσ H R=>tl σ H λx H1=>∃a,x=.ref a/\(∃xs,iD K H1 a xs)/\R (Itl K a) H1
def Zk(K:Φ)(tl:TE):TI:=λσ H R=>tl σ H λx H1=>∃a,x=.ref a/\(∃xs,gW K H1 a xs)/\R (Itt K a) H1
theorem LN{l:Δ}{tl:TE}(hl:PE X l tl):PI X tg l (UD X.K tl):=by
 intro pins s σ H R I h;refine bp (hl pins s σ H _ I h) λv s1 ⟨x,H1,c,i,d⟩=>?_;obtain⟨a,e,⟨xs,g⟩,q⟩:=d;subst e;cases i;obtain⟨n,m,p,hz⟩:=c.list g;refine wpAny_pyIter_list p.isList ?_;refine{s1.heap.objs.size,[s1.heap.objs.size],_,_,H1,rfl,c.kept (t':=s1.toks) λb o e=>za _ e,FQ a _,{_,zp _ rfl,rfl,rfl},λb j=>?_,q};have e:b=s1.heap.objs.size:=by simpa using j
 subst e;exact c.oj (zk _)<|c.aG.fresh<|zk _
theorem P5{l:Δ}{tl:TE}(hl:PE X l tl):PI X tg l (Zk X.K tl):=by
 intro pins s σ H R I h;refine bp (hl pins s σ H _ I h) λv s1 ⟨x,H1,c,i,d⟩=>?_;obtain⟨a,e,⟨xs,g⟩,q⟩:=d;subst e;cases i;obtain⟨m,n,p,hz⟩:=c.tuple g;refine wpAny_pyIter_tuple (show s1.heap.IsTuple a m.toArray from p) ?_;refine{s1.heap.objs.size,[s1.heap.objs.size],_,_,H1,rfl,c.kept (t':=s1.toks) λb o e=>za _ e,BX a _,{_,zp _ rfl,rfl,rfl},λb j=>?_,q};have e:b=s1.heap.objs.size:=by simpa using j
 subst e;exact c.oj (zk _)<|c.aG.fresh<|zk _
theorem Ia{pins:δ<|ε×Obj}{σ:St}{H:Hp}{s:ζ}{R:It->Hp->η}{E:ξ->ζ->η}{lo hi:ν}{t u v:Tok}{tk:π}(I:Inv X pins σ H s)(h1:-(2^62)<=lo)(h2:lo<2^62)(c:-(2^62)<=hi)(g:hi<2^62) (q:R (X9 lo (hi-lo).toNat) H):wpAny (model X.prog X.w) X.A (pyIter<|.ref s.heap.objs.size) (Zj X pins σ tg R) E {s with heap:=s.heap.push {cls:=.type "range",data:=.fields #[.int lo t,.int hi u,.int 1 v]},toks:=tk}:=by
 refine wpAny_pyIter_range (IsRange.new ..) (small_one h1 h2 c g) ?_;have a:Inv X pins σ H {s with heap:=s.heap.push {cls:=.type "range",data:=.fields #[.int lo t,.int hi u,.int 1 v]},toks:=tk}:=I.kept λb o e=>za _ e;refine{(s.heap.push {cls:=.type "range",data:=.fields #[.int lo t,.int hi u,.int 1 v]}).objs.size,[(s.heap.push {cls:=.type "range",data:=.fields #[.int lo t,.int hi u,.int 1 v]}).objs.size],_,_,H,rfl,a.kept (t':=tk) λb o e=>za _ e,BY _ lo (hi-lo).toNat,?_,λb d=>?_,q};have e1:lo+((0:π):ν)*1=lo:=by simp
 have e2:(((hi-lo).toNat:π):ν)-((0:π):ν)=Builtin.Range.rangeSize lo hi 1:=by rw[rangeSize_one];split<;>lia
 show IsRangeIter _ _ (lo+((0:π):ν)*1) ((((hi-lo).toNat:π):ν)-((0:π):ν)) 1;rw[e1,e2];exact zp _ rfl;have e:b=(s.heap.push {cls:=.type "range",data:=.fields #[.int lo t,.int hi u,.int 1 v]}).objs.size:=by simpa using d
 subst e;exact a.oj (zk _)<|a.aG.fresh<|zk _
def UE(ta:TA):TI:=λσ H R=>ta σ H λvs H1=>∃j:ν,vs=[.int j]/\-(2^62)<=j/\j<2^62/\R (X9 0 j.toNat) H1
theorem FR{a:Δ}{ta:TA}{p pos:Pos}(hg:Gl X "range")(hm:X.mg "range"= none)(ha:PA X [a] ta)(g:ψ (starEach [a] X.env=[(false,eval a X.env)]) qQJ):PI X tg (.Call (.Name "range" p) [a] [] pos) (UE ta):=by intro pins s σ H R I h;refine Call_<|fE I hg hm boot_range<|PyProof.Rows.callWith_type1 (bp (ha pos pins s σ H _ I h) λus s1 ⟨vs,H1,i,l,c⟩=>?_) g rfl;obtain⟨j,e,c,m,q⟩:=c;subst e;cases l with|cons r d=>cases d;obtain⟨t,rfl⟩:=r;exact call_range_1<|Ia i (by lia) (by lia) c m<|by simpa using q
def Zl(wi:TI)(g:TG)(tb:TS):TS:=λD σ H=>wi σ H λJ H1=>∃W:π->π->St->Hp->η,(∃m,W 0 m σ H1)/\∀i m σ H,W i m σ H->(J.stop i H/\D.nx σ H)\/(J.go i H/\∃N:St->Hp->η,(∀av H',N av H'->∃m',m'<m/\W (i+1) m' av H')/\∀x H',J.UC i H x H'->g x σ H' λa H2=>tb {D with nx:=N,ct:=N,bk:=D.nx} a H2)
noncomputable def rN(fp:δ ε)(h:Γ):δ (ε×Obj):=fp.filterMap λb=>(h.get? b).map λo=>(b,o)
theorem iG(a:b∈fp)(e:h.get? b=ϑ o):(b,o)∈rN fp h:=List.mem_filterMap.mpr {b,a,by rw[e];rfl}
theorem FT(hp:p∈rN fp h):p.1∈fp/\h.get? p.1=ϑ p.2:=by obtain⟨b,a,e⟩:=List.mem_filterMap.mp hp;cases q:h.get? b with|none=>(rw[q]at e;cases e)|some o=>rw[q]at e;have e':(b,o)=p:=zT e;subst e';exact⟨a,q⟩
theorem Inv.pinned(I:Inv X pins σ H s)(hf:∀b∈fp,rM X pins H b)(ho:∀b∈fp,∃o,s.heap.get? b=ϑ o/\∀v,o.data≠.cell v):Inv X (pins++rN fp s.heap) σ H s:=I.mi λp hp=>(zO.mp hp).elim (λz=>I.pin p<|zK _ z) λz=>by obtain⟨a,e⟩:=FT z;obtain⟨g,h,c,_⟩:=hf p.1 a;obtain⟨o,e',d⟩:=ho p.1 a;rw[e]at e';cases e';exact⟨e,g,h,c,d⟩
theorem Inv.rO(I:Inv X (pins++pl) σ H s):Inv X pins σ H s:=I.mi λp hp=>I.pin p<|zK _<|yi _ hp
theorem P6(hp:PassesOwn (model X.prog X.w) X.A X.env X.xe)(G:X.calm=ϱ)(hi:PI X tg iter wi)(hg:PG X tg g)(a:BV X body tb) (hs:ψ (∀x,foldedSetIterable iter X.env x=pure x) qQ0):PS X (.For tg iter body [] pos) (Zl wi g tb):=by intro pins s σ H D I h;refine wpAny_For (bp (hi pins s σ H _ I h) λv s1 h1=>bp h1 λX8 s2 h2=>?_) hs;obtain⟨it,fp,tn,J,H2,e,I2,T,R,P,W,⟨m0,w0⟩,turn⟩:=h2;subst e;have B:∀{H':Hp},(∀b∈fp,H' b=ϐ)->∀b∈fp,rM X pins H' b:=λhn b a=>{hn b a,(P b a).2};refine codeAny_forLoop_any (λn s'=>∃i av H',Inv X pins av H' s'/\tn i s'.heap/\(∀b∈fp,H' b=ϐ)/\W i n av H') ?_ m0 {0,σ,H2,I2,R,λb a=>(P b a).1,w0};rintro n K ⟨i,t,z,F,L,Q,w3⟩;rcases turn i n t z w3 with⟨stop,qn⟩|⟨go,N,hN,step⟩;refine wpAny_passesOwn hp<|bp (T.done X rfl rfl rfl G i pins K t z X.xe F (B Q) L stop) λr s4 ⟨hr,U⟩=>?_;subst hr;exact wpAny_execs_nil ⟨t,z,U,qn⟩;{refine wpAny_passesOwn hp<|bp (T.item X rfl rfl rfl G i pins K t z X.xe F (B Q) L go) λr s4 ⟨u,hr,h4⟩=>?_;subst hr;refine wpAny_passesOwn hp<|bp h4 λ_ O ⟨x,M,I5,r5,y5,q,E⟩=>?_;have Zm:=I5.pinned (B E)<|T.obj _ _ q;refine wpAny_passesOwn hp<|bp (hg _ O t M x u _ Zm r5<|step x M y5) λ_ s6 ⟨UJ,S,I6,Y⟩=>?_;refine wpAny_passesOwn hp<|bp (a _ s6 UJ S _ I6 Y) λf C p=>?_;have again:∀{l:St}{j:Hp},Inv X (pins++rN fp O.heap) l j C->N l j->∃m,m<n/\∃i av H',Inv X pins av H' C/\tn i C.heap/\(∀b∈fp,H' b=ϐ)/\W i m av H':=λ{l j} c y=>(by obtain⟨m',hm,w7⟩:=hN l j y;refine{m',hm,i+1,l,j,c.rO,T.keep _ _ _ q λb a o e=>(c.pin (b,o)<|zK _<|zK _<|iG a e).1,λb a=>?_,w7};obtain⟨o,e,d⟩:=T.obj _ _ q b a;exact(c.pin (b,o)<|zK _<|zK _<|iG a e).2.1);cases f with|next=>(obtain⟨l,j,c,y⟩:=p;exact again c y)|cont=>(obtain⟨l,j,c,y⟩:=p;exact again c y)|brk=>(obtain⟨l,j,c,p⟩:=p;exact⟨l,j,c.rO,p⟩)|ret v=>obtain⟨Z,l,j,c,r7,p⟩:=p;exact⟨Z,l,j,c.rO,r7,p⟩}
end
abbrev R2:=V->V->Hp->VK->η
def gX(X:Cx)(f:ξ->ξ->Sem ξ)(r:R2):Prop:=∀(pins:δ (ε×Obj))(s:ζ)(σ:St)(H:Hp)(x y:V)(v u:ξ)(Q:VK),Inv X pins σ H s->RelV x v->RelV y u->r x y H Q->wpAny (model X.prog X.w) X.A (f v u) (EP X pins σ Q) X.xe s
def Zn(X:Cx)(f:ξ->Sem ξ)(r:V->Hp->VK->η):Prop:=∀(pins:δ (ε×Obj))(s:ζ)(σ:St)(H:Hp)(x:V)(v:ξ)(Q:VK),Inv X pins σ H s->RelV x v->r x H Q->wpAny (model X.prog X.w) X.A (f v) (EP X pins σ Q) X.xe s
def eU(X:Cx)(f:ξ)(r:δ V->Hp->VK->η):Prop:=∀(pins:δ (ε×Obj))(s:ζ)(σ:St)(H:Hp)(xs:δ V)(us:δ ξ)(Q:VK),Inv X pins σ H s->Vals xs us->r xs H Q->wpAny (model X.prog X.w) X.A (call f us) (EP X pins σ Q) X.xe s
def Tf(r:R2)(ta tb:TE):TE:=λσ H Q=>ta σ H λx H1=>tb σ H1 λy H2=>r x y H2 Q
def tUn(r:V->Hp->VK->η)(ta:TE):TE:=λσ H Q=>ta σ H λx H1=>r x H1 Q
def rI(C:ν->ν->η)(g:ν->ν->V):R2:=λx y H Q=>∃i j,x=.int i/\y=.int j/\C i j/\Q (g i j) H
def LO(g:ν->ν->V):R2:=λx y H Q=>∃i j,x=.int i/\y=.int j/\Q (g i j) H
def rU(g:ν->V):V->Hp->VK->Prop:=λx H Q=>∃i,x=.int i/\Q (g i) H
section
variable{X:Cx}{a b:Δ}{ta tb:TE}{pos:Pos}
theorem P8(ha:PE X a ta)(l:PE X b tb){pins:δ<|ε×Obj}{s:ζ}{σ:St}{H:Hp}{R:V->V->Hp->η}(I:Inv X pins σ H s) (h:ta σ H λx H1=>tb σ H1 λy H2=>R x y H2) {Q:ξ->ζ->η}{f:ξ->ξ->Sem ξ} (hf:∀v u s2 x y H2,Inv X pins σ H2 s2->RelV x v->RelV y u->R x y H2->wpAny (model X.prog X.w) X.A (f v u) Q X.xe s2): wpAny (model X.prog X.w) X.A (eval a X.env) (λv aY=>wpAny (model X.prog X.w) X.A (eval b X.env) (λu bW=>wpAny (model X.prog X.w) X.A (f v u) Q X.xe bW) X.xe aY) X.xe s:=by refine bp (ha pins s σ H _ I h) λv s1 ⟨x,H1,e,g,c⟩=>?_;refine bp (l pins s1 σ H1 _ e c) λu s2 ⟨y,H2,d,i,j⟩=>?_;exact hf v u s2 x y H2 d g i j
theorem UK{op:Operator}{r:R2}(ho:gX X (binaryOp op) r)(ha:PE X a ta)(d:PE X b tb):PE X (.BinOp a op b pos) (Tf r ta tb):=by intro pins s σ H Q I h;exact wpAny_BinOp<|P8 ha d I h λv u s2 x y H2 c g e q=>ho pins s2 σ H2 x y v u Q c g e q
theorem UL(ho:Zn X (unaryOp op) r)(ha:PE X a ta):PE X (.UnaryOp op a pos) (tUn r ta):=by intro pins s σ H Q I h;exact UnaryOp_<|bp (ha pins s σ H _ I h) <| by rintro v s1 ⟨x,H1,d,e,c⟩;exact ho pins s1 σ H1 x v Q d e c
theorem X_{f:ξ->ξ->Sem ξ}{C:ν->ν->η}{g:ν->ν->ν} (rule:∀(i j:ν)(t u:Tok)(s:ζ)(Q:ξ->ζ->η)(E:ξ->ζ->η),C i j->Q (.int (g i j) s.toks) {s with toks:=s.toks+1}->wpAny (model X.prog X.w) X.A (f (.int i t)<|.int j u) Q E s): gX X f (rI C λi j=>.int<|g i j):=by intro pins s σ H x y v u Q I e d h;obtain⟨i,j,rfl,rfl,a,q⟩:=h;obtain⟨t,rfl⟩:=e;obtain⟨c,rfl⟩:=d;exact rule i j t c s _ _ a {.int<|g i j,H,I.tok _,{_,rfl},q}
theorem UM{f:ξ->ξ->Sem ξ}{g:ν->ν->ν} (rule:∀(i j:ν)(t u:Tok)(s:ζ)(Q:ξ->ζ->η)(E:ξ->ζ->η),Q (.int (g i j) s.toks) {s with toks:=s.toks+1}->wpAny (model X.prog X.w) X.A (f (.int i t)<|.int j u) Q E s): gX X f (LO λi j=>.int<|g i j):=by intro pins s σ H x y v u Q I d c h;obtain⟨i,j,rfl,rfl,q⟩:=h;obtain⟨t,rfl⟩:=d;obtain⟨a,rfl⟩:=c;exact rule i j t a s _ _ {.int<|g i j,H,I.tok _,{_,rfl},q}
theorem LP{f:ξ->ξ->Sem ξ}{g:ν->ν->χ} (rule:∀(i j:ν)(t u:Tok)(s:ζ)(Q:ξ->ζ->η)(E:ξ->ζ->η),Q (.bool<|g i j) s->wpAny (model X.prog X.w) X.A (f (.int i t)<|.int j u) Q E s): gX X f (LO λi j=>.bl<|g i j):=by intro pins s σ H x y v u Q I d c h;obtain⟨i,j,rfl,rfl,q⟩:=h;obtain⟨t,rfl⟩:=d;obtain⟨a,rfl⟩:=c;exact rule i j t a s _ _ {.bl<|g i j,H,I,rfl,q}
def UN(i j:ν):Prop:=0<=j/\j<=1000000/\i.natAbs<2^64
def LQ(i j:ν):Prop:=(-(2^64)<i/\i<2^64)\/(-(2^64)<j/\j<2^64)
theorem LQ.ok{i j:ν}(h:LQ i j):IntMulOk i j:=by rcases h with⟨h1,h2⟩|⟨h1,h2⟩;exact .of_left<|intBits_le_64 h1 h2;exact .of_right<|intBits_le_64 h1 h2
theorem Ie:gX X (binaryOp .Add) (LO λi j=>.int<|i+j):=UM λ_ _ _ _ _ _ _ q=>add_int q
theorem P9:gX X (binaryOp .Sub) (LO λi j=>.int<|i-j):=UM λ_ _ _ _ _ _ _ q=>sub_int q
theorem P_:gX X (binaryOp .Mult) (rI LQ λi j=>.int<|i*j):=X_ λ_ _ _ _ _ _ _ a q=>mul_int q a.ok
theorem Qa:gX X (binaryOp .Mod) (rI (λ_ j=>0<j) λi j=>.int<|i%j):=X_ λi j _ _ _ _ _ a q=>by have h1:(0:ν)<j:=a;exact mod_int' (by lia)<|by rw[Int.fmod_eq_emod_of_nonneg i<|by lia];exact q
theorem Qb:gX X (binaryOp .Pow) (rI UN λi j=>.int<|i^j.toNat):=X_ λ_ _ _ _ _ _ _ a q=>pow_int_small a.1 a.2.1 a.2.2 q
theorem unI{f:ξ->Sem ξ}{g:ν->ν} (rule:∀(i:ν)(t:Tok)(s:ζ)(Q:ξ->ζ->η)(E:ξ->ζ->η),Q (.int (g i) s.toks) {s with toks:=s.toks+1}->wpAny (model X.prog X.w) X.A (f<|.int i t) Q E s): Zn X f (rU λi=>.int<|g i):=by intro pins s σ H x v Q I a h;obtain⟨i,rfl,q⟩:=h;obtain⟨t,rfl⟩:=a;exact rule i t s _ _ {.int<|g i,H,I.tok _,{_,rfl},q}
theorem Qc:Zn X (unaryOp .USub) (rU λi=>.int (-i)):=unI λ_ _ _ _ _ q=>neg_int q
end
noncomputable def UO:V->V->χ|.ay,.ay=>true|.ay,.int _=>true|.int _,.ay=>true|.ay,.bl _=>true|.bl _,.ay=>true|.ay,.str _=>true|.str _,.ay=>true|.int _,.int _=>true|.bl _,.bl _=>true|.str _,.str _=>true|.Ej _,.Ej _=>true|.int _,.str _=>true|.str _,.int _=>true|.bl _,.str _=>true|.str _,.bl _=>true|_,_=>false
def rEq:R2:=λx y H Q=>UO x y=ϱ/\Q (.bl<|ω<|x=y) H
def rNe:R2:=λx y H Q=>UO x y=ϱ/\Q (.bl<|!decide (x=y)) H
theorem En:ω (V.int i=V.int j)=(i==j):=by rw[yj];simp
theorem Ig:ω (V.bl i=V.bl j)=(i==j):=by rw[yj];simp
theorem Eo:ω (V.str i=V.str j)=(i==j):=by rw[yj];simp
theorem Ep:ω (V.Ej i=V.Ej j)=(i.toList==j.toList):=by rw[yj];cases i;cases j;simp
section
variable{X:Cx}{a b c:Δ}{ta tb tc:TE}{pos:Pos}
theorem aH(I:Inv X pins σ H s)(q:Q (.bl k) H)(e:k=k'):EP X pins σ Q (.bool k') s:=by subst e;exact{.bl k,H,I,rfl,q}
theorem Oa:gX X (compareOp .Eq) rEq:=by intro pins s σ H x y v u Q I e a h;obtain⟨d,q⟩:=h;cases x with|ay=>(cases e;cases y with|ay=>(cases a;exact PySem.EqNone.eq_none_none<|aH I q<|by simp)|bl j=>(cases a;exact PySem.EqNone.eq_none_bool<|aH I q<|by simp)|int j=>(obtain⟨c,rfl⟩:=a;exact PySem.EqNone.eq_none_int<|aH I q<|by simp)|str j=>(obtain⟨c,rfl⟩:=a;exact PySem.EqNone.eq_none_str<|aH I q<|by simp)|_=>exact absurd (show false=ϱ from d) zd)|bl i=>(cases e;cases y with|ay=>(cases a;exact PySem.EqNone.eq_bool_none<|aH I q<|by simp)|bl j=>(cases a;exact eq_bool<|aH I q Ig)|str j=>(obtain⟨c,rfl⟩:=a;exact PySem.EqMixed.eq_bool_str<|aH I q<|by simp)|_=>exact absurd (show false=ϱ from d) zd)|int i=>(obtain⟨t,rfl⟩:=e;cases y with|ay=>(cases a;exact PySem.EqNone.eq_int_none<|aH I q<|by simp)|int j=>(obtain⟨c,rfl⟩:=a;exact eq_int<|aH I q En)|str j=>(obtain⟨c,rfl⟩:=a;exact PySem.EqMixed.eq_int_str<|aH I q<|by simp)|_=>exact absurd (show false=ϱ from d) zd)|str i=>(obtain⟨t,rfl⟩:=e;cases y with|ay=>(cases a;exact PySem.EqNone.eq_str_none<|aH I q<|by simp)|bl j=>(cases a;exact PySem.EqMixed.eq_str_bool<|aH I q<|by simp)|int j=>(obtain⟨c,rfl⟩:=a;exact PySem.EqMixed.eq_str_int<|aH I q<|by simp)|str j=>(obtain⟨c,rfl⟩:=a;exact eq_str<|aH I q Eo)|_=>exact absurd (show false=ϱ from d) zd)|Ej i=>(obtain⟨t,rfl⟩:=e;cases y with|Ej j=>(obtain⟨c,rfl⟩:=a;exact PySem.W.eq_bytes<|aH I q Ep)|_=>exact absurd (show false=ϱ from d) zd)|_=>cases y<;>exact absurd (show false=ϱ from d) zd
theorem Ob:gX X (compareOp .NotEq) rNe:=by intro pins s σ H x y v u Q I e a h;obtain⟨d,q⟩:=h;cases x with|ay=>(cases e;cases y with|ay=>(cases a;exact PySem.EqNone.ne_none_none<|aH I q<|by simp)|bl j=>(cases a;exact PySem.EqNone.ne_none_bool<|aH I q<|by simp)|int j=>(obtain⟨c,rfl⟩:=a;exact PySem.EqNone.ne_none_int<|aH I q<|by simp)|str j=>(obtain⟨c,rfl⟩:=a;exact PySem.EqNone.ne_none_str<|aH I q<|by simp)|_=>exact absurd (show false=ϱ from d) zd)|bl i=>(cases e;cases y with|ay=>(cases a;exact PySem.EqNone.ne_bool_none<|aH I q<|by simp)|bl j=>(cases a;exact ne_bool<|aH I q<|congrArg not Ig)|str j=>(obtain⟨c,rfl⟩:=a;exact PySem.EqMixed.ne_bool_str<|aH I q<|by simp)|_=>exact absurd (show false=ϱ from d) zd)|int i=>(obtain⟨t,rfl⟩:=e;cases y with|ay=>(cases a;exact PySem.EqNone.ne_int_none<|aH I q<|by simp)|int j=>(obtain⟨c,rfl⟩:=a;exact ne_int<|aH I q<|congrArg not En)|str j=>(obtain⟨c,rfl⟩:=a;exact PySem.EqMixed.ne_int_str<|aH I q<|by simp)|_=>exact absurd (show false=ϱ from d) zd)|str i=>(obtain⟨t,rfl⟩:=e;cases y with|ay=>(cases a;exact PySem.EqNone.ne_str_none<|aH I q<|by simp)|bl j=>(cases a;exact PySem.EqMixed.ne_str_bool<|aH I q<|by simp)|int j=>(obtain⟨c,rfl⟩:=a;exact PySem.EqMixed.ne_str_int<|aH I q<|by simp)|str j=>(obtain⟨c,rfl⟩:=a;exact ne_str<|aH I q<|congrArg not Eo)|_=>exact absurd (show false=ϱ from d) zd)|Ej i=>(obtain⟨t,rfl⟩:=e;cases y with|Ej j=>(obtain⟨c,rfl⟩:=a;exact PySem.W.ne_bytes<|aH I q<|congrArg not Ep)|_=>exact absurd (show false=ϱ from d) zd)|_=>cases y<;>exact absurd (show false=ϱ from d) zd
theorem UP:gX X (compareOp .Lt) (LO λi j=>.bl<|ω<|i<j):=LP λ_ _ _ _ _ _ _ q=>lt_int q
theorem UQ:gX X (compareOp .LtE) (LO λi j=>.bl<|ω<|i<=j):=LP λ_ _ _ _ _ _ _ q=>le_int q
theorem UR:gX X (compareOp .Gt) (LO λi j=>.bl<|ω<|j<i):=LP λ_ _ _ _ _ _ _ q=>gt_int q
theorem US:gX X (compareOp .GtE) (LO λi j=>.bl<|ω<|j<=i):=LP λ_ _ _ _ _ _ _ q=>ge_int q
theorem FU:gX X (compareOp .Lt) (λx y H Q=>∃i j,x=.str i/\y=.str j/\Q (.bl<|ω<|i.cps.toList<j.cps.toList) H):=by intro pins s σ H x y v u Q I c a h;obtain⟨i,j,rfl,rfl,q⟩:=h;obtain⟨t,rfl⟩:=c;obtain⟨d,rfl⟩:=a;exact lt_str<|aH I q rfl
theorem FV:gX X (compareOp .In) (λx y H Q=>∃i j,x=.str i/\y=.str j/\Q (.bl<|!(Builtin.Str.occurrences j i 0 j.length 1).isEmpty) H):=by intro pins s σ H x y v u Q I c a h;obtain⟨i,j,rfl,rfl,q⟩:=h;obtain⟨t,rfl⟩:=c;obtain⟨d,rfl⟩:=a;exact in_str<|aH I q rfl
theorem Qd:gX X (compareOp .Is) (λx y H Q=>y=.ay/\Q (.bl<|ω<|x=.ay) H):=by intro pins s σ H x y v u Q I a c h;obtain⟨rfl,q⟩:=h;cases c;refine is_none_gen<|aH I q ?_;cases x<;>first| (cases a;rfl)| (obtain⟨t,rfl⟩:=a;rfl)
theorem LR:gX X (compareOp .IsNot) (λx y H Q=>y=.ay/\Q (.bl<|!decide (x=.ay)) H):=by intro pins s σ H x y v u Q I a c h;obtain⟨rfl,q⟩:=h;cases c;refine isnot_none_gen<|aH I q ?_;cases x<;>first| (cases a;rfl)| (obtain⟨t,rfl⟩:=a;rfl)
theorem Zo(b:Δ)(h:ψ (op≠.In) qQZ)(h2:ψ (op≠.NotIn) qQZ):behindInMarks op b=ϰ:=by
 have e1:(op==CmpOp.In)=ϰ:=by cases op<;>first|rfl|exact absurd rfl h
 have e2:(op==CmpOp.NotIn)=ϰ:=by cases op<;>first|rfl|exact absurd rfl h2
 cases b<;>simp[behindInMarks,e1,e2]
theorem Er{op:CmpOp}{r:R2}(ho:gX X (compareOp op) r)(ha:PE X a ta)(d:PE X b tb)(hm:behindInMarks op b=ϰ):PE X (.Compare a [op] [b] pos) (Tf r ta tb):=by intro pins s σ H Q I h;exact wpAny_Compare1 (P8 ha d I h λv u s2 x y H2 c g e q=>ho pins s2 σ H2 x y v u Q c g e q) hm
def Ih(t:TE):TT:=λσ H Q=>t σ H λx H'=>∃k,x=.bl k/\Q k H'
theorem LS{op:CmpOp}{r:R2}(ho:gX X (compareOp op) r)(ha:PE X a ta)(q:PE X b tb)(hm:behindInMarks op b=ϰ):PT X (.Compare a [op] [b] pos) (Ih<|Tf r ta tb):=by intro pins s σ H Q I h;refine wpAny_isTrue_Compare1 (bp (ha pins s σ H _ I h) λv s1 ⟨x,H1,m,n,g⟩=>bp (q pins s1 σ H1 _ m g) λu s2 ⟨y,H2,l,o,p⟩=>bp (ho pins s2 σ H2 x y v u _ l n o p) λc w ⟨z,j,d,i,k,e,t⟩=>?_) hm;subst e;cases i;exact yC ⟨j,d,t⟩
def BZ(r r':R2)(ta tb tc:TE):TE:=λσ H Q=>ta σ H λx H1=>tb σ H1 λy H2=>r x y H2 λz a=>∃k,z=.bl k/\(if k=ϱ then tc σ a λc d=>r' y c d Q else Q (.bl false) a)
theorem Ii{op g:CmpOp}{r r':R2}(ho:gX X (compareOp op) r)(J:gX X (compareOp g) r')(ha:PE X a ta)(G:PE X b tb)(n:PE X c tc) (hm:ψ (lastMarks [op,g] [b,c]=ϰ) qQ2):PE X (.Compare a [op,g] [b,c] pos) (BZ r r' ta tb tc):=by intro pins s σ H Q I h;refine Compare_chain (bp (ha pins s σ H _ I h) λv s1 ⟨x,H1,E,N,q⟩=>chain_link<|bp (G pins s1 σ H1 _ E q) λu s2 ⟨y,H2,C,m,F⟩=>bp (ho pins s2 σ H2 x y v u _ C N m F) λd t ⟨z,l,i,L,k,e,j⟩=>?_) hm;subst e;cases L;refine yC ?_;cases k with|false=>exact ite_ff {.bl false,l,i,rfl,j}|true=>exact ite_tt<|chain_last<|bp (n pins t σ l _ i j) λo M ⟨p,B,A,K,w⟩=>J pins M σ B y p u o Q A m K w
theorem Ij{op g:CmpOp}{r r':R2}(ho:gX X (compareOp op) r)(N:gX X (compareOp g) r')(ha:PE X a ta)(J:PE X b tb)(n:PE X c tc) (hm:ψ (lastMarks [op,g] [b,c]=ϰ) qQ2):PT X (.Compare a [op,g] [b,c] pos) (Ih<|BZ r r' ta tb tc):=by intro pins s σ H Q I h;refine isTrue_chain (bp (ha pins s σ H _ I h) λv s1 ⟨x,H1,F,U,q⟩=>test_link<|bp (J pins s1 σ H1 _ F q) λu s2 ⟨y,H2,E,m,G⟩=>bp (ho pins s2 σ H2 x y v u _ E U m G) λd t ⟨z,l,i,O,k,e,j⟩=>?_) hm;subst e;cases O;refine yC ?_;cases k with|false=>(obtain⟨k',e',K⟩:=j;cases e';exact ite_ff ⟨l,i,K⟩)|true=>refine ite_tt<|test_last<|bp (n pins t σ l _ i j) λo S ⟨p,C,A,L,w⟩=>bp (N pins S σ C y p u o _ A m L w) λY Z ⟨z2,B,M,P,k2,e2,R⟩=>?_;subst e2;cases P;exact yC ⟨B,M,R⟩
theorem rP:(Ϙ:π)<2^63:=by rw[yf];decide
theorem rQ:gX X (binaryOp .Add) (λx y H Q=>∃i j,x=.str i/\y=.str j/\i.length+j.length<=Ϙ/\Q (.str<|i++j) H):=by intro pins s σ H x y v u Q I d c h;obtain⟨i,j,rfl,rfl,hz,q⟩:=h;obtain⟨t,rfl⟩:=d;obtain⟨a,rfl⟩:=c;exact add_str (λa tk=>{.str<|i++j,H,I.tok _,{_,rfl},q}) hz
theorem vals1(r:Vals [x] us):∃u,us=[u]/\RelV x u:=by cases r with|cons a c=>cases c;exact{_,rfl,a}
theorem vals2(r:Vals [x,y] us):∃u a,us=[u,a]/\RelV x u/\RelV y a:=by cases r with|cons d g=>cases g with|cons e c=>cases c;exact{_,_,rfl,d,e}
theorem FX(c:X.calm=ϱ):eU X (.builtin "min") (λxs H Q=>∃i j,xs=[.int i,.int j]/\Q (.int<|if j<i then j else i) H):=by intro pins s σ H xs us Q I r h;obtain⟨i,j,rfl,q⟩:=h;obtain⟨u,d,rfl,⟨t,rfl⟩,⟨e,rfl⟩⟩:=vals2 r;refine min_two_ints (I.ok.hd c) λh' tk k=>{_,H,I.kept k,?_,q};by_cases a:j<i;rw[qb a,qb a];exact{_,rfl};rw[qa a,qa a];exact{_,rfl}
theorem uS:eU X (.type "int") (λxs H Q=>(∃i,xs=[.int i]/\Q (.int i) H)\/∃k,xs=[.bl k]/\Q (.int<|if k then 1 else 0) H):=by intro pins s σ H xs us Q I r h;rcases h with⟨i,rfl,q⟩|⟨k,rfl,q⟩;obtain⟨u,rfl,t,rfl⟩:=vals1 r;exact call_int_int {.int i,H,I,{_,rfl},q};obtain⟨u,rfl,a⟩:=vals1 r;cases a;exact call_int_bool {.int<|if k then 1 else 0,H,I.tok _,{_,rfl},q}
def Zp(K:Φ)(x:V)(H:Hp)(n:π):Prop:=match x with|.str y=>y.length<=Ϙ/\n=y.length|.Ej y=>y.size<=Ϙ/\n=y.size|.ref p=>(∃xs,iD K H p xs/\n=xs.length)\/∃xs,gW K H p xs/\n=xs.length|_=>False
theorem jC:eU X (.builtin "len") (λxs H Q=>∃x n,xs=[x]/\Zp X.K x H n/\Q (.int n) H):=by intro pins s σ H xs us Q I r h;obtain⟨x,n,rfl,e,q⟩:=h;obtain⟨u,rfl,d⟩:=vals1 r;have hl:=rP;have j:Ϙ=16777216:=yf;cases x with|str y=>(obtain⟨t,rfl⟩:=d;obtain⟨g,e'⟩:y.length<=Ϙ/\n=y.length:=e;subst e';exact len_str (by lia) {.int _,H,I.tok _,{_,rfl},q})|Ej y=>(obtain⟨t,rfl⟩:=d;obtain⟨g,e'⟩:y.size<=Ϙ/\n=y.size:=e;subst e';exact PySem.W.len_bytes (by lia) {.int _,H,I.tok _,{_,rfl},q})|ref p=>(cases d;have e':(∃xs,iD X.K H p xs/\n=xs.length)\/∃xs,gW X.K H p xs/\n=xs.length:=e;rcases e' with⟨xs,hx,e'⟩|⟨xs,hx,e'⟩;subst e';obtain⟨i,a,c,hz⟩:=I.list hx;have hlen:=a.length;exact Calls.call_len_list c.isList (by simp only[zr];lia) {.int xs.length,H,I.tok _,{_,by simp only[zr];rw[hlen]},q};subst e';obtain⟨i,a,c,hz⟩:=I.tuple hx;have hlen:=a.length;exact len_tuple c (by simp only[zr];lia) {.int xs.length,H,I.tok _,{_,by simp only[zr];rw[hlen]},q})|_=>exact(show False from e).elim
end
structure B4(h:Γ)(x dx C:ε)(mA:ρ->θ ξ):η where
 obj:h.get? x=ϑ (instObj C dx)
 ns:h.Ns1 dx mA
 ne:dx≠x
set_option tactic.hygienic true in
theorem FY{h:Γ}{dx:ε}{mA:ρ->θ ξ}(n:h.Ns1 dx mA):∃od,h.get? dx=ϑ od/\∀name,lookIn name od=ϑ (mA name):=by
 obtain⟨o,es,ep,ho,hd,hk,_,hm⟩:=n;refine{o,ho,λname=>?_};have e:=hm name;unfold nsFind findBy at e;rw[<-Array.find?_toList]at e;unfold lookIn;rw[hd];dsimp only;split;rename_i y q;rw[q]at e;exact congrArg some e;rename_i q;rw[q]at e;have a:es.toList.any (·.refKey)=ϰ:=by rw[List.any_eq_false];intro y c;obtain⟨z,t,g⟩:=hk y<|Array.mem_toList_iff.mp c;simp[DictEntry.refKey,g]
 have d:¬es.toList.any (·.refKey)=ϱ:=by rw[a];exact zd
 rw[qa d];exact congrArg some e
theorem B4.look(I:B4 h x dx C mA):∃od,PySem.W.InstAt h x (instObj C dx) C (some od)/\∀name,lookIn name od=ϑ (mA name):=
 let ⟨od,ho,hl⟩:=FY I.ns
 ⟨od,⟨I.obj,rfl,rfl,ho⟩,hl⟩
section
variable{prog:Ψ}{w:Ω}{A:ϕ}{E:ξ->ζ->η}{s:ζ}{K:Φ}{x dx C f:ε}{mA:ρ->θ ξ}{name:ρ}{v:ξ}
theorem get_map(X:K.In s.heap)(I:B4 s.heap x dx C mA)(hg:plainGet K C name=ϱ)(d:hasDictIn K C=ϱ) (ha:findIn K (.ref C) name=ϑ none) (a:mA name=ϑ v) (c:handedIn v=ϱ) (h:Q v {s with toks:=s.toks+1}): wpAny (model prog w) A (getAttr (.ref x) name expr) Q E s:=by obtain⟨od,J,hl⟩:=I.look;exact PySem.W.get_value X J (plainGet_of hg).1 (PySem.W.findObj_own d ha rfl<|by rw[hl,a]) c h
theorem Ik(X:K.In s.heap)(I:B4 s.heap x dx C mA)(hg:plainGet K C name=ϱ) (hf:findIn K (.ref C) name=ϑ (some<|.ref f)) (c:isFn K (.ref f)=ϱ) (a:mA name=ϐ) (h:Q (.ref f,[.ref x]) s): wpAny (model prog w) A (getMethod (.ref x) name pl) Q E s:=by obtain⟨od,J,hl⟩:=I.look;exact PySem.W.method_fn X J (plainGet_of hg).1 (plainGet_of hg).2 hf (beq_iff_eq.mp c) (by show(lookIn name od).map (·.isSome)=ϑ false;rw[hl,a];rfl) h
theorem LU(X:K.In s.heap)(I:B4 s.heap x dx C mA) (n:findIn K (.ref C) "__setattr__"= some (some<|.builtin "object.__setattr__")) (hp:plainOver K C=ϱ) (m:takerIn K C name=ϑ none) (p:hasDictIn K C=ϱ) (hw:PySem.Within mA ns) (hsz:ns.length<=Ϙ) (h:∀h',B4 h' x dx C (λy=>if y=name then some v else mA y)->Heap.SameBut dx s.heap h'->Q () {s with heap:=h',toks:=s.toks+2}): wpAny (model prog w) A (setAttr (.ref x) name v) Q E s:=by obtain⟨od,J,hl⟩:=I.look;refine PySem.W.set_plain X J n<|PySem.W.osa_open (s:={s with toks:=s.toks+1}) (r:=none) X J hp m λb=>?_;obtain⟨cd,j,l⟩:=PySem.W.any_some p;have hx:s.heap.get? x=ϑ {.ref C,some dx,.plain,#[]}:=I.obj;refine zc<|zB<|zc<|zc<|wpAny_loadPart hx<|zc<|PySem.W.Looks.here (s:={s with toks:=s.toks+1}) (PySem.W.looks_clsIn X j) ?_;rw[l];refine zB (a:=some dx)<|zc<|zB<|zc ?_;refine wpAny_nsSet1 (s:={s with toks:=s.toks+1}) I.ns λh' i g=>?_;obtain⟨t,o,q,c,d,e⟩:=i.count<|PySem.Within.cons name v hw;refine zc<|wpAny_lookBehind c (by rw[d];exact pastItsLine_dict<|zH e<|by rw[zR];lia) ?_;exact zB<|h _ {(g.2 _<|Ne.symm I.ne).trans I.obj,i,I.ne} g
theorem Il(X:K.In s.heap)(hm:makesIn K C=ϱ) (hi:findIn K (.ref C) "__init__"= some (some<|.ref f)) (hf:PySem.W.typeIn K (.ref f)=ϑ (.type "function")) (h:codeAny (model prog w) (A.under<|.builtin "type.__call__" {.ref C::vs,kw}) (.call (.ref f) {.ref (s.heap.objs.size+1)::vs,kw}) (PySem.W.InitBack (s.heap.objs.size+1) R) {s with heap:=(s.heap.push emptyDict).push<|instObj C s.heap.objs.size}): codeAny (model prog w) A (.call (.ref C) ⟨vs,kw⟩) R s:=by obtain⟨a,g,d,t,os⟩:=s;exact PySem.W.make_core (PySem.W.makes_of X hm) (PySem.W.looks_findIn X hi) (λself=>PySem.W.bind_fn X self hf) (.inl rfl) h
end
noncomputable def putF(f:ρ)(v:V):δ (ρ×V)->δ (ρ×V)|[]=>[(f,v)]| (g,x)::r=>if g=f then (g,v)::r else (g,x)::putF f v r
theorem pJ(f g:ρ)(v:V):∀fs:δ (ρ×V),(putF f v fs).lookup g=if g=f then some v else fs.lookup g|[]=>by show List.lookup g [(f,v)]=_;by_cases h:g=f;have hb:(g==f)=ϱ:=beq_iff_eq.mpr h;simp only[List.lookup,hb,qb h];have hb:(g==f)=ϰ:=beq_eq_false_iff_ne.mpr h;simp only[List.lookup,hb,qa h]| (k,x)::r=>by have a:=pJ f g v r;rw[show putF f v ((k,x)::r)=(if k=f then (k,v)::r else (k,x)::putF f v r) from rfl];by_cases hk:k=f;rw[qb hk];by_cases h:g=k;have hb:(g==k)=ϱ:=beq_iff_eq.mpr h;simp only[List.lookup,hb,qb<|h.trans hk];have hb:(g==k)=ϰ:=beq_eq_false_iff_ne.mpr h;simp only[List.lookup,hb,qa (λe:g=f=>h<|e.trans hk.symm)];rw[qa hk];by_cases h:g=k;have hb:(g==k)=ϱ:=beq_iff_eq.mpr h;simp only[List.lookup,hb,qa (λe:g=f=>hk<|h.symm.trans e)];have hb:(g==k)=ϰ:=beq_eq_false_iff_ne.mpr h;simp only[List.lookup,hb];exact a
theorem om(f:ρ)(v:V):∀fs:δ (ρ×V),f∈(putF f v fs).map (·.1)/\∀g,g∈fs.map (·.1)->g∈(putF f v fs).map (·.1)|[]=>{by simp[putF],λg h=>by simp at h}| (k,x)::r=>by obtain⟨i1,i2⟩:=om f v r;rw[show putF f v ((k,x)::r)=(if k=f then (k,v)::r else (k,x)::putF f v r) from rfl];by_cases hk:k=f;rw[qb hk];subst hk;exact{by simp,λg h=>by simpa using h};rw[qa hk];refine{?_,λg h=>?_};rw[zA];exact zg _ i1;rw[zA]at h⊢;rcases zj.mp h with e|e;exact zj.mpr<|.inl e;exact zg _<|i2 g e
theorem pK(f:ρ)(v:V):∀fs:δ (ρ×V),(putF f v fs).length<=fs.length+1|[]=>by simp[putF]| (k,x)::r=>by have ih:=pK f v r;rw[show putF f v ((k,x)::r)=(if k=f then (k,v)::r else (k,x)::putF f v r) from rfl];by_cases hk:k=f;rw[qb hk,zR,zR];lia;rw[qa hk,zR,zR];lia
theorem gb.some_of(r:gb (some v) o):∃u,o=ϑ u/\RelV v u:=by cases o with|none=>exact(show False from r).elim|some u=>exact⟨u,rfl,r⟩
theorem gb.none_of(r:gb none o):o=ϐ:=by cases o with|none=>rfl|some u=>exact(show False from r).elim
theorem FZ(r:RelV v u):handedIn u=ϱ:=by cases v with|ay=>(cases (show u=Value.none from r);rfl)|bl b=>(cases (show u=Value.bool b from r);rfl)|int i=>(obtain⟨t,e⟩:=(show ∃t,u=Value.int i t from r);cases e;rfl)|str x=>(obtain⟨t,e⟩:=(show ∃t,u=Value.str x t from r);cases e;rfl)|Ej b=>(obtain⟨t,e⟩:=(show ∃t,u=Value.bytes b t from r);cases e;rfl)|Pr b=>(obtain⟨t,e⟩:=(show ∃t,u=Value.float b t from r);cases e;rfl)|ref a=>(cases (show u=Value.ref a from r);rfl)|ty n=>cases (show u=Value.type n from r);rfl
section
variable{P:Ψ}{w:Ω}{H:Hp}{h:Γ}{a C dx:ε}{fs:δ (ρ×V)}
theorem qR(aG:kQ P w H h)(e:H a=ϑ (.ins C dx fs)):∃mA,B4 h a dx C mA/\(∀f,gb (fs.lookup f)<|mA f)/\PySem.Within mA (fs.map (·.1))/\fs.length<=1000/\H dx=ϑ (.own a):=by obtain⟨d,z,ne,c,mA,n,r,q⟩:=(show bf P w H h a (.ins C dx fs) from aG a _ e);exact{mA,⟨c,n,ne⟩,r,q,z,d}
end
structure qS(K:Φ)(C:ε):η where
 pg:plainGet K C Str.empty=ϱ
 hd:hasDictIn K C=ϱ
 po:plainOver K C=ϱ
 sa:findIn K (.ref C) "__setattr__"= some (some<|.builtin "object.__setattr__")
theorem qS.get{K:Φ}{C:ε}(c:qS K C)(f:ρ):plainGet K C f=ϱ:=c.pg
def jD(K:Φ)(C:ε)(f:ρ):Prop:=findIn K (.ref C) f=ϑ none
theorem jD.UT{K:Φ}{C:ε}{f:ρ}(n:jD K C f):takerIn K C f=ϑ none:=by unfold takerIn;rw[show findIn K (.ref C) f=ϑ none from n];rfl
structure Con(K:Φ)(C:ε)(f:ρ)(v:V)(u:ξ):η where
 at_:findIn K (.ref C) f=ϑ (some u)
 rel:RelV v u
 get:specialIn K u "__get__"= some none
 cp:PySem.W.copiedNames.contains f=ϰ
structure Meth(K:Φ)(C:ε)(m:ρ)(f:ε):η where
 at_:findIn K (.ref C) m=ϑ (some<|.ref f)
 fn:isFn K (.ref f)=ϱ
 kp:keepIn K (.ref f)=ϱ
section
variable{X:Cx}{pins:δ (ε×Obj)}{σ:St}{H:Hp}{s:ζ}{a C dx:ε}{fs:δ (ρ×V)}{f:ρ}{v:V}{A:ϕ}{E:ξ->ζ->η}
theorem B5(I:Inv X pins σ H s)(e:H a=ϑ (.ins C dx fs))(c:qS X.K C)(n:jD X.K C f)(l:fs.lookup f=ϑ v) (h:∀u s',Inv X pins σ H s'->RelV v u->Q u s'):wpAny (model X.prog X.w) A (getAttr (.ref a) f b) Q E s:=by obtain⟨mA,O,r,_,_,_⟩:=qR I.aG e;obtain⟨u,hu,d⟩:=gb.some_of (v:=v) (o:=mA f) (by rw[<-l];exact r f);exact get_map I.n5 O (c.get f) c.hd n hu (FZ d)<|h u _ (I.tok _) d
theorem rR(I:Inv X pins σ H s)(e:H a=ϑ (.ins C dx fs))(c:qS X.K C)(k:Meth X.K C m g)(l:fs.lookup m=ϐ) (h:Q (.ref g,[.ref a]) s):wpAny (model X.prog X.w) A (getMethod (.ref a) m pl) Q E s:=by obtain⟨mA,O,r,_,_,_⟩:=qR I.aG e;have hn:mA m=ϐ:=gb.none_of (by rw[<-l];exact r m);exact Ik I.n5 O (c.get m) k.at_ k.fn hn h
theorem B6(I:Inv X pins σ H s)(e:H a=ϑ (.ins C dx fs))(c:qS X.K C)(n:jD X.K C f)(hl:fs.length<1000)(j:RelV y u) (h:∀s',Inv X pins σ (upd H a<|.ins C dx<|putF f y fs) s'->Q () s'):wpAny (model X.prog X.w) A (setAttr (.ref a) f u) Q E s:=by
 obtain⟨mA,O,r,wi,_,ho⟩:=qR I.aG e;have hz:(fs.map (·.1)).length<=sizeLine:=by rw[zb,yf];lia
 refine LU I.n5 O c.sa c.po n.UT c.hd wi hz λh' d sb=>h _ ?_;have hd:∃o,h'.get? dx=ϑ o:=by obtain⟨o,_,_,e',_⟩:=d.ns;exact⟨o,e'⟩
 refine I.write (x:=a) (e:=dx) (by rw[e];exact True.intro) (.inr ho) (λb q i z=>(sb.2 b i).trans z) hd ?_;refine{by rw[au O.ne];exact ho,?_,O.ne,d.obj,_,d.ns,λg=>?_,λg hg=>?_};have:=pK f y fs;lia;show gb ((putF f y fs).lookup g) (if g=f then some u else mA g);rw[pJ];by_cases q:g=f;rw[qb q,qb q];exact j;rw[qa q,qa q];exact r g;by_cases q:g=f;rw[q];exact(om f y fs).1;refine(om f y fs).2 g<|wi g λz=>hg ?_;show(if g=f then some u else mA g)=ϐ;rw[qa q];exact z
theorem Inv.made(I:Inv X pins σ H s):Inv X pins σ (upd (upd H s.heap.objs.size<|.own<|s.heap.objs.size+1) (s.heap.objs.size+1)<|.ins C s.heap.objs.size []) {s with heap:=(s.heap.push emptyDict).push<|instObj C s.heap.objs.size}:=by
 have e1:(s.heap.push emptyDict).get? s.heap.objs.size=ϑ emptyDict:=zp s.heap rfl;have e2:((s.heap.push emptyDict).push<|instObj C s.heap.objs.size).get? (s.heap.objs.size+1)=ϑ (instObj C s.heap.objs.size):=by have:=zp (s.heap.push emptyDict) (o:=instObj C s.heap.objs.size) rfl;rwa [yg]at this
 have e3:(s.heap.push emptyDict).Ns s.heap.objs.size (λ_=>none):={emptyDict,#[],_,e1,rfl,(λe c=>absurd c<|by simp),λ_=>rfl};have g:=I.laid (a:=s.heap.objs.size) (o:=.own<|s.heap.objs.size+1) (h':=s.heap.push emptyDict) (t':=s.toks) (λb u q=>za _ q) (zk _) {_,e1};refine g.laid (a:=s.heap.objs.size+1) (o:=.ins C s.heap.objs.size []) (t':=s.toks) (λb u q=>za _ q) (Nat.le_of_eq<|yg _ _) ?_;have ne:s.heap.objs.size≠s.heap.objs.size+1:=zC<|Nat.lt_succ_self _;refine{by rw[au ne,aC],yb _,ne,e2,λ_=>none,(Heap.Ns1.of_empty e3).at λo q=>za _ q,λ_=>True.intro,λy d=>absurd rfl d}
theorem LV(a:attributeBase e f env (eval e env)=eval e env) (h:wpAny (model prog w) A (eval e env) (λo aY=>wpAny (model prog w) A (getAttr o f true) Q E aY) E s):wpAny (model prog w) A (eval (.Attribute e f pos) env) Q E s:=Attribute_any_ h<|by rw[arm_eval_Attribute,a]
end
def Zr(K:Φ)(ta:TE)(f:ρ):TE:=λσ H Q=>ta σ H λx H1=>∃a C dx fs v,x=.ref a/\H1 a=ϑ (.ins C dx fs)/\qS K C/\jD K C f/\fs.lookup f=ϑ v/\Q v H1
def Zs(K:Φ)(ta tv:TE)(f:ρ):TS:=λD σ H=>tv σ H λy H1=>ta σ H1 λx H2=>∃a C dx fs,x=.ref a/\H2 a=ϑ (.ins C dx fs)/\qS K C/\jD K C f/\fs.length<1000/\D.nx σ (upd H2 a<|.ins C dx<|putF f y fs)
section
variable{X:Cx}{o e value:Δ}{f:ρ}{pos pos':Pos}{ta tv:TE}
theorem Qf(j:PE X e ta)(o:attributeBase e f X.env (eval e X.env)=eval e X.env):PE X (.Attribute e f pos) (Zr X.K ta f):=by intro pins s σ H Q I h;refine LV o<|bp (j pins s σ H _ I h) λu s1 ⟨x,H1,m,p,a,C,dx,fs,v,ex,d,c,n,l,q⟩=>?_;subst ex;obtain rfl:u=Value.ref a:=p;exact B5 m d c n l λr s2 i g=>⟨v,H1,i,g,q⟩
theorem Qg(ha:PE X o ta)(r:PE X value tv)(v:swapsWith value (some<|.Attribute o f pos') pos.line X.env=pure false):PS X (.Assign [.Attribute o f pos'] value pos) (Zs X.K ta tv f):=by intro pins s σ H D I h;refine plainObj_wpAny_Assign_Attribute (bp (r pins s σ H _ I h) λu s1 ⟨y,H1,i,m,q⟩=>bp (ha pins s1 σ H1 _ i q) λe s2 ⟨x,H2,g,p,a,C,dx,fs,ex,t,c,n,l,j⟩=>?_) v;subst ex;obtain rfl:e=Value.ref a:=p;exact B6 g t c n l m λw d=>{σ,_,d,j}
end
section
variable{X:Cx}{pins:δ (ε×Obj)}{σ:St}{H:Hp}{s:ζ}{A:ϕ}{E Q:ξ->ζ->η}{c:ξ}{b:χ}
inductive oo (K:Φ) (H:Hp):V->ξ->η where
 |ay:oo K H .ay (.type "NoneType")
 |bl (x:χ):oo K H (.bl x) (.type "bool")
 |int (i:ν):oo K H (.int i) (.type "int")
 |str (x:ρ):oo K H (.str x) (.type "str")
 |Pr (x:UInt64):oo K H (.Pr x) (.type "float")
 |lst {a:ε}{xs:δ V} (e:H a=ϑ (.lst xs)):oo K H (.ref a) (.type "list")
 |lA {a:ε}{o:Obj}{xs:δ V} (e:H a=ϑ (.lA o<|.lst xs)):oo K H (.ref a) (.type "list")
 |tup {a:ε}{xs:δ V} (e:H a=ϑ (.tup xs)):oo K H (.ref a) (.type "tuple")
 |dK {a:ε}{kvs:δ<|Key×V} (e:H a=ϑ (.dK kvs)):oo K H (.ref a) (.type "dict")
 |dT {a:ε}{kvs:δ<|δ Key×V} (e:H a=ϑ (.dT kvs)):oo K H (.ref a) (.type "dict")
 |ins {a C dx:ε}{fs:δ<|ρ×V} (e:H a=ϑ (.ins C dx fs)) (cl:qS K C) (ha:findIn K (.ref C) "__class__"= some (some<|.builtin "object.__class__"))
   (hn:specialIn K (.builtin "object.__class__") "__get__"= some (some<|.builtin "getset_descriptor.__get__")) (htk:PySem.W.takesIn K (.builtin "object.__class__")=ϑ true)
   (hm:mroIn K C (.type "object")=ϑ true):oo K H (.ref a) (.ref C)
theorem F7{u t:ξ}(I:Inv X pins σ H s)(g:RelV x u)(ty:oo X.K H x t)(e:kitOne X.K t c=ϑ b)(h:∀tk,Q (.bool b) {s with toks:=tk}): wpAny (model X.prog X.w) A (call (.builtin "isinstance") [u,c]) Q E s:=by cases ty with|ay=>(cases (show u=Value.none from g);exact kia_one PySem.W.kitx_none I.n5 True.intro e (λz=>nomatch z) h)|bl y=>(cases (show u=Value.bool y from g);exact kia_one PySem.W.kitx_bool I.n5 True.intro e (λz=>nomatch z) h)|int i=>(obtain⟨t,q⟩:=(show ∃t,u=Value.int i t from g);cases q;exact kia_one PySem.W.kitx_int I.n5 True.intro e (λz=>nomatch z) h)|str y=>(obtain⟨t,q⟩:=(show ∃t,u=Value.str y t from g);cases q;exact kia_one PySem.W.kitx_str I.n5 True.intro e (λz=>nomatch z) h)|Pr y=>(obtain⟨t,q⟩:=(show ∃t,u=Value.float y t from g);cases q;exact kia_one PySem.W.kitx_float I.n5 True.intro e (λz=>nomatch z) h)|@lst a xs d=>(cases (show u=Value.ref a from g);obtain⟨_,_,n,_,h1⟩:=(show bf X.prog X.w H s.heap a (.lst xs) from I.aG a _ d);exact kia_one kitx_list I.n5 {_,h1,rfl} e (λz=>nomatch z) h)|@lA a j xs d=>(cases (show u=Value.ref a from g);obtain⟨_,_,_,n,_,h1⟩:=(show bf X.prog X.w H s.heap a (.lA j<|.lst xs) from I.aG a _ d);exact kia_one kitx_list I.n5 {_,h1,rfl} e (λz=>nomatch z) h)|@tup a xs d=>(cases (show u=Value.ref a from g);obtain⟨_,_,_,p⟩:=(show bf X.prog X.w H s.heap a (.tup xs) from I.aG a _ d);obtain⟨o,h1,h2,_⟩:=p;exact kia_one PySem.W.kitx_tuple I.n5 ⟨o,h1,h2⟩ e (λz=>nomatch z) h)|@dK a kvs d=>(cases (show u=Value.ref a from g);obtain⟨_,_,vs,_,p⟩:=(show bf X.prog X.w H s.heap a (.dK kvs) from I.aG a _ d);obtain⟨o,es,ep,h1,h2,_⟩:=p;exact kia_one PySem.W.kitx_dict I.n5 ⟨o,h1,h2.1⟩ e (λz=>nomatch z) h)|@dT a kvs d=>exact False.elim (show bf X.prog X.w H s.heap a (.dT kvs) from I.aG a _ d)|@ins a C dx fs d cl ha hn htk hm=>cases (show u=Value.ref a from g);obtain⟨mA,O,_⟩:=qR I.aG d;obtain⟨od,J,_⟩:=O.look;exact kia_one (PySem.W.kitx_own (cl.get _) cl.hd ha hn htk hm) I.n5 J e (λz=>nomatch z) h
end
structure bX(k:π)(A:ϕ):η where
 hd:A.handled=ϐ
 dp:A.depth+3*k+5<recursionLimit
 un:A.units+16*k+200<cLine
theorem bX.mono(r:bX k A)(h:j<=k):bX j A:={r.hd,by have:=r.dp;lia,by have:=r.un;lia}
theorem bX.deeper(r:bX (k+1) A)(env:Env):bX k (A.deeper env):={r.hd,by have:=r.dp;show A.depth+1+3*k+5<_;lia,by have:=r.un;show A.units+3+16*k+200<_;lia}
theorem bX.in1(r:bX (k+1) A):bX k A.in1:={r.hd,by have:=r.dp;show A.depth+3*k+5<_;lia,by have:=r.un;show A.units+1+16*k+200<_;lia}
theorem B7{A:ϕ}{C:ε}{us:δ ξ}{kw:δ<|ρ×ξ} : (A.under<|.builtin "type.__call__" {.ref C::us,kw}).depth=A.depth+1:=by first|rfl|simp[Around.under,Code.weight,Code.isCreation,Code.isGuard,Code.isCaller,Code.frames,Code.isFrame,guardIds]
theorem B8{A:ϕ}{C:ε}{us:δ ξ}{kw:δ<|ρ×ξ} : (A.under<|.builtin "type.__call__" {.ref C::us,kw}).units=A.units+1:=by first|rfl|simp[Around.under,Code.cUnits,Code.frames,Code.isFrame]
theorem bX.make(r:bX (k+1) A)(C:ε)(us:δ ξ)(kw:δ<|ρ×ξ):bX k (A.under<|.builtin "type.__call__" {.ref C::us,kw}):={r.hd,by have:=r.dp;rw[B7];lia,by have:=r.un;rw[B8];lia}
theorem bX.depth(r:bX k A):A.depth<recursionLimit:=by have:=r.dp;lia
theorem bX.units(r:bX k A):A.units+64<cLine:=by have:=r.un;lia
def Zu:TA:=λ_ H Q=>Q [] H
def Oe(ta:TE)(tr:TA):TA:=λσ H Q=>ta σ H λx H1=>tr σ H1 λxs H2=>Q (x::xs) H2
section
variable{X:Cx}{e:Δ}{es:δ Δ}{te:TE}{t:TA}{pos:Pos}
theorem B9:PA X [] Zu:=λ_ _ _ _ H Q I h=>Calls.spliced_nil {[],H,I,.nil,h}
theorem LW(ha:PE X e te)(hr:PA X es t)(d:ψ (starEach (e::es) X.env=(false,eval e X.env)::starEach es X.env) qQJ):PA X (e::es) (Oe te t):=by intro pos pins s σ H Q I h;rw[d];show wpAny _ _ (spliced<|(false,eval e X.env)::backTo pos (starEach es X.env)) _ _ s;refine yO<|bp (ha pins s σ H _ I h) λu s1 ⟨x,H1,g,i,a⟩=>?_;exact bp (hr pos pins s1 σ H1 _ g a) <| by rintro us s2 ⟨xs,H2,c,j,l⟩;exact{x::xs,H2,c,.cons i j,l}
def Zv(t:TA):TE:=λσ H Q=>t σ H λxs H1=>xs.length<=Ϙ/\∀p,H1 p=ϐ->Q (.ref p) (upd H1 p<|.tup xs)
def Zw(t:TA):TE:=λσ H Q=>t σ H λxs H1=>xs.length<=Ϙ/\∀p,H1 p=ϐ->Q (.ref p) (upd H1 p<|.lst xs)
theorem Qh{x1}(h:PA X es t):PE X (.Tuple es x1 pos) (Zv t):=by intro pins s σ H Q I c;refine wpAny_Tuple_spliced<|bp (h pos pins s σ H _ I c) λus s1 ⟨xs,H1,a,r,z,q⟩=>{by rw[<-r.length];exact z,?_};have hf:H1 s1.heap.objs.size=ϐ:=a.aG.fresh<|zk _;refine{.ref s1.heap.objs.size,upd H1 s1.heap.objs.size<|.tup xs,a.laid (t':=s1.toks) (λb u e=>za _ e) (zk _) ?_,rfl,q _ hf};exact{z,us,r,{_,zp _ rfl,rfl,rfl,_,rfl}}
theorem Qi(h:PA X es t):PE X (.List es pos) (Zw t):=by intro pins s σ H Q I c;refine wpAny_List_spliced<|bp (h pos pins s σ H _ I c) λus s1 ⟨xs,H1,a,r,z,q⟩=>{by rw[<-r.length];exact z,?_};have hf:H1 s1.heap.objs.size=ϐ:=a.aG.fresh<|zk _;refine{.ref s1.heap.objs.size,upd H1 s1.heap.objs.size<|.lst xs,a.laid (t':=s1.toks) (λb u e=>za _ e) (zk _) ?_,rfl,q _ hf};exact{z,us,0,r,zp _ rfl}
end
abbrev Sp:=δ V->Hp->VK->XK->η
abbrev B_:=δ Env->Hp->ζ->XK->ξ->ζ->η
structure Ae(P:Ψ)(w:Ω)(K:Φ)(mg:ρ->θ ξ)(base:Γ)(A:ϕ)(outer:δ Env)(s:ζ)(H:Hp):η where
 frames:A.frames=ϑ outer
 mod:Mod K mg base
 bs:∀b o,base.get? b=ϑ o->s.heap.get? b=ϑ o/\H b=ϐ
 FL:base.objs.size<=s.heap.objs.size
 kR:s.heap.FunFrames base outer
 HV:∀b∈lN outer,H b=ϐ
 aG:kQ P w H s.heap
 bare:AllBare s.gens
def CE(outer:δ Env)(P:Ψ)(w:Ω)(H:Hp)(s:ζ)(Q:VK)(u:ξ)(s':ζ):Prop:=∃v H',s'.os=s.os/\AllBare s'.gens/\Un (lN outer) [] H H' s.heap s'.heap/\kQ P w H' s'.heap/\RelV v u/\Q v H'
def CR(CX:B_)(outer:δ Env)(P:Ψ)(w:Ω)(H:Hp)(s:ζ)(Q:VK)(E:XK)(r:Result)(s':ζ):Prop:=match r with|.ok (.ret u)=>CE outer P w H s Q u s'|.ok _=>False|.error e=>CX outer H s E e s'
structure bS(P:Ψ)(w:Ω)(K:Φ)(mg:ρ->θ ξ)(base:Γ)(CX:B_)(k:π)(f:ε)(fd:FuncData)(ps:δ ρ)(sp:Sp):η where
 len:∀vs H Q E,sp vs H Q E->vs.length=ps.length
 run:∀(A:ϕ)(outer:δ Env)(s:ζ)(H:Hp)(args:Args)(us:δ ξ)(vs:δ V)(Q:VK)(E:XK),bX k A->Ae P w K mg base A outer s H->BindsTo s fd args (ps.zip us)->Vals vs us->sp vs H Q E ->
  codeAny (model P w) A (.call (.ref f) args) (CR CX outer P w H s Q E) s
theorem bS.mono{P:Ψ}{w:Ω}{K:Φ}{mg:ρ->θ ξ}{base:Γ}{CX:B_}{j k:π}{f:ε}{fd:FuncData}{ps:δ ρ}{sp:Sp}(F:bS P w K mg base CX j f fd ps sp)(h:j<=k): bS P w K mg base CX k f fd ps sp:={F.len,λA outer s H args us vs Q E hr=>F.run A outer s H args us vs Q E<|hr.mono h}
theorem bS.imp{P:Ψ}{w:Ω}{K:Φ}{mg:ρ->θ ξ}{base:Γ}{CX:B_}{k:π}{f:ε}{fd:FuncData}{ps:δ ρ}{sp a:Sp}(F:bS P w K mg base CX k f fd ps sp) (h:∀vs H Q E,a vs H Q E->sp vs H Q E):bS P w K mg base CX k f fd ps a:={λvs H Q E q=>F.len vs H Q E<|h _ _ _ _ q,λA outer s H args us vs Q E hr g e c d=>F.run A outer s H args us vs Q E hr g e c<|h _ _ _ _ d}
theorem Ae.make{P:Ψ}{w:Ω}{K:Φ}{mg:ρ->θ ξ}{base:Γ}{A:ϕ}{outer:δ Env}{s:ζ}{H:Hp}(e:Ae P w K mg base A outer s H)(C:ε)(us:δ ξ)(kw:δ<|ρ×ξ): Ae P w K mg base (A.under<|.builtin "type.__call__" {.ref C::us,kw}) outer s H:={by first|exact e.frames|(simpa [Around.under,Code.envs,Code.isFrame,pushEnvs]using e.frames),e.mod,e.bs,e.FL,e.kR,e.HV,e.aG,e.bare}
section
variable{X:Cx}{pins:δ (ε×Obj)}{σ:St}{H:Hp}{s s':ζ}
theorem Inv.UU(I:Inv X pins σ H s):Ae X.prog X.w X.K X.mg X.base X.A X.stack s H:={I.ok.frames,I.ok.mod,I.bs,zH I.ok.FL I.sz,I.stack,I.qO,I.aG,I.bare}
theorem Inv.after(I:Inv X pins σ H s)(h:CE X.stack X.prog X.w H s Q u s'):EP X pins σ Q u s':=by obtain⟨v,H',os,bare,un,aG,r,q⟩:=h;obtain⟨c,g,d,t,a⟩:=s';obtain rfl:a=s.os:=os;exact{v,H',I.call (h':=c) (g':=g) (d':=d) (t':=t) (ch:=[]) un aG bare λb z=>absurd z<|by simp,r,q}
end
def Binds(K:Φ)(fd:FuncData)(ps:δ ρ)(ds:δ ξ):Prop:=∀(s:ζ)(us:δ ξ),K.In s.heap->(us++ds).length=ps.length->BindsTo s fd {us,[]} (ps.zip<|us++ds)
theorem Binds.all{K:Φ}{fd:FuncData}{ps:δ ρ}(h:∀us:δ ξ,us.length=ps.length->bindArgs fd {us,[]}=pure (ps.zip us)):Binds K fd ps []:=λs us _ hl=>by rw[List.append_nil]at hl⊢;exact .of_eq<|h us hl
def Passes(CX:B_)(X:Cx)(E:XK):Prop:=∀(pins:δ (ε×Obj))(σ:St)(H:Hp)(s:ζ)(e:ξ)(s':ζ),Inv X pins σ H s->CX X.stack H s E e s'->X.xe e s'
section
variable{f C:ε}
structure Mk(K:Φ)(C f:ε):η where
 makes:makesIn K C=ϱ
 init:findIn K (.ref C) "__init__"= some (some<|.ref f)
 fn:isFn K (.ref f)=ϱ
 kp:keepIn K (.ref C)=ϱ
end
section
variable{fd:FuncData}{ps ks:δ ρ}
structure Zx(K:Φ)(fd:FuncData)(ps ks:δ ρ)(g:δ ξ->δ ξ->δ ξ)(gV:δ V->δ V->δ V):η where
 to:∀(s:ζ)(us ws:δ ξ),K.In s.heap->(g us ws).length=ps.length->BindsTo s fd {us,ks.zip ws} (ps.zip<|g us ws)
 rel:∀{vs:δ V}{us:δ ξ}{zs:δ V}{ws:δ ξ},Vals vs us->Vals zs ws->Vals (gV vs zs) (g us ws)
variable{g:δ ξ->δ ξ->δ ξ}{gV:δ V->δ V->δ V}
end
structure gu(N P:δ ρ)(sc:Scope):η where
 kind:sc.kind=.function
 co:sc.isCoroutine=ϰ
 gen:sc.isGenerator=ϰ
 nd:N.Nodup
 pre:N.take P.length=P
 par:∀x∈P,sc.names.lookup x=ϑ .local\/sc.names.lookup x=ϑ .cell
 Qj:∀y∈sc.names,y.2≠.free
theorem uT{kindOf:ρ->θ NameKind}{x:ρ} : ∀{binds:δ (ρ×ξ)}{m:ρ->θ ξ},(∀v,(x,v)∉binds)->bindL kindOf binds m x=m x
 |[],_,_=>rfl
 | (n,v)::r,m,h=>by
  unfold bindL;rw[uT λw hw=>h w<|zg _ hw];split;have:x≠n:=by rintro rfl;exact h v zq
  simp[this];rfl
theorem uU{kindOf:ρ->θ NameKind}{x:ρ} : ∀{binds:δ (ρ×ξ)}{m:ρ->θ ξ},(∀v,(x,v)∉binds)->bindC kindOf binds m x=m x
 |[],_,_=>rfl
 | (n,v)::r,m,h=>by
  unfold bindC;rw[uU λw hw=>h w<|zg _ hw];split;rfl;have:x≠n:=by rintro rfl;exact h v zq
  simp[this]
theorem uV{kindOf:ρ->θ NameKind}{x:ρ}{v:ξ} : ∀{P:δ ρ}{vs:δ ξ}{i:π}{m:ρ->θ ξ},P.Nodup->P[i]?=some x->vs[i]?=some v->kindOf x=ϑ .local->bindL kindOf (P.zip vs) m x=ϑ v|[],_,_,_,_,h,_,_=>by simp at h|_::_,[],_,_,_,_,h,_=>by simp at h|p::P,w::vs,0,m,nd,h1,h2,hk=>by simp at h1 h2;subst h1;subst h2;show bindL kindOf ((p,w)::P.zip vs) m p=_;unfold bindL;rw[uT λv a=>(yr.mp nd).1 (List.of_mem_zip a).1,qb hk];simp|p::P,w::vs,i+1,m,nd,h1,h2,hk=>by show bindL kindOf ((p,w)::P.zip vs) m x=_;unfold bindL;exact uV (i:=i) (yr.mp nd).2 (by simpa using h1) (by simpa using h2) hk
theorem uW{kindOf:ρ->θ NameKind}{x:ρ}{v:ξ} : ∀{P:δ ρ}{vs:δ ξ}{i:π}{m:ρ->θ ξ},P.Nodup->P[i]?=some x->vs[i]?=some v->kindOf x≠some .local->bindC kindOf (P.zip vs) m x=ϑ v|[],_,_,_,_,h,_,_=>by simp at h|_::_,[],_,_,_,_,h,_=>by simp at h|p::P,w::vs,0,m,nd,h1,h2,hk=>by simp at h1 h2;subst h1;subst h2;show bindC kindOf ((p,w)::P.zip vs) m p=_;unfold bindC;rw[uU λv a=>(yr.mp nd).1 (List.of_mem_zip a).1,qa hk];simp|p::P,w::vs,i+1,m,nd,h1,h2,hk=>by show bindC kindOf ((p,w)::P.zip vs) m x=_;unfold bindC;exact uW (i:=i) (yr.mp nd).2 (by simpa using h1) (by simpa using h2) hk
noncomputable def start(N:δ ρ)(vs:δ V):St:=vs.map some++List.replicate (N.length-vs.length) none
def kT(CX:B_)(P:Ψ)(w:Ω)(K:Φ)(mg:ρ->θ ξ)(base:Γ)(N:δ ρ)(qual:ρ)(scope:Scope)(f:ε)(cd:ξ)(A:ϕ)(outer:δ Env)(s:ζ)(H:Hp)(E:XK):Cx where
 prog:=P
 w:=w
 K:=K
 mg:=mg
 base:=base
 A:=A.deeper<|envOfC qual scope s.heap.objs.size f cd
 N:=N
 dI:=s
 vY:=H
 env:=envOfC qual scope s.heap.objs.size f cd
 outer:=outer
 stack:=envOfC qual scope s.heap.objs.size f cd::outer
 ex:=[]
 calm:=true
 fn:=λ_=>true
 pn:=[]
 xe:=λe s'=>wpAny (model P w) (A.deeper<|envOfC qual scope s.heap.objs.size f cd) (leaving (envOfC qual scope s.heap.objs.size f cd) e) (λ_ Ca=>CX outer H s E e Ca) (λe' Ca=>CX outer H s E e' Ca) s'
theorem Af{sc:Scope}{n:π}{x:ρ}(h:sc.names.lookup x=ϑ .cell):∃c,(cellsFrom n sc.names []).lookup x=ϑ c:=by have q:=PySem.W.cellsFrom_some sc.names n []<|.inl h;exact Option.isSome_iff_exists.mp q
theorem F8{CX:B_}{P:Ψ}{w:Ω}{K:Φ}{mg:ρ->θ ξ}{base:Γ}{N ps:δ ρ}{qual:ρ}{scope:Scope}{f:ε}{cd:ξ}{A:ϕ}{outer:δ Env}{s s1:ζ}{H:Hp}{E:XK}{us:δ ξ}{vs:δ V} (S:gu N ps scope) (hd:A.handled=ϐ) (d:Ae P w K mg base A outer s H) (hl:vs.length=ps.length) (r:Vals vs us) (x:InCallC s s.heap.objs.size (bindL (envOfC qual scope s.heap.objs.size f cd).kindOf (ps.zip us) λ_=>none) (cellsFrom (s.heap.objs.size+1) scope.names []) (bindC (envOfC qual scope s.heap.objs.size f cd).kindOf (ps.zip us) λ_=>none) s1): Inv (kT CX P w K mg base N qual scope f cd A outer s H E) [] (start N vs) H s1:=by
 have o:ps.length<=N.length:=by have:=congrArg List.length S.pre;rw[zE]at this;lia
 obtain⟨h1,tk,rfl,hk⟩:=x.done;have l:∀b:ε,b∉(kT CX P w K mg base N qual scope f cd A outer s H E).ex:=λb z=>absurd (show b∈([]:δ ε) from z) (by simp);refine{{d.mod,S.kind,rfl,rfl,zk _,λy z c h1 h2=>?_,λy g=>?_,λy c _ h=>?_,λ_=>hd,Around.frames_deeper d.frames,.inr ⟨rfl,rfl⟩,λb z=>absurd z<|l b,d.bs,d.FL,λb _ _=>l b,λb z=>absurd z<|l b,d.kR,d.HV},rfl,d.bare,Un.kept hk,{_,x.toInCall.ns,λi y v h1 h2 t=>?_},λy c h=>{_,x.cell y c h},d.aG.fresh<|zk _,λy c h=>?_,λp hp=>absurd (show p∈([]:δ (ε×Obj)) from hp)<|by simp,d.aG.kept hk,?_};exact name_of_addr x.apart (yt h1)<|yt h2;have g:scope.names.lookup y=ϑ .cell\/scope.names.lookup y=ϑ .free:=g;rcases g with g|g;exact Af g;exact absurd rfl<|S.Qj _<|yt g;exact yR<|x.above y c<|yt h;have hi:i<vs.length:=by unfold start at h2;by_cases hi:i<vs.length;exact hi;rw[List.getElem?_append_right<|by simpa using hi]at h2;rw[List.getElem?_replicate]at h2;split at h2<;>cases h2
 have ha:vs[i]?=some v:=by unfold start at h2;rw[List.getElem?_append_left<|by simpa using hi,zm]at h2;cases e:vs[i]? with|none=>(rw[e]at h2;cases h2)|some a=>rw[e]at h2;cases h2;rfl
 obtain⟨u,hu,m⟩:=r.get ha;have hp:ps[i]?=some y:=by rw[<-S.pre,List.getElem?_take_of_lt<|by lia];exact h1
 have j:ps.Nodup:=by rw[<-S.pre];exact S.nd.sublist<|List.take_sublist _ _
 refine{u,m,?_};rcases S.par y (zD hp) with k|k;exact .inl {k,uV j hp hu k};obtain⟨c,e⟩:=Af (n:=s.heap.objs.size+1) k;refine .inr {.inl k,c,e,?_};have q:=x.cell y c e;rw[uW j hp hu<|by show scope.names.lookup y≠_;rw[k];decide]at q;exact q;exact d.aG.fresh<|yR<|x.above y c<|yt h;unfold start;show _=N.length;rw[zo,zb,List.length_replicate];lia
theorem Of{CX:B_}{P:Ψ}{w:Ω}{K:Φ}{mg:ρ->θ ξ}{base:Γ}{k:π}{f:ε}{name qual:ρ}{params:Arguments}{body:δ Stmt}{scope:Scope}{dV kV doc pm gv ct oc:ξ}{an od:θ ε} {Ql:Array<|θ ξ}{N ps:δ ρ}{sp:Sp} (lk:K.lookup f=ϑ {oc,od,.func<|fnOf name qual params body scope dV kV doc pm an gv ct,Ql}) (B:codeIn K gv qual=ϱ) (S:gu N ps scope) (len:∀vs H Q E,sp vs H Q E->vs.length=ps.length) (C:∀(A:ϕ)(outer:δ Env)(s:ζ)(H:Hp)(vs:δ V)(Q:VK)(E:XK),bX k (A.deeper<|envOfC qual scope s.heap.objs.size f gv)->sp vs H Q E->∃t,BV (kT CX P w K mg base N qual scope f gv A outer s H E) body t/\t {nx:=λ_ H'=>Q .ay H',rt:=Q} (start N vs) H): bS P w K mg base CX (k+1) f (fnOf name qual params body scope dV kV doc pm an gv ct) ps sp:=by
 refine{len,λA outer s H args us vs Q E hr d m r i=>?_};have hl:=len _ _ _ _ i;have KX:K.In s.heap:=d.mod.Td.keeps λb o e=>(d.bs b o e).1;have g:s.heap.NoLimit:=d.mod.nolimit.keeps λb o e=>(d.bs b o e).1;have p:∀y∈ps.zip us,scope.names.lookup y.1=ϑ .local\/(scope.names.lookup y.1=ϑ .cell/\((cellsFrom (s.heap.objs.size+1) scope.names []).lookup y.1).isSome=ϱ):=by rintro⟨n,v⟩ j;rcases S.par n (List.of_mem_zip j).1 with q|q;exact .inl q;exact .inr {q,PySem.W.cellsFrom_some _ _ _<|.inl q}
 refine codeAny_call_function hr.depth (KX _ _ lk) rfl S.co S.gen rfl (PySem.W.codeRec_of KX B)<|m _ _ _ _ ?_;refine wpAny_newFunctionEnv_cells S.kind p λenv F s1 x=>?_;subst F;refine{g.keeps x.toInCall.keep,codeAny_func ?_};obtain⟨t,z,l⟩:=C A outer s H vs Q E (hr.deeper _) i;have I:Inv (kT CX P w K mg base N qual scope f gv A outer s H E) [] (start N vs) H s1:=F8 S hr.hd d hl r x;refine yz (z [] s1 (start N vs) H _ I l) (λfl s' a=>?_) λe s' a=>a;have c:∀{av:St}{H':Hp}{v:V}{u:ξ},Inv (kT CX P w K mg base N qual scope f gv A outer s H E) [] av H' s'->RelV v u->Q v H'->CE outer P w H s Q u s':=λ{av H' v u} J h q=>⟨v,H',J.os,J.bare,J.base,J.aG,h,q⟩;cases fl with|ret u=>(obtain⟨v,av,H',J,h,q⟩:=a;exact c J h q)|next=>(obtain⟨av,H',J,q⟩:=a;exact c (v:=V.ay) (u:=Value.none) J rfl q)|brk=>(obtain⟨_,_,_,q⟩:=a;exact False.elim q)|cont=>obtain⟨_,_,_,q⟩:=a;exact False.elim q
section
variable{X:Cx}{x:ρ}{p pos:Pos}{e:Δ}{es:δ Δ}{t:TA}{id T:String}{r:δ V->Hp->VK->η}
def Zy(r:δ V->Hp->VK->η)(t:TA):TE:=λσ H Q=>t σ H λvs H1=>r vs H1 Q
theorem Ag(a:eU X (.builtin id) r)(hg:Gl X x)(hm:X.mg x=ϐ)(c:bootBuiltins x=ϑ (.builtin id))(ha:PA X (e::es) t)(hn:ψ (x≠"__name__") qQZ)(l:ψ ((x==("__debug__": ρ))=ϰ) qQZ) (m:ψ (starEach (e::es) X.env=(false,eval e X.env)::starEach es X.env) qQJ) (g:ψ ((backTo pos<|starEach es X.env).any (·.1)=ϰ) qQJ):PE X (.Call (.Name x p) (e::es) [] pos) (Zy r t):=by intro pins s σ H Q I h;refine wpAny_Call_Name_kw<|fE I hg hm c ?_ hn l;exact PyProof.Rows.callWith_builtin1 (bp (ha pos pins s σ H _ I h) <| by rintro us s1 ⟨vs,H1,i,j,d⟩;exact a pins s1 σ H1 vs us Q i j d) m g
theorem uX(a:eU X (.type T) r)(hg:Gl X x)(hm:X.mg x=ϐ)(c:bootBuiltins x=ϑ (.type T))(ha:PA X (e::es) t)(hn:ψ (x≠"__name__") qQZ)(l:ψ ((x==("__debug__": ρ))=ϰ) qQZ) (m:ψ (starEach (e::es) X.env=(false,eval e X.env)::starEach es X.env) qQJ) (g:ψ ((backTo pos<|starEach es X.env).any (·.1)=ϰ) qQJ):PE X (.Call (.Name x p) (e::es) [] pos) (Zy r t):=by intro pins s σ H Q I h;refine wpAny_Call_Name_kw<|fE I hg hm c ?_ hn l;exact PyProof.Rows.callWith_type1 (bp (ha pos pins s σ H _ I h) <| by rintro us s1 ⟨vs,H1,i,j,d⟩;exact a pins s1 σ H1 vs us Q i j d) m g
end
end L2
namespace HT
open PySem PyProof.Rows
section
variable{prog:Ψ}{w:Ω}{A:ϕ}{E:ξ->ζ->η}{s:ζ}
theorem cat_tup{t b:ε}(o:IsTup s.heap t vs.toArray)(p:IsTup s.heap b ws.toArray)(g:vs≠[]) (h1:ws=[]->Q (.ref t) s) (h2:ws≠[]->Q (.ref s.heap.objs.size) {s with heap:=s.heap.push {cls:=.type "tuple",data:=.seq (vs++ws).toArray}}) (hsz:vs.length+ws.length<=Ϙ):wpAny (model prog w) A (binaryOp .Add (.ref t)<|.ref b) Q E s:=by
 obtain⟨⟨cls,i,data,sl⟩,ho,d,n,hd⟩:=id o;obtain⟨⟨q,j,data2,l⟩,c,h,m,a⟩:=id p;simp only at d hd h a;subst d hd h a;have e:vs.toArray++ws.toArray=(vs++ws).toArray:=by simp
 by_cases hw:ws=[];exact concat_meets {_,ho,rfl} {_,c,rfl} noFill_tuple_add seq_tuple_add PySem.F.slot_tuple_add PySem.F.entry_tuple_add (PySem.F.args_tuple_add_2 _ _) (tuple_addW1 t b vs.toArray ws.toArray n m i j sl l (by simpa using g)<|by simp[hw]) {ho,c,h1 hw};refine concat_meets {_,ho,rfl} {_,c,rfl} noFill_tuple_add seq_tuple_add PySem.F.slot_tuple_add PySem.F.entry_tuple_add (PySem.F.args_tuple_add_2 _ _) (tuple_addW2 t b vs.toArray ws.toArray n m i j sl l (by simpa using g) (by simpa using hw)<|by rw[zr,zr];exact hsz) {ho,c,?_};rw[e];exact h2 hw
noncomputable def sIx(n d:π):θ ν->π|none=>d|some v=>if v<0 then (v+(n:ν)).toNat else min v.toNat n
theorem sIx_none(n d:π):sIx n d none=d:=rfl
theorem sIx_nat(n d k:π):sIx n d (some (k:ν))=min k n:=by show(if (k:ν)<0 then ((k:ν)+(n:ν)).toNat else min (k:ν).toNat n)=min k n;rw[qa<|by lia,Int.toNat_natCast]
end
end HT
namespace L2
open PySem PySem.Spec PyProof.Rows
abbrev TO:=St->Hp->(θ ν->Hp->η)->η
def PO(X:Cx)(e:θ Δ)(t:TO):Prop:=∀(pins:δ (ε×Obj))(s:ζ)(σ:St)(H:Hp)(Q:θ ν->Hp->η),Inv X pins σ H s->t σ H Q->wpAny (model X.prog X.w) X.A (evalPart e X.env) (λu s'=>∃o H',Inv X pins σ H' s'/\IsPart u o/\Q o H') X.xe s
def LZ:TO:=λ_ H Q=>Q none H
def UY(t:TE):TO:=λσ H Q=>t σ H λx H1=>∃i,x=.int i/\Q (some i) H1
section
variable{X:Cx}{e:Δ}{te:TE}{lo hi:θ Δ}{tl th:TO}{pos p2:Pos}
theorem L3:PO X none LZ:=by intro pins s σ H Q I h;rw[evalPart_none];exact zB {none,H,I,.none,h}
theorem L4(h:PE X e te):PO X (some e) (UY te):=by intro pins s σ H Q I hw;rw[evalPart_some];refine bp (h pins s σ H _ I hw) λu s1 ⟨x,H1,c,d,a⟩=>?_;obtain⟨i,rfl,q⟩:=a;obtain⟨t,rfl⟩:=d;exact{some i,H1,c,.int i t,q}
def UZ(X:Cx)(r:V->θ ν->θ ν->Hp->VK->η):Prop:=∀(pins:δ (ε×Obj))(s:ζ)(σ:St)(H:Hp)(x:V)(v vl vu:ξ)(lo hi:θ ν)(sl:ε)(Q:VK),Inv X pins σ H s->RelV x v->s.heap.IsSliceOf sl vl vu .none->IsPart vl lo->IsPart vu hi->r x lo hi H Q->∃T id,typeLookup (.type T) "__getitem__"= pure (some<|.builtin id)/\s.TypeIs v T/\wpAny (model X.prog X.w) X.A (getItem v<|.ref sl) (EP X pins σ Q) X.xe s
def tSl(r:V->θ ν->θ ν->Hp->VK->η)(te:TE)(tl th:TO):TE:=λσ H Q=>te σ H λx H1=>tl σ H1 λl H2=>th σ H2 λu a=>r x l u a Q
theorem Ah{r:V->θ ν->θ ν->Hp->VK->η}(hr:UZ X r)(F:PE X e te)(hl:PO X lo tl)(hu:PO X hi th):PE X (.Subscript e (.Slice lo hi none p2) pos) (tSl r te tl th):=by intro pins s σ H Q I h;refine Subscript_<|bp (F pins s σ H _ I h) λv s1 ⟨x,H1,p,B,j⟩=>?_;refine wpAny_Slice<|bp (hl pins s1 σ H1 _ p j) λc s2 ⟨l,H2,o,n,t⟩=>bp (hu pins s2 σ H2 _ o t) λd a ⟨u,g,i,E,y⟩=>?_;rw[evalPart_none];refine zB ?_;have m:Inv X pins σ g {a with heap:=a.heap.push {cls:=.type "slice",data:=.fields #[c,d,.none]}}:=i.kept (t':=a.toks) λb G q=>za _ q;obtain⟨T,id,C,z,hg⟩:=hr pins {a with heap:=a.heap.push {cls:=.type "slice",data:=.fields #[c,d,.none]}} σ g x v c d l u a.heap.objs.size Q m B (Heap.IsSliceOf.new ..) n E y;show wpAny (model X.prog X.w) X.A (subscriptTail e (.Slice lo hi none p2) v<|.ref a.heap.objs.size) (EP X pins σ Q) X.xe {a with heap:=a.heap.push {cls:=.type "slice",data:=.fields #[c,d,.none]}};exact tail_any (ops:=[.ref a.heap.objs.size,v]) z C hg<|by with_unfolding_all rfl
noncomputable def F9(xs:δ V)(lo hi:θ ν):δ V:=(xs.drop<|HT.sIx xs.length 0 lo).take<|HT.sIx xs.length xs.length hi-HT.sIx xs.length 0 lo
theorem Ai(xs:δ V)(lo hi:θ ν):(F9 xs lo hi).length<=xs.length:=by unfold F9;rw[zE,zS];lia
def U0(K:Φ):R2:=λx y H Q=>∃a b xs ys,x=.ref a/\y=.ref b/\gW K H a xs/\gW K H b ys/\xs≠[]/\xs.length+ys.length<=Ϙ/\(ys=[]->Q (.ref a) H)/\(ys≠[]->∀p,H p=ϐ->Q (.ref p) (upd H p<|.tup<|xs++ys))
theorem Vals.qU(r:Vals xs us):us=[]↔xs=[]:=by cases r with|nil=>simp|cons _ _=>simp
theorem L5:gX X (binaryOp .Add) (U0 X.K):=by intro pins s σ H x y v u Q I l j h;obtain⟨a,b,xs,ys,rfl,rfl,ha,i,hx,hz,e,g⟩:=h;cases l;cases j;obtain⟨r,d,m,_⟩:=I.tuple ha;obtain⟨n,c,p2,_⟩:=I.tuple i;refine HT.cat_tup m p2 (λz=>hx<|d.qU.mp z) (λz=>{.ref a,H,I,rfl,e<|c.qU.mp z}) (λz=>?_) (by rw[<-d.length,<-c.length];exact hz);refine{.ref s.heap.objs.size,_,I.laid (t':=s.toks) (o:=.tup<|xs++ys) (λb p q=>za _ q) (zk _) ?_,rfl,g (λw=>z<|c.qU.mpr w) _<|I.aG.fresh<|zk _};exact{by rw[zo];exact hz,_,d.append c,iF.new _ _}
end
noncomputable def F_(n:π)(i:ν):θ Nat:=if 0<=i then (if i<n then some i.toNat else none) else if -(n:ν)<=i then some (i+n).toNat else none
noncomputable def gI{α:Type}(xs:δ α)(i:ν):θ α:=(F_ xs.length i).bind λj=>xs[j]?
theorem Es(h:F_ n i=ϑ j):seqIndex? i n=ϑ j/\j<n/\-(n:ν)<=i/\i<n:=by unfold F_ at h;by_cases h0:0<=i;rw[qb h0]at h;by_cases h1:i<n;rw[qb h1]at h;have e:i.toNat=j:=zT h;exact{by rw[seqIndex_of h0 h1,e],by lia,by lia,h1};rw[qa h1]at h;cases h;rw[qa h0]at h;by_cases h1:-(n:ν)<=i;rw[qb h1]at h;have e:(i+n).toNat=j:=zT h;exact{by rw[seqIndex_neg (by lia) h1,e],by lia,h1,by lia};rw[qa h1]at h;cases h
theorem v7(h:gI xs i=ϑ v):∃j,seqIndex? i xs.length=ϑ j/\xs[j]?=some v/\j<xs.length/\-(xs.length:ν)<=i/\i<xs.length:=by unfold gI at h;cases e:F_ xs.length i with|none=>(rw[e]at h;cases h)|some j=>rw[e]at h;obtain⟨h1,h2,c,a⟩:=Es e;exact⟨j,h1,h,h2,c,a⟩
theorem cL{α:Type}{xs:δ α}{j:π}{v:α}(h:xs[j]?=some v):gI xs (j:ν)=ϑ v:=by
 have a:j<xs.length:=(ze.mp h).1;have e:F_ xs.length (j:ν)=ϑ j:=by unfold F_;rw[qb<|by lia,qb<|by lia];simp
 unfold gI;rw[e];exact h
def Et(b:Δ):Prop:=∀o i,subscripted b false o i=operate [o,i] (getItem o i)
def U1(X:Cx)(r:R2):Prop:=∀(value slice:Δ)(pins:δ (ε×Obj))(s:ζ)(σ:St)(H:Hp)(x y:V)(v u:ξ)(Q:VK),Inv X pins σ H s->RelV x v->RelV y u->r x y H Q->subscripted slice false v u=operate [v,u] (getItem v u)->wpAny (model X.prog X.w) X.A (subscriptTail value slice v u) (EP X pins σ Q) X.xe s
def Tj(X:Cx)(id:String)(r:V->δ V->Hp->VK->η):Prop:=∀(pins:δ (ε×Obj))(s:ζ)(σ:St)(H:Hp)(x:V)(xs:δ V)(v:ξ)(us:δ ξ)(Q:VK),Inv X pins σ H s->RelV x v->Vals xs us->r x xs H Q->wpAny (model X.prog X.w) X.A (call (.builtin id)<|v::us) (EP X pins σ Q) X.xe s
section
variable{X:Cx}{a b:Δ}{ta tb:TE}{pos:Pos}
theorem U4(hr:U1 X r)(ha:PE X a ta)(e:PE X b tb)(d:Et b):PE X (.Subscript a b pos) (Tf r ta tb):=by intro pins s σ H Q I h;exact Subscript_<|P8 ha e I h λv u s2 x y H2 c i g q=>hr a b pins s2 σ H2 x y v u Q c i g q<|d _ _
def ZA(K:Φ):R2:=λx y H Q=>∃p xs i v,x=.ref p/\y=.int i/\iD K H p xs/\gI xs i=ϑ v/\Q v H
def ZC(K:Φ):R2:=λx y H Q=>∃p xs i v,x=.ref p/\y=.int i/\gW K H p xs/\gI xs i=ϑ v/\Q v H
def ZD:R2:=λx y H Q=>∃z i c,x=.str z/\y=.int i/\z.length<=Ϙ/\gI z.cps.toList i=ϑ c/\Q (.str ⟨#[c]⟩) H
theorem Eu:U1 X (ZA X.K):=by
 intro value slice pins s σ H x y v u Q I B A h g;obtain⟨p,xs,i,z,rfl,rfl,m,E,q⟩:=h;cases B;obtain⟨t,rfl⟩:=A;obtain⟨C,r,c,hz⟩:=I.list m;obtain⟨j,h1,h2,F,o,n⟩:=v7 E;obtain⟨w,e,l⟩:=r.get h2;have hl:=r.length;have hn:=rP;have a:EP X pins σ Q w s:=⟨z,H,I,l,q⟩;by_cases h0:0<=i;have d:i.toNat=j:=by rw[seqIndex_of h0 n]at h1;exact zT h1
 exact item_listR c.isList h0 (by lia) (by rw[d];simpa using e) a g;have d:(i+(C.toArray.size:ν)).toNat=j:=by rw[seqIndex_neg (by lia) o]at h1;rw[zr,<-hl];exact zT h1
 exact subscriptTail_builtinR (x:=w) c.isList.typeIs slot_list_getitem.lookup (wpAny_getItem_list_neg (Q:=λr s'=>r=w/\EP X pins σ Q r s') c.isList (by lia) (by rw[zr]<;>lia) (by lia) (by rw[d];simpa using e) ⟨rfl,a⟩) g
theorem Im:U1 X (ZC X.K):=by intro value slice pins s σ H x y v u Q I m l h n;obtain⟨p,xs,i,z,rfl,rfl,g,o,q⟩:=h;cases m;obtain⟨t,rfl⟩:=l;obtain⟨E,r,c,hz⟩:=I.tuple g;obtain⟨j,h1,h2,C,B,A⟩:=v7 o;obtain⟨w,d,e⟩:=r.get h2;have hl:=r.length;have hn:=rP;have a:EP X pins σ Q w s:=⟨z,H,I,e,q⟩;exact subscriptTail_builtinR (x:=w) c.typeIs slot_tuple_getitem.lookup (getItem_tuple (j:=j) (Q:=λr s'=>r=w/\EP X pins σ Q r s') c (by lia) (by lia) (by rw[zr,<-hl];exact h1) (by simpa using d) ⟨rfl,a⟩) n
theorem Qn:U1 X ZD:=by
 intro value slice pins s σ H x y v u Q I g e h l;obtain⟨z,i,c,rfl,rfl,hz,m,q⟩:=h;obtain⟨t,rfl⟩:=g;obtain⟨n,rfl⟩:=e;obtain⟨j,h1,h2,o,d,a⟩:=v7 m;have hl:z.cps.toList.length=z.length:=by simp[Str.length]
 rw[hl]at h1 d a;have hn:=rP;exact tail_any (typeIs_str s z t) slot_str_getitem.lookup (getItem_str (c:=c) (by have e1:ω (i < -(2^63:ν))=ϰ:=zw (by lia);have e2:ω (i>=2^63)=ϰ:=zw (by lia);rw[e1,e2,Bool.or_false]) (by rw[h1];simpa using h2) {.str ⟨#[c]⟩,H,I.tok _,{_,rfl},q}) l
theorem Cb(a:δ ξ)(n j:π)(u:ξ):Obj.mapSeq (·.setIfInBounds j u) {cls:=.type "list",data:=.seq a.toArray n}={cls:=.type "list",data:=.seq (a.set j u).toArray n}:=by simp[Obj.mapSeq]
theorem Inv.lst(I:Inv X pins σ H s)(h:H p=ϑ (.lst xs)): ∃(a:δ ξ)(n:π),Vals xs a/\s.heap.get? p=ϑ {cls:=.type "list",data:=.seq a.toArray n}/\xs.length<=sizeLine:=by obtain⟨z,a,n,r,e⟩:=I.aG p _ h;exact⟨a,n,r,e,z⟩
theorem Inv.Qo{pins:δ<|ε×Obj}{σ:St}{H:Hp}{s:ζ}{p:ε}{xs ys:δ V}{c its':δ ξ}{n a:π}{f:Obj->Obj}(I:Inv X pins σ H s)(h:H p=ϑ (.lst xs)) (ho:s.heap.get? p=ϑ {cls:=.type "list",data:=.seq c.toArray n}) (hf:f {cls:=.type "list",data:=.seq c.toArray n}={cls:=.type "list",data:=.seq its'.toArray a}) (r:Vals ys its') (hz:ys.length<=Ϙ) (t:π): Inv X pins σ (upd H p<|.lst ys) {s with heap:=s.heap.update p f,toks:=t}:=by
 have e:(s.heap.update p f).get? p=ϑ {cls:=.type "list",data:=.seq its'.toArray a}:=by rw[yD f ho<|by rw[hf]<;>rfl,hf]
 refine I.write (x:=p) (e:=p) (by rw[h];trivial) (.inl rfl) (λb u d q=>(yA _ _<|Ne.symm d).trans q) {_,e} ?_;exact⟨hz,its',a,r,e⟩
def U5:V->V->V->Hp->(Hp->η)->Prop:=λo i v H Q=>∃p xs k j,o=.ref p/\i=.int k/\H p=ϑ (.lst xs)/\F_ xs.length k=ϑ j/\Q (upd H p<|.lst<|xs.set j v)
theorem set_list:UB X U5:=by
 intro pins s σ H o i v m w u Q I ro ri l h;obtain⟨p,xs,k,j,rfl,rfl,hp,g,q⟩:=h;cases ro;obtain⟨t,rfl⟩:=ri;obtain⟨e,n,r,ho,hz⟩:=I.lst hp;obtain⟨h1,h2,c,a⟩:=Es g;have hl:=r.length;have hn:=rP;have d:Inv X pins σ (upd H p<|.lst<|xs.set j v) {s with heap:=s.heap.update p (Obj.mapSeq (·.setIfInBounds j u))}:=I.Qo hp ho (Cb e n j u) (r.set l j) (by rw[List.length_set];exact hz) s.toks;by_cases h0:0<=k;have hk:k.toNat=j:=by rw[seqIndex_of h0 a]at h1;exact zT h1
 exact PySem.W.ki_setAt ho h0 (by lia) (by rw[zr,<-hl];exact a) (by rw[hk];exact{_,d,q});have hk:(k+(e.toArray.size:ν)).toNat=j:=by rw[seqIndex_neg (by lia) c]at h1;rw[zr,<-hl];exact zT h1
 exact PySem.W.ki_setBack ho (by lia) (by rw[zr,<-hl];exact c) (by lia)<|by rw[hk];exact{_,d,q}
theorem v8(lo hi:θ ν)(n:π):(sliceBounds lo hi none n).1=((HT.sIx n 0 lo:π):ν)/\(sliceBounds lo hi none n).2.1=((HT.sIx n n hi:π):ν)/\(sliceBounds lo hi none n).2.2=1:=by
 refine{?_,?_,rfl};cases lo with|none=>simp[sliceBounds,HT.sIx]|some i=>simp only[sliceBounds,HT.sIx,Option.getD_none,show(1:ν)>0 by decide,if_true];by_cases h:i<0;simp only[h,if_true]<;>lia;simp only[h,if_false]<;>lia
 cases hi with|none=>simp[sliceBounds,HT.sIx]|some i=>simp only[sliceBounds,HT.sIx,Option.getD_none,show(1:ν)>0 by decide,if_true];by_cases h:i<0;simp only[h,if_true]<;>lia;simp only[h,if_false]<;>lia
theorem uo(a:δ ξ)(lo hi:θ ν):slicePick a.toArray lo hi none=((a.drop<|HT.sIx a.length 0 lo).take<|HT.sIx a.length a.length hi-HT.sIx a.length 0 lo).toArray:=by obtain⟨h1,h2,c⟩:=v8 lo hi a.toArray.size;unfold slicePick;rw[h1,h2,c];simp only[sliceRange_one,pick_run,zr]<;>rfl
def ZE(K:Φ):V->θ ν->θ ν->Hp->VK->Prop:=λx lo hi H Q=>∃a xs,x=.ref a/\iD K H a xs/\∀p,H p=ϐ->Q (.ref p) (upd H p<|.lst<|F9 xs lo hi)
theorem Ex:UZ X (ZE X.K):=by intro pins s σ H x v j l lo hi sl Q I i e d g h;obtain⟨a,xs,rfl,hx,q⟩:=h;cases i;obtain⟨n,r,c,hz⟩:=I.list hx;have hlen:=r.length;refine{"list",_,slot_list_getitem.lookup,c.isList.typeIs,?_};refine wpAny_getItem_list_slice c.isList e d g .none (by simp) ?_ (by rw[zr]<;>lia);rw[uo,<-hlen];refine{.ref s.heap.objs.size,_,I.laid (t':=s.toks) (o:=.lst<|F9 xs lo hi) (λb m q=>za _ q) (zk _) ?_,rfl,q _<|I.aG.fresh<|zk _};exact{zH (Ai xs lo hi) hz,_,0,(r.drop<|HT.sIx xs.length 0 lo).take<|HT.sIx xs.length xs.length hi-HT.sIx xs.length 0 lo,zp _ rfl}
noncomputable def gZ:V->χ|.ay=>true|.bl _=>true|.int _=>true|.str _=>true|_=>false
noncomputable def eqV:V->V->χ|.ay,.ay=>true|.bl a,.bl b=>a==b|.bl a,.int b=>((if a then 1 else 0)==b)|.int a,.bl b=>(a==(if b then 1 else 0))|.int a,.int b=>a==b|.str a,.str b=>a==b|_,_=>false
theorem Qp(g:RelV y u)(c:RelV x v)(h:gZ y=ϱ)(e:gZ x=ϱ):SeqAt.EqAt A s u v (eqV y x):=by cases y with|ay=>(cases g;cases x with|ay=>(cases c;exact SeqAt.EqAt.same _)|bl b=>(cases c;exact SeqAt.EqAt.none_bool b)|int b=>(obtain⟨t,rfl⟩:=c;exact SeqAt.EqAt.none_int b t)|str b=>(obtain⟨t,rfl⟩:=c;exact SeqAt.EqAt.none_str b t)|_=>exact absurd (show false=ϱ from e) zd)|bl a=>(cases g;cases x with|ay=>(cases c;exact SeqAt.EqAt.bool_none a)|bl b=>(cases c;exact SeqAt.EqAt.bool_bool a b)|int b=>(obtain⟨t,rfl⟩:=c;exact SeqAt.EqAt.bool_int a b t)|str b=>(obtain⟨t,rfl⟩:=c;exact SeqAt.EqAt.bool_str a b t)|_=>exact absurd (show false=ϱ from e) zd)|int a=>(obtain⟨d,rfl⟩:=g;cases x with|ay=>(cases c;exact SeqAt.EqAt.int_none a d)|bl b=>(cases c;exact SeqAt.EqAt.int_bool a d b)|int b=>(obtain⟨t,rfl⟩:=c;exact SeqAt.EqAt.int_int a d b t)|str b=>(obtain⟨t,rfl⟩:=c;exact SeqAt.EqAt.int_str a d b t)|_=>exact absurd (show false=ϱ from e) zd)|str a=>(obtain⟨d,rfl⟩:=g;cases x with|ay=>(cases c;exact SeqAt.EqAt.str_none a d)|bl b=>(cases c;exact SeqAt.EqAt.str_bool a d b)|int b=>(obtain⟨t,rfl⟩:=c;exact SeqAt.EqAt.str_int a d b t)|str b=>(obtain⟨t,rfl⟩:=c;exact SeqAt.EqAt.str_str a d b t)|_=>exact absurd (show false=ϱ from e) zd)|_=>exact absurd (show false=ϱ from h) zd
noncomputable def Io(x:V)(u:ξ):Bool:=match u with|.none=>eqV .ay x|.bool b=>eqV (.bl b) x|.int i _=>eqV (.int i) x|.str z _=>eqV (.str z) x|_=>false
theorem Cc(r:RelV y u)(f:gZ y=ϱ):Io x u=eqV y x:=by cases y with|ay=>(cases r;rfl)|bl b=>(cases r;rfl)|int i=>(obtain⟨t,rfl⟩:=r;rfl)|str z=>(obtain⟨t,rfl⟩:=r;rfl)|_=>exact absurd (show false=ϱ from f) zd
theorem v9:∀{xs:δ V}{us:δ ξ},Vals xs us->xs.all gZ=ϱ->us.any (Io x)=xs.any λy=>eqV y x|_,_,.nil,_=>rfl|y::xs,u::us,.cons r t,f=>by rw[List.all_cons,zJ]at f;rw[yX,yX,Cc r f.1,v9 t f.2]
theorem mq(c:RelV x v)(a:gZ x=ϱ):∀{xs:δ V}{us:δ ξ},Vals xs us->xs.all gZ=ϱ->∀u∈us,SeqAt.EqAt A s u v (Io x u)|_,_,.nil,_=>(λu hu=>by cases hu)|y::xs,u::us,.cons r t,f=>λd hu=>by rw[List.all_cons,zJ]at f;rcases zj.mp hu with rfl|hu;rw[Cc r f.1];exact Qp r c f.1 a;exact mq c a t f.2 d hu
noncomputable def Cd(x:V)(xs:δ V):Bool:=xs.any λy=>eqV y x
def rIn(K:Φ)(a:χ):R2:=λx y H Q=>∃p xs,y=.ref p/\(iD K H p xs\/gW K H p xs)/\gZ x=ϱ/\xs.all gZ=ϱ/\Q (.bl<|if a then !Cd x xs else Cd x xs) H
theorem ot:gX X (compareOp .In) (rIn X.K false):=by intro pins s σ H x y v u Q I g i h;obtain⟨p,xs,rfl,a,e,fs,q⟩:=h;cases i;rcases a with a|a;obtain⟨c,r,d,hz⟩:=I.list a;refine SeqAt.in_listAt (Io x) d.isList (λw hw=>mq g e r fs w<|by simpa using hw) {.bl _,H,I,rfl,?_};rw[show c.toArray.any (Io x)=c.any (Io x) by simp,v9 r fs];exact q;obtain⟨c,r,d,hz⟩:=I.tuple a;refine SeqAt.in_tupleAt (Io x) d (λw hw=>mq g e r fs w<|by simpa using hw) {.bl _,H,I,rfl,?_};rw[show c.toArray.any (Io x)=c.any (Io x) by simp,v9 r fs];exact q
theorem mr:eU X (.type "list") (λxs H Q=>∃p ys,xs=[.ref p]/\(iD X.K H p ys\/gW X.K H p ys)/\∀l,H l=ϐ->Q (.ref l) (upd H l<|.lst ys)):=by intro pins s σ H xs us Q I r h;obtain⟨p,ys,rfl,g,q⟩:=h;obtain⟨u,rfl,t⟩:=vals1 r;cases t;have i:∀(a:δ ξ),Vals ys a->ys.length<=Ϙ->∀(h':Γ) (d:π),(∀b o',s.heap.get? b=ϑ o'->h'.get? b=ϑ o')->h'.get? s.heap.objs.size=ϑ {cls:=.type "list",dict:=none,data:=.seq a.toArray d,slots:=#[]}->EP X pins σ Q (.ref s.heap.objs.size) {s with heap:=h'}:=λa c hz h' d kp e=>{.ref s.heap.objs.size,_,I.laid (t':=s.toks) kp (zk _)<|show bf X.prog X.w _ h' _ (.lst ys) from⟨hz,a,d,c,e⟩,rfl,q _<|I.aG.fresh<|zk _};rcases g with g|g;obtain⟨a,c,m,hz⟩:=I.list g;have hlen:=c.length;obtain⟨o,ho,j,n,hd⟩:=m.isList;exact call_list_seq p (.inl rfl) ho j hd (λh' d kp e=>i a c hz h' d kp e) (by simp only[zr]<;>lia);obtain⟨a,c,m,hz⟩:=I.tuple g;have hlen:=c.length;obtain⟨o,ho,j,n,hd⟩:=m;exact call_list_seq p (.inr rfl) ho j hd (λh' d kp e=>i a c hz h' d kp e)<|by simp only[zr]<;>lia
theorem lB:eU X (.type "tuple") (λxs H Q=>∃p ys,xs=[.ref p]/\((iD X.K H p ys/\∀l,H l=ϐ->Q (.ref l) (upd H l<|.tup ys))\/(gW X.K H p ys/\Q (.ref p) H))):=by intro pins s σ H xs us Q I r h;obtain⟨p,ys,rfl,h⟩:=h;obtain⟨u,rfl,m⟩:=vals1 r;cases m;rcases h with⟨d,q⟩|⟨d,q⟩;obtain⟨g,a,c,hz⟩:=I.list d;have hlen:=a.length;refine call_tuple_list c.isList (λh' kp=>?_) (by simp only[zr]<;>lia);have i:Inv X pins σ H {s with heap:=h'}:=I.kept (t':=s.toks) kp;have j:Inv X pins σ (upd H h'.objs.size<|.tup ys) {s with heap:=h'.push {cls:=.type "tuple",data:=.seq g.toArray}}:=i.laid (t':=s.toks) (λb o e=>za _ e) (zk _)<|show bf X.prog X.w _ _ _ (.tup ys) from{hz,g,a,iF.new _ _};exact{.ref h'.objs.size,_,j,rfl,q _<|i.aG.fresh<|zk _};obtain⟨g,a,c,hz⟩:=I.tuple d;exact call_tuple_same c {.ref p,H,I,rfl,q}
def Yc(K:Φ)(T:String)(x:V)(H:Hp):Prop:=match x with|.str _=>T ="str"|.int _=>T ="int"|.ref p=>(T ="list"/\∃xs,iD K H p xs)\/(T ="tuple"/\∃o,K.lookup p=ϑ o/\o.cls=.type "tuple"/\o.dict=ϐ)\/(T ="dict"/\((∃kvs,H p=ϑ (.dK kvs))\/∃kvs,H p=ϑ (.dT kvs)))\/(T ="set"/\∃S n,H p=ϑ (.set S n))|_=>False
theorem Iq{T:String}(I:Inv X pins σ H s)(r:RelV x v)(ty:Yc X.K T x H): s.TypeIs v T/\∀a,v=.ref a->∃g,s.heap.get? a=ϑ g/\g.dict=ϐ:=by cases x with|str z=>(obtain⟨t,rfl⟩:=r;cases (show T ="str" from ty);exact{typeIs_str s z t,λ_ e=>nomatch e})|int i=>(obtain⟨t,rfl⟩:=r;cases (show T ="int" from ty);exact{typeIs_int s i t,λ_ e=>nomatch e})|ref p=>(cases r;rcases ty with⟨rfl,xs,j⟩|⟨rfl,o,hk,h,hd⟩|⟨rfl,hk⟩|⟨rfl,S,n,hk⟩;obtain⟨l,_,d,_⟩:=I.list j;refine{d.isList.typeIs,λa e=>?_};cases e;obtain⟨o,n,e,c,hd,_⟩:=d;exact⟨o,e,hd⟩;refine{{o,I.n5 p o hk,h},λa e=>?_};cases e;exact{o,I.n5 _ o hk,hd};have z:∃o,s.heap.get? p=ϑ o/\o.ExactDict:=(by rcases hk with⟨kvs,hk⟩|⟨kvs,hk⟩;obtain⟨_,_,_,_,o,_,_,e,ex,_⟩:=I.aG p _ hk;exact⟨o,e,ex⟩;exact False.elim<|I.aG p _ hk);obtain⟨o,e,ex⟩:=z;refine{⟨o,e,ex.1⟩,λa e2=>?_};cases e2;exact⟨o,e,ex.2.1⟩;obtain⟨o,_,_,_,e,ex,_⟩:=I.aG p _ hk;refine{⟨o,e,ex.1⟩,λa e2=>?_};cases e2;exact⟨o,e,ex.2.1⟩)|_=>exact False.elim ty
def ZF(K:Φ)(T:String)(r:V->δ V->Hp->VK->η)(to:TE):TE:=λσ H Q=>to σ H λx H1=>Yc K T x H1/\r x [] H1 Q
def tBM(K:Φ)(T:String)(r:V->δ V->Hp->VK->η)(to:TE)(t:TA):TE:=λσ H Q=>to σ H λx H1=>Yc K T x H1/\t σ H1 λxs H2=>r x xs H2 Q
variable{o e:Δ}{es:δ Δ}{to:TE}{t:TA}{name:ρ}{apos aM:Pos}{T id:String}{r:V->δ V->Hp->VK->η}
theorem Qq(d:PlainAttrs T)(slot:Slot T name id)(i:typeOf (.builtin id)=pure (.type "method_descriptor"))(hm:Tj X id r)(ho:PE X o to) (j:ψ (attributeBase o name X.env (eval o X.env)=eval o X.env) qQJ) (g:ψ ((apos.endLine==aM.line)=ϱ) qQJ):PE X (.Call (.Attribute o name apos) [] [] aM) (ZF X.K T r to):=by intro pins s σ H Q I h;refine wpAny_Call_method0_late j g<|bp (ho pins s σ H _ I h) λv s1 ⟨x,H1,a,c,ty,e⟩=>?_;obtain⟨h1,h2⟩:=Iq a c ty;exact{T,id,d,slot,i,h1,h2,Calls.callWith_builtin rfl<|PySem.evalArgs_none<|hm pins s1 σ H1 x [] v [] Q a c .nil e}
theorem U6(d:PlainAttrs T)(slot:Slot T name id)(m:typeOf (.builtin id)=pure (.type "method_descriptor"))(hm:Tj X id r)(ho:PE X o to)(ha:PA X (e::es) t) (n:ψ (attributeBase o name X.env (eval o X.env)=eval o X.env) qQJ) (i:ψ (((backTo aM<|starEach (e::es) X.env).all (λx=>!x.1)&&(backToKw aM<|keywordEach [] X.env).all (λx=>x.1.isSome)&&ω ((e::es).length+([]:δ Keyword).length+(if ([]:δ Keyword).isEmpty then 0 else 1)<30))=ϱ) qQJ) (j:ψ ((apos.endLine==aM.line)=ϱ) qQJ) (q:ψ (starEach (e::es) X.env=(false,eval e X.env)::starEach es X.env) qQJ) (p:ψ ((backTo aM<|starEach es X.env).any (·.1)=ϰ) qQJ): PE X (.Call (.Attribute o name apos) (e::es) [] aM) (tBM X.K T r to t):=by intro pins s σ H Q I h;refine wpAny_Call_method_late n i j rfl<|bp (ho pins s σ H _ I h) λv s1 ⟨x,H1,a,c,ty,g⟩=>?_;obtain⟨h1,h2⟩:=Iq a c ty;refine{T,id,d,slot,m,h1,h2,?_};have hA:=ha aM pins s1 σ H1 _ a g;rw[q]at hA⊢;refine Calls.callWith_builtin (by show(false||(backTo aM<|starEach es X.env).any (·.1))=ϰ;rw[p]<;>rfl)<|Calls.evalArgs_plain ?_;exact bp hA <| by rintro us s2 ⟨vs,H2,l,w,y⟩;exact hm pins s2 σ H2 x vs v us Q l c w y
end
def Yd(X:Cx)(id:String)(r:V->δ V->Hp->VK->η):Prop:=∀(pins:δ (ε×Obj))(s:ζ)(σ:St)(H:Hp)(x:V)(xs:δ V)(v:ξ)(us:δ ξ)(Q:VK),Inv X pins σ H s->RelV x v->Vals xs us->r x xs H Q->wpAny (model X.prog X.w) X.A (call (.builtin id)<|v::us) (EP X pins σ Q) X.xe s
theorem Vals.one:∀{x:V}{us:δ ξ},Vals [x] us->∃u,us=[u]/\RelV x u:=by intro x us h;cases h with|cons r t=>cases t;exact{_,rfl,r}
theorem Vals.two:∀{x y:V}{us:δ ξ},Vals [x,y] us->∃u v,us=[u,v]/\RelV x u/\RelV y v:=by intro x y us h;cases h with|cons r t=>obtain⟨_,rfl,q⟩:=Vals.one t;exact{_,_,rfl,r,q}
theorem Vals.zero:∀{us:δ ξ},Vals [] us->us=[]|_,.nil=>rfl
theorem Vals.dropLast{xs:δ V}{us:δ ξ}(h:Vals xs us):Vals xs.dropLast us.dropLast:=by induction h with|nil=>exact .nil|cons r t a=>cases t with|nil=>exact .nil|cons q c=>exact .cons r a
theorem Vals.eraseIdx:∀{xs:δ V}{us:δ ξ}(i:π),Vals xs us->Vals (xs.eraseIdx i) (us.eraseIdx i)|_,_,_,.nil=>.nil|_,_,0,.cons _ t=>t|_,_,i+1,.cons r t=>.cons r<|Vals.eraseIdx i t
theorem Ci{α:Type}(l:δ α):l.eraseIdx (l.length-1)=l.dropLast:=by induction l with|nil=>rfl|cons a r c=>cases r with|nil=>rfl|cons b r=>have e:(a::b::r).length-1=((b::r).length-1)+1:=(by have h1:(a::b::r).length=r.length+2:=rfl;have h2:(b::r).length=r.length+1:=rfl;lia);rw[e,List.eraseIdx_cons_succ,c];all_goals rfl
theorem uY{α:Type} : ∀(l:δ α)(i:π),(l.eraseIdx i).length<=l.length|[],_=>zk _|_::_,0=>yJ _|_::r,i+1=>Nat.succ_le_succ<|uY r i
section
variable{X:Cx}{pins:δ (ε×Obj)}{σ:St}{H:Hp}{s:ζ}{l:ε}{xs ys:δ V}
theorem Inv.L6{a its':δ ξ}{n:π}{f:Array ξ->Array ξ}{t':π}(I:Inv X pins σ H s)(g:H l=ϑ (.lst xs)) (e:s.heap.get? l=ϑ {cls:=.type "list",data:=.seq a.toArray n}) (hf:f a.toArray=its'.toArray) (c:Vals ys its') (hz:ys.length<=Ϙ): Inv X pins σ (upd H l<|.lst ys) {s with heap:=s.heap.update l<|Obj.mapSeq f,toks:=t'}:=by have q:=PySem.IsL.update e f;rw[hf]at q;refine I.write (x:=l) (e:=l) (by rw[g];exact trivial) (.inl rfl) (λh u d hu=>(yA s.heap (Obj.mapSeq f)<|Ne.symm d).trans hu) {_,q} ?_;exact{hz,its',_,c,q}
theorem Inv.ZG(I:Inv X pins σ H s)(a:Vals ys ax)(hz:ys.length<=Ϙ): Inv X pins σ (upd H s.heap.objs.size<|.lst ys) {s with heap:=s.heap.push {cls:=.type "list",data:=.seq ax.toArray},toks:=t'}:=I.laid (λ_ _ q=>za _ q) (zk _) {hz,ax,0,a,zp _ rfl}
theorem Inv.fresh(I:Inv X pins σ H s):H s.heap.objs.size=ϐ:=I.aG.fresh<|zk _
theorem Inv.Cj(I:Inv X pins σ H s)(c:H l=ϑ (.lst xs)):xs.length<=Ϙ/\∃(a:δ ξ)(n:π),Vals xs a/\xs.length=a.length/\s.heap.get? l=ϑ {cls:=.type "list",data:=.seq a.toArray n}:=by obtain⟨z,a,n,r,e⟩:=I.aG l _ c;exact⟨z,a,n,r,r.length,e⟩
theorem Ir{n:π}(h:n<=Ϙ):Builtin.List.listTooLong n=ϰ:=by unfold Builtin.List.listTooLong;exact zw<|by lia
end
section
variable{X:Cx}
def L7:V->δ V->Hp->VK->Prop:=λx vs H Q=>∃l xs y,x=.ref l/\vs=[y]/\H l=ϑ (.lst xs)/\xs.length<Ϙ/\Q .ay (upd H l<|.lst<|xs++[y])
theorem Ga:Yd X "list.append" L7:=by intro pins s σ H x vs v us Q I i g h;obtain⟨l,xs,y,rfl,rfl,c,hz,q⟩:=h;cases i;obtain⟨u,rfl,d⟩:=g.one;obtain⟨z,a,n,r,hl,e⟩:=I.Cj c;refine call_meets F.slot_list_append {_,e,rfl} F.entry_list_append (F.args_list_append_2 _ _) (PySem.list_append l a.toArray n u<|by rw[zr];lia) {e,?_};refine{.ay,_,I.L6 (its':=a++[u]) c e (by simp) (r.append<|.cons d .nil) ?_,rfl,q};rw[zo,List.length_singleton];lia
def ZH:V->δ V->Hp->VK->Prop:=λx vs H Q=>∃l xs y,x=.ref l/\vs=[]/\H l=ϑ (.lst xs)/\xs[xs.length-1]?=some y/\Q y (upd H l<|.lst xs.dropLast)
theorem Qu:Yd X "list.pop" ZH:=by
 intro pins s σ H x vs v us Q I o m h;obtain⟨l,xs,y,rfl,rfl,d,g,q⟩:=h;cases o;have c:=m.zero;subst c;obtain⟨z,a,n,r,hl,e⟩:=I.Cj d;obtain⟨u,hu,i⟩:=r.get g;have j:a.toArray[a.toArray.size-1]?=some u:=by show a.toArray[a.length-1]?=some u;rw[<-Array.getElem?_toList,<-hl];exact hu
 refine call_meets F.slot_list_pop {_,e,rfl} F.entry_list_pop (F.args_list_pop_1 _) (MeetsSeq.list_pop_last l a.toArray n u j<|by rw[zr];lia) {e,?_};refine{y,_,I.L6 (its':=a.dropLast) d e ?_ r.dropLast ?_,i,q};show a.toArray.eraseIdxIfInBounds (a.toArray.size-1)=a.dropLast.toArray;rw[zr,List.eraseIdxIfInBounds_toArray,Ci];rw[List.length_dropLast];lia
def Qv:V->δ V->Hp->VK->Prop:=λx vs H Q=>∃l xs i k y,x=.ref l/\vs=[.int i]/\H l=ϑ (.lst xs)/\-(2^63)<=i/\i<2^63/\seqIndex? i xs.length=ϑ k/\xs[k]?=some y/\Q y (upd H l<|.lst<|xs.eraseIdx k)
theorem Iu:Yd X "list.pop" Qv:=by intro pins s σ H x vs v us Q I j o h;obtain⟨l,xs,i,k,y,rfl,rfl,c,h1,h2,hk,d,q⟩:=h;cases j;obtain⟨u,rfl,m⟩:=o.one;obtain⟨t,rfl⟩:=m;obtain⟨z,a,n,r,hl,e⟩:=I.Cj c;obtain⟨w,hw,g⟩:=r.get d;refine call_meets F.slot_list_pop {_,e,rfl} F.entry_list_pop (F.args_list_pop_2 _ _) (MeetsSeq.list_pop_at l a.toArray n i t k w (fitsIndex_both h1 h2) (by rw[zr,<-hl];exact hk) (by rw[<-Array.getElem?_toList];exact hw)<|by rw[zr];lia) {e,?_};refine{y,_,I.L6 (its':=a.eraseIdx k) c e ?_ (r.eraseIdx k) ?_,g,q};show a.toArray.eraseIdxIfInBounds k=(a.eraseIdx k).toArray;rw[List.eraseIdxIfInBounds_toArray];have:=uY xs k;lia
def ZI:R2:=λx y H Q=>∃l b xs zs,x=.ref l/\y=.ref b/\H l=ϑ (.lst xs)/\H b=ϑ (.lst zs)/\xs.length+zs.length<=Ϙ/\∀p,H p=ϐ->Q (.ref p) (upd H p<|.lst<|xs++zs)
theorem Iv:gX X (binaryOp .Add) ZI:=by
 intro pins s σ H x y v u Q I j g h;obtain⟨l,b,xs,zs,rfl,rfl,i,d,hz,q⟩:=h;cases j;cases g;obtain⟨z,c,n,r,hl,e⟩:=I.Cj i;obtain⟨t,a,w,o,p,e2⟩:=I.Cj d;refine PySem.P.add_list e e2 ?_ (by rw[zr,zr];lia);have m:c.toArray++a.toArray=(c++a).toArray:=by simp
 rw[m];exact{.ref _,_,I.ZG (t':=s.toks) (r.append o)<|by rw[zo];lia,rfl,q _ I.fresh}
end
section
variable{κ:Type}[DecidableEq κ]
noncomputable def gp(kvs:δ<|κ×V)(k:κ):θ V:=(kvs.find? λa=>ω<|a.1=k).map (·.2)
noncomputable def putK(kvs:δ<|κ×V)(k:κ)(v:V):δ (κ×V):=if (kvs.any λa=>ω<|a.1=k)=ϱ then kvs.map (λa=>if a.1=k then (a.1,v) else a) else kvs++[(k,v)]
noncomputable def pL(kvs:δ<|κ×V)(k:κ):δ (κ×V):=kvs.filter λa=>ω<|a.1≠k
theorem rT{p:κ×V}{r:δ<|κ×V}{k:κ}(e:p.1=k):gp (p::r) k=ϑ p.2:=by simp[gp,yd,e]
theorem rV{p:κ×V}{r:δ<|κ×V}{k:κ}(e:¬p.1=k):gp (p::r) k=gp r k:=by simp[gp,yd,e]
theorem pM(kvs:δ<|κ×V)(k:κ)(v:V):(putK kvs k v).length<=kvs.length+1:=by unfold putK;split;rw[zb];lia;rw[zo,zR,List.length_nil];lia
theorem gb.ou(r:gb o u):o.isSome=u.isSome:=by cases o with|none=>(cases u with|none=>rfl|some _=>exact(show False from r).elim)|some _=>cases u with|none=>exact(show False from r).elim|some _=>rfl
theorem gb.getD{o:θ V}{u:θ ξ}{d:V}{d':ξ}(r:gb o u)(a:RelV d d'):RelV (o.getD d) (u.getD d'):=by cases o with|none=>(cases u with|none=>exact a|some _=>exact(show False from r).elim)|some _=>cases u with|none=>exact(show False from r).elim|some _=>exact r
theorem KV.val{kvs:δ<|κ×V}{vs:δ<|κ×ξ}(r:KV kvs vs)(k:κ):gb (gp kvs k) (valueAt vs k):=by unfold KV at r;induction r with|nil=>exact True.intro|@cons p q ps qs h t a=>obtain⟨h1,h2⟩:=h;by_cases e:p.1=k;have e':q.1=k:=h1.symm.trans e;have b:valueAt (q::qs) k=ϑ q.2:=(by simp[valueAt,yd,e']);rw[rT e,b];exact h2;have e':¬q.1=k:=λz=>e<|h1.trans z;have b:valueAt (q::qs) k=valueAt qs k:=(by simp[valueAt,yd,e']);rw[rV e,b];exact a
theorem KV.any{kvs:δ<|κ×V}{vs:δ<|κ×ξ}(r:KV kvs vs)(k:κ):(kvs.any λkv=>ω<|kv.1=k)=vs.any λkv=>ω (kv.1=k):=by unfold KV at r;induction r with|nil=>rfl|cons h t a=>rw[yX,yX,a,h.1]
theorem KV.Qw(r:KV kvs vs)(k:κ)(c:RelV y u): KV (kvs.map λkv=>if kv.1=k then (kv.1,y) else kv) (vs.map λkv=>if kv.1=k then (kv.1,u) else kv):=by unfold KV at r⊢;induction r with|nil=>exact .nil|@cons p q ps qs h t a=>rw[zA,zA];refine .cons ?_ a;obtain⟨h1,h2⟩:=h;by_cases e:p.1=k;rw[qb e,qb<|h1.symm.trans e];exact⟨h1,c⟩;rw[qa e,qa λz=>e<|h1.trans z];exact⟨h1,h2⟩
theorem KV.put(r:KV kvs vs)(k:κ)(a:RelV y u):KV (putK kvs k y) (stored vs k u):=by unfold putK stored;rw[r.any k];by_cases e:(vs.any λc=>ω<|c.1=k)=ϱ;rw[qb e,qb e];exact r.Qw k a;rw[qa e,qa e];exact Paired.snoc r ⟨rfl,a⟩
theorem KV.drop(r:KV kvs vs)(k:κ):KV (pL kvs k) (without vs k):=by unfold KV at r⊢;unfold pL without;induction r with|nil=>exact .nil|@cons p q ps qs h t c=>obtain⟨h1,h2⟩:=h;rw[yT,yT];by_cases e:p.1=k;have a:¬ω (p.1≠k)=ϱ:=(by simp[e]);have b:¬ω (q.1≠k)=ϱ:=(by simp[h1.symm.trans e]);rw[qa a,qa b];exact c;have e':¬q.1=k:=λz=>e<|h1.trans z;have a:ω (p.1≠k)=ϱ:=(by simp[e]);have b:ω (q.1≠k)=ϱ:=(by simp[e']);rw[qb a,qb b];exact .cons ⟨h1,h2⟩ c
theorem KV.length{kvs:δ<|κ×V}{vs:δ<|κ×ξ}(r:KV kvs vs):kvs.length=vs.length:=yH r
theorem Iw(kvs:δ<|κ×V)(k:κ):(pL kvs k).length<=kvs.length:=yE _ _
end
theorem lC(r:RelV (kV k) u):(aD P w).is k u=ϱ:=by cases k with|inl i=>(obtain⟨t,e⟩:=(show ∃t,u=Value.int i t from r);subst e;exact Ab P w i t)|inr x=>obtain⟨t,e⟩:=(show ∃t,u=Value.str x t from r);subst e;exact jz P w x t
theorem uZ:∀{ks:δ Key}{us:δ ξ},Vals (ks.map kV) us->ItemsAre (aD P w) ks us|[],_,r=>(by rw[y4]at r;cases r;exact .nil)|k::ks,_,r=>by rw[zA]at r;cases r with|cons h t=>exact .cons (lC h)<|uZ t
abbrev KT(H:Hp):δ (δ Key×V)->δ (δ Key×ε×ξ)->Prop:=Paired λp q=>p.1=q.1/\H q.2.1=ϑ (.tup<|p.1.map kV)/\RelV p.2 q.2.2
theorem KT.val{H:Hp}{kvs:δ<|δ Key×V}{xs:δ<|δ Key×ε×ξ}(r:KT H kvs xs)(k:δ Key):gb (gp kvs k) ((atKey xs k).map (·.2)):=by induction r with|nil=>exact True.intro|@cons p q ps qs h t a=>obtain⟨h1,_,h2⟩:=h;by_cases e:p.1=k;have e':q.1=k:=h1.symm.trans e;have b:atKey (q::qs) k=ϑ q.2:=(by simp[atKey,yd,e']);rw[rT e,b];exact h2;have e':¬q.1=k:=λz=>e<|h1.trans z;have b:atKey (q::qs) k=atKey qs k:=(by simp[atKey,yd,e']);rw[rV e,b];exact a
section
variable{P:Ψ}{w:Ω}{H:Hp}{h:Γ}{a:ε}
theorem Oh(ok:kQ P w H h)(e:Rd H a u):bf P w H h a u:=e.ok ok
theorem pN(ok:kQ P w H h)(e:Rd H a<|.dK kvs):kvs.length<=Ϙ/\(a==sysModules)=ϰ/\∃vs,KV kvs vs/\h.DictOf (aD P w) a vs:=show bf P w H h a (.dK kvs) from Oh ok e
theorem Ey(ok:kQ P w H h)(e:H a=ϑ (.dK kvs)):kvs.length<=Ϙ/\(a==sysModules)=ϰ/\∃vs,KV kvs vs/\h.DictOf (aD P w) a vs:=pN ok<|.inl e
theorem v_(ok:kQ P w H h)(e:H a=ϑ (.tup<|ks.map kV)):(tupleKind<|aD P w).is h ks a:=by obtain⟨_,d,r,o,h1,h2,_,n,c⟩:=(show bf P w H h a (.tup<|ks.map kV) from ok a _ e);exact{o,d.toArray,n,h1,h2,c,by simpa using uZ r}
theorem u0(ok:kQ P w H h)(e:Rd H a<|.dT kvs):kvs.length<=Ϙ/\(a==sysModules)=ϰ/\∃xs,KT H kvs xs/\h.DictOfH (tupleKind<|aD P w) a xs:=by exact False.elim<|show bf P w H h a (.dT kvs) from Oh ok e
end
def qw(H:Hp)(a:ε)(y:V)(r:θ V):Prop:=(∃kvs k,Rd H a (.dK kvs)/\y=kV k/\r=gp kvs k)\/∃kvs k b,Rd H a (.dT kvs)/\y=.ref b/\H b=ϑ (.tup<|k.map kV)/\r=gp kvs k
def Iy(H:Hp)(a:ε)(y v:V)(H':Hp):Prop:=(∃kvs k,H a=ϑ (.dK kvs)/\y=kV k/\kvs.length<Ϙ/\H'=upd H a (.dK<|putK kvs k v))\/∃kvs k b,H a=ϑ (.dT kvs)/\y=.ref b/\H b=ϑ (.tup<|k.map kV)/\kvs.length<Ϙ/\H'=upd H a (.dT<|putK kvs k v)
theorem qw.k{H:Hp}{a:ε}{kvs:δ<|Key×V}{k:Key}(e:H a=ϑ (.dK kvs)):qw H a (kV k) (gp kvs k):=.inl {kvs,k,.inl e,rfl,rfl}
theorem Iy.k{H:Hp}{a:ε}{kvs:δ<|Key×V}{k:Key}{v:V}(e:H a=ϑ (.dK kvs))(hl:kvs.length<Ϙ):Iy H a (kV k) v (upd H a<|.dK<|putK kvs k v):=.inl ⟨kvs,k,e,rfl,hl,rfl⟩
section
variable{X:Cx}{pins:δ (ε×Obj)}{σ:St}{H:Hp}{s:ζ}{a:ε}{y v:V}{u r:ξ}{o:θ V}{A:ϕ}{E:ξ->ζ->η}
theorem Inv.big(I:Inv X pins σ H s):sysModules<s.heap.objs.size:=by have h:mainGlobals<s.heap.objs.size:=(I.mod.glob.keeps I.bk).lt;exact Nat.lt_trans (by decide) h
theorem Gb(hu:A.units+1<cLine)(I:Inv X pins σ H s)(g:qw H a y<|some v)(m:RelV y u)(h:∀c s',Inv X pins σ H s'->RelV v c->Q c s'): wpAny (model X.prog X.w) A (getItem (.ref a) u) Q E s:=by rcases g with⟨kvs,k,e,j,l⟩|⟨kvs,k,b,e,j,n,l⟩;subst j;obtain⟨z,hd,vs,rel,d⟩:=pN I.aG e;obtain⟨c,hw,i⟩:=gb.some_of (v:=v) (o:=valueAt vs k) (by rw[l];exact rel.val k);exact wpAny_getItem_of (lC m) d.mapOf hw<|h c _ (I.tok _) i;subst j;cases (show u=Value.ref b from m);obtain⟨z,hd,xs,rel,d⟩:=u0 I.aG e;obtain⟨c,hw,i⟩:=gb.some_of (v:=v) (o:=(atKey xs k).map (·.2)) (by rw[l];exact rel.val k);obtain⟨p,hp,q⟩:=Option.map_eq_some_iff.mp hw;refine wpAny_getItem_heap (tupleKind_room_in1 hu) (v_ I.aG n) d hp ?_;rw[q];exact h c _ (I.tok _) i
theorem ZJ(hu:A.units+1<cLine)(I:Inv X pins σ H s)(g:qw H a y o)(i:RelV y u)(h:∀s',Inv X pins σ H s'->Q (.bool o.isSome) s'): wpAny (model X.prog X.w) A (compareOp .In u<|.ref a) Q E s:=by rcases g with⟨kvs,k,e,c,l⟩|⟨kvs,k,b,e,c,j,l⟩;subst c;obtain⟨z,hd,vs,rel,d⟩:=pN I.aG e;refine wpAny_in_of (lC i) hd d.mapOf ?_;rw[<-(rel.val k).ou,<-l];exact h _<|I.tok _;subst c;cases (show u=Value.ref b from i);obtain⟨z,hd,xs,rel,d⟩:=u0 I.aG e;refine wpAny_in_heap (tupleKind_room_in1 hu) (v_ I.aG j) hd d ?_;have q:=(rel.val k).ou;rw[Option.isSome_map]at q;rw[<-q,<-l];exact h _<|I.tok _
theorem wa(I:Inv X pins σ H s)(g:Up<|H a)(c:Heap.SameBut a s.heap h')(h:∃q,h'.get? a=ϑ q)(new:bf X.prog X.w (upd H a ob) h' a ob): Inv X pins σ (upd H a ob) {s with heap:=h',toks:=t'}:=I.write (x:=a) (e:=a) g (.inl rfl) (λb q d z=>(c.2 b d).trans z) h new
theorem Ck(z:kvs.length<=Ϙ)(hd:(a==sysModules)=ϰ)(rel:KV kvs vs)(dd:h'.DictOf (aD P w) a vs): bf P w H' h' a (.dK kvs):=⟨z,hd,vs,rel,dd⟩
theorem Ge(hu:A.units+1<cLine)(I:Inv X pins σ H s)(g:Iy H a y v H')(p:RelV y u)(o:RelV v r)(h:∀s',Inv X pins σ H' s'->Q () s'): wpAny (model X.prog X.w) A (setItem (.ref a) u r) Q E s:=by
 rcases g with⟨kvs,k,e,i,l,d⟩|⟨kvs,k,b,e,i,x,l,d⟩;subst i d;obtain⟨z,hd,vs,rel,j⟩:=Ey I.aG e;have hz:vs.length<=sizeLine:=by rw[<-rel.length];exact z
 have hl:(putK kvs k v).length<=sizeLine:=by have:=pM kvs k v;lia
 refine wpAny_setItem_pairs (hsz:=hz) (lC p) j λh' c n=>h _ ?_;have t:∃q,h'.get? a=ϑ q:=by obtain⟨q,_,_,m,_⟩:=c;exact⟨q,m⟩
 exact wa I (by rw[e];exact True.intro) n t<|Ck hl hd (rel.put k o) c;exact False.elim<|I.aG _ _ e
end
section
variable{X:Cx}{pins:δ (ε×Obj)}{σ:St}{H:Hp}{s:ζ}{a:ε}{kvs:δ (Key×V)}{k:Key}{u:ξ}{A:ϕ}{E:ξ->ζ->η}
theorem U8(I:Inv X pins σ H s)(e:H a=ϑ (.dK kvs))(d:RelV (kV k) u)(l:gp kvs k=ϑ v)(hm:more=[]\/∃x,more=[x]) (h:∀c s',Inv X pins σ (upd H a<|.dK<|pL kvs k) s'->RelV v c->Q c s'):wpAny (model X.prog X.w) A (call (.builtin "dict.pop")<|.ref a::u::more) Q E s:=by
 obtain⟨z,hd,vs,rel,j⟩:=Ey I.aG e;obtain⟨c,hw,m⟩:=gb.some_of (v:=v) (o:=valueAt vs k) (by rw[<-l];exact rel.val k);have hp:(keyPart u).isSome=ϱ:=by cases k with|inl i=>(obtain⟨t,q⟩:=(show ∃t,u=Value.int i t from d);subst q;rfl)|inr x=>obtain⟨t,q⟩:=(show ∃t,u=Value.str x t from d);subst q;rfl
 have ha:argsOk "dict.pop" {.ref a::u::more,[]}:=by rcases hm with q|⟨x,q⟩;subst q;exact PySem.F.args_dict_pop_2 _ _;subst q;exact PySem.F.args_dict_pop_3 _ _ _
 refine call_meetsIn PySem.F.slot_dict_pop j.typeIs PySem.F.entry_dict_pop ha (meets_dict_pop_there (aD X.prog X.w) a (lC d) more hm hp) {vs,c,j,by rw[<-rel.length];exact z,hw,λh' g p=>h c _ ?_ m};have r:∃q,h'.get? a=ϑ q:=by obtain⟨q,_,_,n,_⟩:=g;exact⟨q,n⟩
 exact wa I (by rw[e];exact True.intro) p r<|Ck (zH (Iw kvs k) z) hd (rel.drop k) g
theorem U9(I:Inv X pins σ H s)(e:Rd H a<|.dK kvs)(h:∀t s',Inv X pins σ H s'->Q (.int kvs.length t) s'):wpAny (model X.prog X.w) A (call (.builtin "len") [.ref a]) Q E s:=by obtain⟨z,hd,vs,rel,c⟩:=pN I.aG e;refine call_len_dict hd c (by rw[<-rel.length];rw[yf]at z;lia) ?_;rw[<-rel.length];exact h _ _<|I.tok _
end
theorem Aj(I:Inv X pins σ H s)(g:qw H a y o):s.TypeIs (.ref a) "dict":=by rcases g with⟨kvs,k,e,_,_⟩|⟨kvs,k,b,e,_,_,_⟩;obtain⟨_,_,vs,_,c⟩:=pN I.aG e;exact c.typeIs;obtain⟨_,_,xs,_,c⟩:=u0 I.aG e;exact c.typeIs
def U_(td ty tv:TE):TS:=λD σ H=>tv σ H λv H1=>td σ H1 λx H2=>ty σ H2 λy c=>∃a H4,x=.ref a/\Iy c a y v H4/\D.nx σ H4
section
variable{X:Cx}{o i value:Δ}{pos pos':Pos}{td ty tv:TE}
theorem L9(hu:X.A.units+1<cLine)(ho:PE X o td)(hi:PE X i ty)(w:PE X value tv)(B:swapsWith value (some<|.Subscript o i pos') pos.line X.env=pure false): PS X (.Assign [.Subscript o i pos'] value pos) (U_ td ty tv):=by intro pins s σ H D I h;refine wpAny_Assign_Subscript (bp (w pins s σ H _ I h) λr s1 ⟨v,H1,m,z,d⟩=>bp (ho pins s1 σ H1 _ m d) λu s2 ⟨x,H2,l,t,n⟩=>bp (hi pins s2 σ H2 _ l n) λE C ⟨y,F,c,p,a,j,ex,g,q⟩=>?_) B;subst ex;obtain rfl:u=Value.ref a:=t;exact Ge hu c g p z λG e=>⟨σ,j,e,q⟩
end
theorem Iz(h:Γ)(a:sysModules<h.objs.size):bf P w H (h.push {cls:=.type "dict",data:=.dict #[]}) h.objs.size (.dK []):={yb _,beq_eq_false_iff_ne.mpr<|Ne.symm<|zC a,[],.nil,Heap.DictOf.new h}
def Qx:TE:=λ_ H Q=>∀p,H p=ϐ->Q (.ref p) (upd H p<|.dK [])
section
variable{X:Cx}{pos:Pos}
theorem IA:PE X (.Dict [] [] pos) Qx:=λpins s σ H Q I h=>wpAny_Dict_empty {.ref s.heap.objs.size,_,I.laid (a:=s.heap.objs.size) (o:=.dK []) (t':=s.toks) (λ_ _ q=>za _ q) (zk _)<|Iz s.heap I.big,rfl,h _<|I.aG.fresh<|zk _}
end
def IB:δ (TE×TE)->St->Hp->(δ (V×V)->Hp->η)->η|[],_,H,Q=>Q [] H| (tk,tv)::r,σ,H,Q=>tk σ H λx H1=>tv σ H1 λy H2=>IB r σ H2 λps a=>Q ((x,y)::ps) a
abbrev VV:δ (V×V)->δ (ξ×ξ)->Prop:=Paired λp q=>RelV p.1 q.1/\RelV p.2 q.2
def PPs(X:Cx)(pos:Pos)(keys:δ<|θ Δ)(values:δ Δ)(a:δ<|TE×TE):Prop:=∀(pins:δ (ε×Obj))(s:ζ)(σ:St)(H:Hp)(Q:δ (V×V)->Hp->η),Inv X pins σ H s->IB a σ H Q->wpAny (model X.prog X.w) X.A (evalPairs<|pairTrees keys values X.env pos) (λvs s'=>∃ps H',Inv X pins σ H' s'/\VV ps vs/\Q ps H') X.xe s
structure M1(X:Cx)(o:Δ)(m:ρ)(apos:Pos)(e:Δ)(aM:Pos):η where
 base:attributeBase o m X.env (eval o X.env)=eval o X.env
 HE:((backTo aM<|starEach [e] X.env).all (λx=>!x.1)&&(backToKw aM<|keywordEach [] X.env).all (λx=>x.1.isSome)
  && ω (([e]:δ Δ).length+([]:δ Keyword).length+(if ([]:δ Keyword).isEmpty then 0 else 1)<30))=ϱ
 line:(apos.endLine==aM.line)=ϱ
 trees:backTo aM (starEach [e] X.env)=[(false,eval e X.env)]
structure M2(X:Cx)(o:Δ)(m:ρ)(apos:Pos)(e f:Δ)(aM:Pos):η where
 base:attributeBase o m X.env (eval o X.env)=eval o X.env
 HE:((backTo aM<|starEach [e,f] X.env).all (λx=>!x.1)&&(backToKw aM<|keywordEach [] X.env).all (λx=>x.1.isSome)
  && ω (([e,f]:δ Δ).length+([]:δ Keyword).length+(if ([]:δ Keyword).isEmpty then 0 else 1)<30))=ϱ
 line:(apos.endLine==aM.line)=ϱ
 trees:backTo aM (starEach [e,f] X.env)=[(false,eval e X.env),(false,eval f X.env)]
def Tp(H:Hp)(a:ε):Prop:=(∃kvs,Rd H a<|.dK kvs)\/∃kvs,Rd H a<|.dT kvs
theorem wb(I:Inv X pins σ H s)(d:Tp H a): s.TypeIs (.ref a) "dict"/\(∀b,Value.ref a=.ref b->∃c,s.heap.get? b=ϑ c/\c.dict=ϐ)/\(a==sysModules)=ϰ:=by rcases d with⟨kvs,e⟩|⟨kvs,e⟩;obtain⟨_,hd,vs,_,g⟩:=pN I.aG e;refine{g.typeIs,λb q=>?_,hd};cases q;obtain⟨c,_,_,h1,h2,_⟩:=g;exact⟨c,h1,h2.2.1⟩;obtain⟨_,hd,xs,_,g⟩:=u0 I.aG e;refine{g.typeIs,λb q=>?_,hd};cases q;obtain⟨c,_,_,h1,h2,_⟩:=g;exact⟨c,h1,h2.2.1⟩
section
variable{X:Cx}{pins:δ (ε×Obj)}{σ:St}{H:Hp}{s:ζ}{a:ε}{y d:V}{u r:ξ}{o:θ V}{A:ϕ}{E:ξ->ζ->η}
theorem Qy(hu:A.units+1<cLine)(I:Inv X pins σ H s)(g:qw H a y o)(j:RelV y u)(h:∀i s',Inv X pins σ H s'->RelV (o.getD .ay) i->Q i s'): wpAny (model X.prog X.w) A (call (.builtin "dict.get") [.ref a,u]) Q E s:=by rcases g with⟨kvs,k,e,d,l⟩|⟨kvs,k,b,e,d,m,l⟩;subst d;obtain⟨z,hd,vs,rel,c⟩:=pN I.aG e;refine call_meetsIn yF c.typeIs PySem.F.entry_dict_get (PySem.F.args_dict_get_2 _ _) (meets_dict_get (aD X.prog X.w) a (lC j) hd) {_,c.mapOf,h _ _ (I.tok _) ?_};rw[l];exact(rel.val k).getD rfl;subst d;cases (show u=Value.ref b from j);obtain⟨z,hd,xs,rel,c⟩:=u0 I.aG e;refine call_meetsIn yF c.typeIs PySem.F.entry_dict_get (PySem.F.args_dict_get_2 _ _) (meetsH_dict_get (tupleKind<|aD X.prog X.w) a b hd) {tupleKind_room_in1 hu,k,xs,v_ I.aG m,c,h _ _ (I.tok _) ?_};rw[l];exact(rel.val k).getD rfl
theorem Qz(hu:A.units+1<cLine)(I:Inv X pins σ H s)(g:qw H a y o)(n:RelV y u)(m:RelV d r)(h:∀j s',Inv X pins σ H s'->RelV (o.getD d) j->Q j s'): wpAny (model X.prog X.w) A (call (.builtin "dict.get") [.ref a,u,r]) Q E s:=by rcases g with⟨kvs,k,e,i,l⟩|⟨kvs,k,b,e,i,p,l⟩;subst i;obtain⟨z,hd,vs,rel,c⟩:=pN I.aG e;refine call_meetsIn yF c.typeIs PySem.F.entry_dict_get (PySem.F.args_dict_get_3 _ _ _) (meets_dict_get_default (aD X.prog X.w) a (lC n) hd r) {_,c.mapOf,h _ _ (I.tok _) ?_};rw[l];exact(rel.val k).getD m;subst i;cases (show u=Value.ref b from n);obtain⟨z,hd,xs,rel,c⟩:=u0 I.aG e;refine call_meetsIn yF c.typeIs PySem.F.entry_dict_get (PySem.F.args_dict_get_3 _ _ _) (meetsH_dict_get_default (tupleKind<|aD X.prog X.w) a b hd r) {tupleKind_room_in1 hu,k,xs,v_ I.aG p,c,h _ _ (I.tok _) ?_};rw[l];exact(rel.val k).getD m
end
def QA(td ty:TE):TE:=λσ H Q=>td σ H λx H1=>∃a,x=.ref a/\Tp H1 a/\ty σ H1 λy H2=>∃o,qw H2 a y o/\Q (o.getD .ay) H2
def QB(td ty tx:TE):TE:=λσ H Q=>td σ H λx H1=>∃a,x=.ref a/\Tp H1 a/\ty σ H1 λy H2=>tx σ H2 λz c=>∃o,qw c a y o/\Q (o.getD z) c
def QC(td ty:TE):TE:=λσ H Q=>td σ H λx H1=>∃a,x=.ref a/\Tp H1 a/\ty σ H1 λy H2=>∃kvs k v,H2 a=ϑ (.dK kvs)/\y=kV k/\gp kvs k=ϑ v/\Q v (upd H2 a<|.dK<|pL kvs k)
section
variable{X:Cx}{o e f:Δ}{apos aM:Pos}{td ty tx:TE}
theorem IC(hu:X.A.units+1<cLine)(ho:PE X o td)(w:PE X e ty)(m:M1 X o "get" apos e aM):PE X (.Call (.Attribute o "get" apos) [e] [] aM) (QA td ty):=by intro pins s σ H Q I h;refine wpAny_Call_method m.base m.HE m.line PySem.F.plainAttrs_dict yF PySem.F.type_dict_get<|bp (ho pins s σ H _ I h) λu s1 ⟨x,H1,c,v,a,ex,d,j⟩=>?_;subst ex;obtain rfl:u=Value.ref a:=v;obtain⟨l,p,_⟩:=wb c d;refine{l,p,?_};rw[m.trees];refine Calls.callWith_builtin rfl<|Calls.evalArgs_plain<|yO<|bp (w pins s1 σ H1 _ c j) λE s2 ⟨y,H2,q,t,C,g,r⟩=>Calls.spliced_nil ?_;exact Qy hu q g t λz B i n=>{_,H2,i,n,r}
theorem ID(hu:X.A.units+1<cLine)(ho:PE X o td)(G:PE X e ty)(hf:PE X f tx)(m:M2 X o "get" apos e f aM):PE X (.Call (.Attribute o "get" apos) [e,f] [] aM) (QB td ty tx):=by intro pins s σ H Q I h;refine wpAny_Call_method m.base m.HE m.line PySem.F.plainAttrs_dict yF PySem.F.type_dict_get<|bp (ho pins s σ H _ I h) λu s1 ⟨x,H1,c,B,a,ex,d,j⟩=>?_;subst ex;obtain rfl:u=Value.ref a:=B;obtain⟨l,q,_⟩:=wb c d;refine{l,q,?_};rw[m.trees];refine Calls.callWith_builtin rfl<|Calls.evalArgs_plain<|yO<|bp (G pins s1 σ H1 _ c j) λM s2 ⟨y,H2,r,v,t⟩=>yO<|bp (hf pins s2 σ H2 _ r t) λN K ⟨z,E,i,C,L,g,w⟩=>Calls.spliced_nil ?_;exact Qz hu i g v C λJ O n p=>{_,E,n,p,w}
theorem IE(ho:PE X o td)(B:PE X e ty)(m:M1 X o "pop" apos e aM):PE X (.Call (.Attribute o "pop" apos) [e] [] aM) (QC td ty):=by intro pins s σ H Q I h;refine wpAny_Call_method m.base m.HE m.line PySem.F.plainAttrs_dict PySem.F.slot_dict_pop PySem.F.type_dict_pop<|bp (ho pins s σ H _ I h) λu s1 ⟨x,H1,c,w,a,ex,d,i⟩=>?_;subst ex;obtain rfl:u=Value.ref a:=w;obtain⟨j,p,_⟩:=wb c d;refine{j,p,?_};rw[m.trees];refine Calls.callWith_builtin rfl<|Calls.evalArgs_plain<|yO<|bp (B pins s1 σ H1 _ c i) λG s2 ⟨y,H2,q,t,kvs,k,v,z,A,l,r⟩=>Calls.spliced_nil ?_;subst A;exact U8 q z t l (.inl rfl) λC E g n=>{v,_,g,n,r}
end
end L2
namespace Att
open PySem PySem.W PySem.Calls PyProof.Rows
theorem qx{P:Params} : ∀(ns:δ ν)(vs:δ ξ),WellAll P h vs (ns.map WData.int)->IntsAre vs ns:=by intro ns;induction ns with|nil=>(intro vs w;rw[y4]at w;cases w;exact .nil)|cons n ns c=>intro vs w;rw[zA]at w;cases w with|cons a b=>cases a;exact .cons _ _<|c _ b
theorem Gf{l:OpenLaw}{n:π}(hn:l.most=ϑ n){P:Params}{h:Γ}{args:δ WData}{vals:δ ξ} (j:l.row.toRowW.claim.pre args=ϱ) (p:WellAll P h vals args): ∃a vs ns,vals=[Value.ref a]/\args=[WData.list<|ns.map WData.int]/\h.get? a=ϑ {cls:=.type "list",data:=.seq vs.toArray}/\IntsAre vs ns/\ns.length<=n:=by
 have g:WShape.hasAll [] args [.list .int]=ϱ:=(pre_splitW j).1;have i:l.pre.holds [] {args:=args}=ϱ:=(pre_splitW j).2;obtain⟨d,r,rfl,h1,h2⟩:=hasAllW_cons g;obtain rfl:=hasAllW_nil h2;obtain⟨xs,rfl,s⟩:=hasW_list h1;obtain⟨ns,rfl⟩:=items_int s;have hlen:ns.length<=n:=by unfold OpenLaw.pre at i;have e:(WTm.not<|.lt (.lit<|.int (n:ν))<|.len<|.arg 0).holds [] {args:=[.list<|ns.map .int]}=ϱ:=(by have e:=(holds_andW i).1;rw[hn]at e;exact e);have c:=condW_of e<|w_not<|w_lt w_lit<|w_len_list<|w_arg rfl;rw[zb]at c;refine Nat.le_of_not_lt λq=>?_;have v:(n:ν)<((ns.length:π):ν):=(by lia);first| (rw[zx v]at c;exact absurd c<|by decide)| (simp at c;lia)
 cases p with|cons o t=>cases t;cases o with|list ho m=>exact{_,_,ns,rfl,rfl,ho,qx ns _ m,hlen}
theorem Gg(l:OpenLaw)(args:δ WData):l.row.toRowW.claim.post args (.bool true) args=ϱ:=postW_of (r:=l.row.toRowW) (X:=(true==true)) (show WShape.has [] (.bool true) .bool=ϱ by first|rfl|decide|simp[WShape.has,WShape.arms,WShape.armsAll]) (show(WTm.eq .res<|.lit<|.bool true).value [] {args:=args,res:=some<|.bool true,after:=args}=ϑ (.bool<|true==true) from w_eq_bool (w_res rfl) w_lit) rfl
theorem Al{l:OpenLaw}{n:π}{q:Ψ}{loose:δ ρ}{h:(ρ->θ ξ)->Γ->η}{g:Ω->Γ->η}{d:DefRec} (hn:l.most=ϑ n) (A:d.params.defaults=[]) (call:∀(w:Ω)(dI c:ζ)(mg mb:ρ->θ ξ)(fa:ε)(o:Obj)(pm cd doc:ξ)(a:ε)(vs:δ ξ)(ns:δ ν),Ground q loose [] h w dI mg mb c.heap->g w c.heap->c.heap.get? fa=ϑ o->o.data=.func (docDef d.name d.params d.body d.scope pm cd doc)->c.heap.CodeRec cd d.name->mg d.name=ϑ (.ref fa)->c.heap.get? a=ϑ {cls:=.type "list",data:=.seq vs.toArray}->IntsAre vs ns->ns.length<=n->c.gens=#[]->codeAny (model l.prog w) callerA (.call (.ref fa) {[.ref a],[]}) (λr s'=>r=.ok (.ret<|.bool true)/\OldK c.heap s'.heap/\s'.os=c.os/\AllBare s'.gens) c): WalkO q loose h g l.row.toRowW d [] (λf vs=>PySem.call f vs):=by intro w dI c mg mb G Y fa o pm cd doc dV kV ho hd v e s hg args vals C m z t x B;obtain rfl:dV=.none:=Dflts.none e A;obtain rfl:kV=.none:=Dflts.noKw e;obtain⟨a,vs,ns,rfl,rfl,j,hints,hlen⟩:=Gf hn m x;refine enter_call<|y6 (call w dI c mg mb fa o pm cd doc a vs ns G Y ho (fd_plain hd) v s j hints hlen hg) λr s' i=>?_;obtain⟨rfl,h2,y,p⟩:=i;exact{.inl {.bool true,.bool true,[],rfl,λ_=>rfl,.bool true,Gg l _,λ_=>{List.Pairwise.nil,λ_ hm=>(nomatch hm)}},h2,y,p}
end Att
namespace L2
open PySem PySem.Spec PyProof.Rows
theorem u3:∀{vs:δ ξ}{ns:δ ν},IntsAre vs ns->Vals (ns.map V.int) vs|_,_,.nil=>.nil|_,_,.cons n t h=>.cons ⟨t,rfl⟩<|u3 h
def inClass(s:Stmt)(j:π):Stmt:=match s with|.ClassDef _ _ _ body _ _ _ _ _ _ _=>body.getD j (.Pass {0,0,0,0})|_=>.Pass {0,0,0,0}
def bG(s:Stmt):Arguments:=match s with|.FunctionDef _ a _ _ _ _ _ _ _ _=>a|_=>{posonlyargs:=[],args:=[],vararg:=none,kwonlyargs:=[],kw_defaults:=[],kwarg:=none,defaults:=[]}
def bx(s:Stmt):δ Stmt:=match s with|.FunctionDef _ _ b _ _ _ _ _ _ _=>b|_=>[]
def aj(s:Stmt):Scope:=match s with|.FunctionDef _ _ _ _ _ _ sc _ _ _=>sc|_=>{kind:=.function,names:=[],isGenerator:=false,isCoroutine:=false}
abbrev Ye:B_:=λ_ _ _ _ _ _=>False
abbrev E0:XK:=λ_ _ _=>False
structure Fun(K:Φ)(x qual:ρ)(st:Stmt)(f:ε)(fd:FuncData):η where
 ex:∃(oc:ξ)(od:θ ε)(kV doc pm:ξ)(an:θ ε)(gv ct:ξ)(Ql:Array (θ ξ)),
  fd=fnOf x qual (bG st) (bx st) (aj st) .none kV doc pm an gv ct/\K.lookup f=ϑ {oc,od,.func fd,Ql}/\codeIn K gv qual=ϱ
 kp:keepIn K (.ref f)=ϱ
theorem kG(h:n<=1000):n<sizeLine:=Nat.lt_of_le_of_lt h<|by decide
section
variable{X:Cx}
theorem Gi:eU X (.builtin "len") (λxs H Q=>∃a kvs,xs=[V.ref a]/\H a=ϑ (.dK kvs)/\Q (.int kvs.length) H):=by intro pins s σ H xs us Q I r h;obtain⟨a,kvs,rfl,ha,q⟩:=h;obtain⟨u,rfl,c⟩:=vals1 r;cases c;exact U9 I (.inl ha) λt s' d=>{.int kvs.length,H,d,⟨t,rfl⟩,q}
end
theorem aL{A B:η}(h:B):if false=ϱ then A else B:=by rw[qa zd];exact h
theorem cj{A B:η}(h:A):if true=ϱ then A else B:=by rw[qb rfl];exact h
section
variable{κ:Type}[DecidableEq κ]
theorem mx:∀{l:δ κ}{k:κ},l.Nodup->¬k∈l->(l++[k]).Nodup|[],k,_,_=>by simp|a::r,k,h,hk=>by obtain⟨h1,h2⟩:=yr.mp h;show(a::(r++[k])).Nodup;refine yr.mpr {λm=>?_,mx h2 λm=>hk<|zj.mpr<|Or.inr m};rcases zO.mp m with q|q;exact h1 q;exact hk<|zj.mpr<|Or.inl (zL.mp q).symm
end
end L2
set_option maxHeartbeats 4000000
namespace L2
open PySem PySem.Spec PyProof.Rows
section
variable{X:Cx}
noncomputable def HF(i j:ρ):Bool:=!decide (j.cps.toList<i.cps.toList)
noncomputable def n6(i j:ρ):Bool:=ω<|i.cps.toList<j.cps.toList
def ZO(g:ρ->ρ->χ):R2:=λx y H Q=>∃i j,x=.str i/\y=.str j/\Q (.bl<|g i j) H
theorem Gj:gX X (compareOp .LtE) (ZO HF):=by intro pins s σ H x y v u Q I c a h;obtain⟨i,j,rfl,rfl,q⟩:=h;obtain⟨t,rfl⟩:=c;obtain⟨d,rfl⟩:=a;exact P.le_str<|aH I q rfl
theorem Gk:gX X (compareOp .GtE) (ZO λi j=>HF j i):=by intro pins s σ H x y v u Q I c a h;obtain⟨i,j,rfl,rfl,q⟩:=h;obtain⟨t,rfl⟩:=c;obtain⟨d,rfl⟩:=a;exact P.ge_str<|aH I q rfl
theorem Gm:gX X (compareOp .Gt) (ZO λi j=>n6 j i):=by intro pins s σ H x y v u Q I c a h;obtain⟨i,j,rfl,rfl,q⟩:=h;obtain⟨t,rfl⟩:=c;obtain⟨d,rfl⟩:=a;exact P.gt_str<|aH I q rfl
def Oi(_ j:ν):Prop:=0<j/\j.natAbs.log2<9000
theorem IF:gX X (binaryOp .FloorDiv) (rI Oi λi j=>.int<|i/j):=X_ λi j _ _ _ _ _ a q=>by
 have c:j≠0:=by have:=a.1;omega
 exact floordiv_int c (by rw[Int.fdiv_eq_ediv_of_nonneg _<|by have:=a.1;omega];exact q)<|.inl<|PyProof.noPylong_of_log2 a.2
end
noncomputable def ZP(x:ρ):It:={λi _=>i<x.cps.size,λi H v H'=>H'=H/\∃c,x.cps[i]?=some c/\v=.str ⟨#[c]⟩,λi _=>x.cps.size<=i}
theorem Am{P:Ψ}{w:Ω}{K:Φ}{tg:Δ}{T:String}(hT:["enumerate","zip","dict_itemiterator","dict_reverseitemiterator","odict_iterator","itertools.zip_longest","itertools.pairwise"].contains T=ϰ)(it:ε)(x:ρ)(t:Tok)
  (W:∀A':ϕ,A'.handled=ϐ->Walks P w A' it [it] [it] x.cps.size (SignAt x) (λi h=>h.IsStrIter it T x t i))
  (ZQ:∀(A:ϕ)(s:ζ)(E:ξ->ζ->η)(i:π)(Q:θ ξ->ζ->η),A.handled=ϐ->s.heap.IsStrIter it T x t i->x.cps[i]?=none->(∀h',Heap.ExtBut it s.heap h'->Q none {s with heap:=h'})->wpAny (model P w) A (pyNext<|.ref it) Q E s)
  (Va:∀(A:ϕ)(s:ζ)(E:ξ->ζ->η)(i:π)(Q:ξ->ζ->η),s.heap.IsStrIter it T x t i->Q (.ref it) s->wpAny (model P w) A (pyIter<|.ref it) Q E s):
  Turn P w K tg (ZP x) [it] it (λi h=>h.IsStrIter it T x t i) where
 mem:=by simp
 obj:=λi h st b hb=>by
  have e:b=it:=by simpa using hb
  subst e
  obtain⟨o,e,c,d⟩:=st
  exact{o,e,λv z=>by rw[d]at z;cases z}
 keep:=λi h h' st k=>by
  obtain⟨o,e,c,d⟩:=st
  exact{o,k it (by simp) o e,c,d}
 item:=by
  intro X hP hw hK hc i pins s σ H E I hf st hg
  subst hP hw hK
  obtain⟨f0,f1,f2,f3,f4,f5⟩:=hf it<|by simp
  refine(W X.A<|I.ok.hd hc).item i s _ _ hg st λv h' tk hv e_ kk=>?_
  obtain⟨c,u,Ma,rfl⟩:=hv
  have I1:Inv X pins σ H {s with heap:=h',toks:=tk}:=I.turned (λb o hb e=>kk b o (by simpa using hb) e) f0 f1 f3 f4 f5
  obtain⟨o,e,c',d⟩:=id e_
  exact{_,rfl,uR (s:={s with heap:=h',toks:=tk}) e c' d hT {.str ⟨#[c]⟩,H,I1,⟨u,rfl⟩,⟨rfl,c,Ma,rfl⟩,e_,λb hb=>(hf b hb).1}}
 done:=by
  intro X hP hw hK hc i pins s σ H E I hf st hg
  subst hP hw hK
  obtain⟨f0,f1,f2,f3,f4,f5⟩:=hf it<|by simp
  have hg:x.cps.size<=i:=hg
  exact ZQ X.A s E i _ (I.ok.hd hc) st (by simp;exact hg) λh' eb=>{rfl,I.turned (t':=s.toks) (λb o hb e=>eb b o hb e) f0 f1 f3 f4 f5}
 self:=λA' i s Q E st h=>Va A' s E i Q st h
section
variable{X:Cx}{tg:Δ}
def ZR(tl:TE):TI:=λσ H R=>tl σ H λx H1=>∃z,x=.str z/\R (ZP z) H1
theorem QF(hl:PE X l tl):PI X tg l (ZR tl):=by
 intro pins s σ H R I h;refine bp (hl pins s σ H _ I h) λv s1 ⟨x,H1,g,r,m⟩=>?_;obtain⟨z,e,q⟩:=m;subst e;obtain⟨t,rfl⟩:=r;have a:∀(T:String)(_:Turn X.prog X.w X.K tg (ZP z) [s1.heap.objs.size] s1.heap.objs.size (λi h=>h.IsStrIter s1.heap.objs.size T z t i)),Zj X pins σ tg R (.ref s1.heap.objs.size) {s1 with heap:=s1.heap.push {cls:=.type T,data:=.fields #[.str z t,.int 0 0]}}:=λT tn=>by refine{s1.heap.objs.size,[s1.heap.objs.size],_,_,H1,rfl,g.kept (t':=s1.toks) λb o e=>za _ e,tn,{_,zp _ rfl,rfl,rfl},λb n=>?_,q};have e:b=s1.heap.objs.size:=(by simpa using n);subst e;exact g.oj (zk _)<|g.aG.fresh<|zk _
 cases ha:z.cps.all (·<128);exact wpAny_pyIter_wide ha<|a _<|Am (by decide) _ z t (λp hA=>Walks.strWide hA _ z t) (λA s E i Q j st hx c=>wpAny_pyNext_wide_end j st hx c) λA s E i Q st d=>wpAny_pyIter_striter_wide st d;exact wpAny_pyIter_ascii ha<|a _<|Am (by decide) _ z t (λp hA=>Walks.strAscii hA _ z t) (λA s E i Q j st hx c=>wpAny_pyNext_ascii_end j st hx c) λA s E i Q st d=>wpAny_pyIter_striter_ascii st d
end
noncomputable def clOf(cells:δ<|ρ×ε)(names:δ<|ρ×NameKind):δ (ρ×ε):=names.foldl (λcs p=>if p.2==.free then match cells.lookup p.1 with|some a=>(p.1,a)::cs|none=>cs else cs) []
set_option tactic.hygienic true in
theorem rW(cells:δ<|ρ×ε):∀(names:δ (ρ×NameKind))(cs:δ (ρ×ε)),(∀x c,cs.lookup x=ϑ c->cells.lookup x=ϑ c)->∀x c,(names.foldl (λcs p=>if p.2==.free then match cells.lookup p.1 with|some a=>(p.1,a)::cs|none=>cs else cs) cs).lookup x=ϑ c->cells.lookup x=ϑ c|[],cs,h=>h| (n,k)::r,cs,h=>by rw[yQ];refine rW cells r _ λx c e=>?_;dsimp only at e;split at e;split at e;rename_i a ha;rw[yk]at e;split at e;rename_i hx;have:=LawfulBEq.eq_of_beq hx;cases e;rw[this];exact ha;exact h x c e;exact h x c e;exact h x c e
set_option tactic.hygienic true in
theorem u7(cells:δ<|ρ×ε):∀(names:δ (ρ×NameKind))(cs:δ (ρ×ε))(x:ρ)(c:ε),(∀y c,cs.lookup y=ϑ c->cells.lookup y=ϑ c)->cs.lookup x=ϑ c->(names.foldl (λcs p=>if p.2==.free then match cells.lookup p.1 with|some a=>(p.1,a)::cs|none=>cs else cs) cs).lookup x=ϑ c
 |[],cs,x,c,_,h=>h
 | (n,k)::r,cs,x,c,hs,h=>by
  rw[yQ];have d:∀y c,(if (k==NameKind.free)=ϱ then match cells.lookup n with|some a=>(n,a)::cs|none=>cs else cs).lookup y=ϑ c->cells.lookup y=ϑ c:=by intro y c e;split at e;split at e;rename_i a ha;rw[yk]at e;split at e;rename_i hx;have:=LawfulBEq.eq_of_beq hx;cases e;rw[this];exact ha;exact hs y c e;exact hs y c e;exact hs y c e
  refine u7 cells r _ x c d ?_;dsimp only;split;split;rename_i a ha;rw[yk];split;rename_i hx;have:=LawfulBEq.eq_of_beq hx;rw[this]at h;have:=hs _ _ h;rw[ha]at this;exact this;exact h;exact h;exact h
set_option tactic.hygienic true in
theorem jE(cells:δ<|ρ×ε):∀(names:δ (ρ×NameKind))(cs:δ (ρ×ε))(x:ρ)(c:ε),(∀y c,cs.lookup y=ϑ c->cells.lookup y=ϑ c)->(x,NameKind.free)∈names->cells.lookup x=ϑ c->(names.foldl (λcs p=>if p.2==.free then match cells.lookup p.1 with|some a=>(p.1,a)::cs|none=>cs else cs) cs).lookup x=ϑ c
 |[],cs,x,c,_,h,_=>nomatch h
 | (n,k)::r,cs,x,c,hs,h,hc=>by
  rw[yQ];have d:∀y c,(if (k==NameKind.free)=ϱ then match cells.lookup n with|some a=>(n,a)::cs|none=>cs else cs).lookup y=ϑ c->cells.lookup y=ϑ c:=by intro y c e;split at e;split at e;rename_i a ha;rw[yk]at e;split at e;rename_i hx;have:=LawfulBEq.eq_of_beq hx;cases e;rw[this];exact ha;exact hs y c e;exact hs y c e;exact hs y c e
  rcases zj.mp h with e|h;cases e;refine u7 cells r _ _ c d ?_;dsimp only;rw[qb<|show(NameKind.free==NameKind.free)=ϱ by decide,hc];simp[yk];exact jE cells r _ x c d h hc
theorem gJ{scope:Scope}{env:Env}(h:∀x∈scope.names,x.2=.free->∃c,env.cells.lookup x.1=ϑ c):closureFor scope env=pure (clOf env.cells scope.names):=by
 have go:∀(names:δ (ρ×NameKind))(cs:δ (ρ×ε)),(∀x∈names,x.2=.free->∃c,env.cells.lookup x.1=ϑ c)->(forIn names cs λx r=>match x with|(name,kind)=>if (kind==NameKind.free)=ϱ then do let a <-cellOf env name;pure (ForInStep.yield<|(name,a)::r) else pure (ForInStep.yield r):Sem (δ<|ρ×ε))=pure (names.foldl (λcs p=>if p.2==.free then match env.cells.lookup p.1 with|some a=>(p.1,a)::cs|none=>cs else cs) cs):=by intro names;induction names with|nil=>intro cs _;rfl|cons p r i=>intro cs hp;obtain⟨n,k⟩:=p;rw[List.forIn_cons,yQ];by_cases hk:k=.free;subst hk;obtain⟨c,d⟩:=hp _ zq rfl;have d:env.cells.lookup n=ϑ c:=d;have e1:cellOf env n=pure c:=(by unfold cellOf;rw[d]);have g:(NameKind.free==NameKind.free)=ϱ:=(by decide);dsimp only;rw[qb g,qb g,e1,d];exact i _ λx hx=>hp x<|zg _ hx;have j:(k==NameKind.free)=ϰ:=(by simpa using hk);dsimp only;rw[j,qa zd,qa zd];exact i _ λx hx=>hp x<|zg _ hx
 have e:=go scope.names [] h;have e2:closureFor scope env=(forIn scope.names [] (λx r=>match x with|(name,kind)=>if (kind==NameKind.free)=ϱ then do let a <-cellOf env name;pure (ForInStep.yield<|(name,a)::r) else pure (ForInStep.yield r)):Sem (δ<|ρ×ε)) >>=λcs=>pure cs:=rfl;rw[e2,e];rfl
theorem jF{env:Env}{names:δ<|ρ×NameKind}{x:ρ} : (names.map λ(n,k)=>if (k==NameKind.free&&env.scope.kind==.function&&env.kindOf n==some .cell) then (n,NameKind.cell) else (n,k)).lookup x=(names.lookup x).map λk=>if (k==NameKind.free&&env.scope.kind==.function&&env.kindOf x==some .cell) then NameKind.cell else k:=by induction names with|nil=>rfl|cons p r c=>obtain⟨n,k⟩:=p;rw[zA,yk];by_cases a:(k==NameKind.free&&env.scope.kind==.function&&env.kindOf n==some .cell)=ϱ;dsimp only;rw[qb a,yk];(cases hx:x==n with|true=>have:=LawfulBEq.eq_of_beq hx;subst this;dsimp only[Option.map];rw[qb a]|false=>exact c);dsimp only;rw[qa a,yk];cases hx:x==n with|true=>have:=LawfulBEq.eq_of_beq hx;subst this;dsimp only[Option.map];rw[qa a]|false=>exact c
noncomputable def gw(X:Cx)(N:δ ρ)(scope:Scope)(C:ε)(s:ζ)(H:Hp)(ex:δ ε)(pn:δ<|ε×Obj):Cx:={X with N:=N,dI:=s,vY:=H,env:=compEnvC scope (clOf X.env.cells scope.names) C X.env,outer:=X.stack,ex:=ex,fn:=λ_=>false,pn:=pn,xe:=λ_ _=>False}
noncomputable def pick(σ:St)(src:δ<|θ π):St:=src.map λo=>match o with|some j=>(σ[j]?).join|none=>none
structure bj(X:Cx)(N:δ ρ)(src:δ (θ π))(scope:Scope):η where
 kind:scope.kind=.function
 gL:∀y∈scope.names,y.2≠.cell
 loc:∀y∈scope.names,y.2=.local->scope.names.lookup y.1=ϑ .local
 BL:∀y∈scope.names,y.2=.free->X.env.kindOf y.1=ϑ .cell\/X.env.kindOf y.1=ϑ .free
 len:src.length=N.length
 src:∀(i j:π)(x:ρ),src[i]?=some (some j)->N[i]?=some x->X.N[j]?=some x/\scope.names.lookup x=ϑ .free/\Pu X.env.scope x
def Ext(σ av:St):Prop:=av.length=σ.length/\∀(j:π) v,σ[j]?=some (some v)->av[j]?=some (some v)
def Co(g:TG)(src:δ<|θ π):Prop:=∀x σ H Q,g x (pick σ src) H Q->g x (pick σ src) H λav H'=>Ext (pick σ src) av/\Q av H'
def IG(wi:TI)(src:δ<|θ π)(g:TG)(tc:TT)(te:TE):TE:=λσ H Q=>wi σ H λJ H1=>∃W:π->π->δ V->Hp->η,(∃m,W 0 m [] H1)/\∀i m out H',W i m out H'->(J.stop i H'/\∀D,H' D=ϐ->Q (.ref D) (upd H' D<|.lst out))\/(J.go i H'/\out.length<Ϙ/\∀x H2,J.UC i H' x H2->g x (pick σ src) H2 λc d=>tc c d λb a=>if b=ϱ then te c a λv e=>∃m',m'<m/\W (i+1) m' (out++[v]) e else ∃m',m'<m/\W (i+1) m' out a)
section
variable{X:Cx}{N:δ ρ}{src:δ (θ π)}{scope:Scope}{tg iter elt:Δ}{ifs:δ Δ}{pos:Pos}{wi:TI}{g:TG}{tc:TT}{te:TE}
def Tq(X:Cx)(ifs:δ Δ)(t:TT):Prop:=∀(pins:δ (ε×Obj))(s:ζ)(σ:St)(H:Hp)(Q:χ->Hp->η),Inv X pins σ H s->t σ H Q->wpAny (model X.prog X.w) X.A (forIn ifs true λc r=>if r=ϱ then do let ok <-isTrue c X.env (eval c X.env);pure (ForInStep.yield ok) else pure (ForInStep.yield r)) (TP X pins σ Q) X.xe s
def Vb:TT:=λ_ H Q=>Q true H
theorem Mc:Tq X [] Vb:=λpins s σ H Q I h=>wpAny_tests_nil ⟨H,I,h⟩
theorem Md{t:TT}(h:PT X c t):Tq X [c] t:=λpins s σ H Q I hw=>wpAny_tests_one<|h pins s σ H Q I hw
theorem kU(a:∀x s',EE x s'->notedBy (model prog w) A env (λe s'=>R (.error e) s') x s')(I:π->ζ->η)
  (turn:∀n s,I n s->wpAny (model prog w) A (pyNext it) (λr aY=>match r with
   |none=>R (.ok .next) aY
   |some v=>wpAny (model prog w) A (letOwnedTupleGo target it v) (λ_ Oj=>wpAny (model prog w) A (assign target env v) (λ_ bW =>
     wpAny (model prog w) A (forIn ifs true λc r=>if r=ϱ then do let ok <-isTrue c env (eval c env);pure (ForInStep.yield ok) else pure (ForInStep.yield r)) (λok BW =>
      if ok=ϱ then wpAny (model prog w) A (eval elt env) (λx Ao =>
       wpAny (model prog w) A (call (.builtin "list.append") [acc,x]) (λ_ Vc=>∃m,m<n/\I m Vc) EE Ao) EE BW
      else ∃m,m<n/\I m BW) EE bW) EE Oj) EE aY) EE s)
  (n:π) (h:I n s):
  codeAny (model prog w) A (.compLoop (.ListComp elt [{target,iter,ifs,0}] scope pos) 0 it acc env) R s:=by
 refine codeAny_loop rfl I (λn s j=>?_) n h
 show wpAny _ A ((compTurn (.ListComp elt [{target,iter,ifs,0}] scope pos) 0 it acc env).onRaise λx=>do noteFrame x env;theTreesLotGoes x) _ _ s
 refine wpAny_noted ?_
 rw[compTurn_list]
 refine zc<|wpAny_standAt<|zc<|yz (turn n s j) (λr aY d=>?_) a
 cases r with
 |none=>exact zB d
 |some v =>
  refine zc<|yz d (λ_ Oj l=>?_) a
  refine zc<|yz l (λ_ bW o=>zc<|yz o (λok BW g=>?_) a) a
  cases ok with
  |false=>exact zB ⟨rfl,g⟩
  |true =>
   exact zc<|zc<|yz g (λx Ao p=>zc<|yz p (λ_ Vc i=>zB<|zB ⟨rfl,i⟩) a) a
def CompEnd(X:Cx)(pins:δ<|ε×Obj)(σ:St)(Q:VK)(D C:ε)(s':ζ):Prop:=∃H' m,Inv X pins σ H' s'/\Q (.ref D) H'/\s'.heap.Ns C m/\H' C=ϐ/\C≠X.env.locals/\X.dI.heap.objs.size<=C/\(∀x c,X.env.cells.lookup x=ϑ c->c≠C)/\(∀p∈X.pn++pins,p.1≠C)
theorem u9{pins:δ<|ε×Obj}{t:ζ}{σ:St}{G:Hp}{Q:VK}{it:ε}{fp:δ ε}{tn:π->Γ->η}{J:It}{E:ξ->ζ->η}(S:bj X N src scope)(hc:X.calm=ϱ) (hg:∀C s H ex pn,PG (gw X N scope C s H ex pn) tg g) (hx:Co g src) (hi:∀C s H ex pn,Tq (gw X N scope C s H ex pn) ifs tc) (he:∀C s H ex pn,PE (gw X N scope C s H ex pn) elt te) (I:Inv X pins σ G t) (T:Turn X.prog X.w X.K tg J fp it tn) (st:tn 0 t.heap) (U:∀b∈fp,rM X pins G b) (W:π->π->δ V->Hp->η) (w0:∃m,W 0 m [] G) (turn:∀i m out H',W i m out H'->(J.stop i H'/\∀D,H' D=ϐ->Q (.ref D) (upd H' D<|.lst out))\/(J.go i H'/\out.length<Ϙ/\∀x H2,J.UC i H' x H2->g x (pick σ src) H2 λgm H3=>tc gm H3 λb H4=>if b=ϱ then te gm H4 λv H5=>∃O,O<m/\W (i+1) O (out++[v]) H5 else ∃O,O<m/\W (i+1) O out H4)) {RR:ξ->ε->Result->ζ->η} (a8:∀D C s',CompEnd X pins σ Q D C s'->RR (.ref D) C (.ok .next) s'): wpAny (model X.prog X.w) X.A (newList []) (λacc BW=>wpAny (model X.prog X.w) X.A (newFunctionEnv scope X.env.globals (clOf X.env.cells scope.names) [] X.env.qual none .none<|some X.env) (λVf Ao=>codeAny (model X.prog X.w) X.A (.compStart (.ListComp elt [{tg,iter,ifs,0}] scope pos) 0 (.ref it) acc {Vf with scope:=relabel scope X.env}) (RR acc Vf.locals) Ao) E BW) E t:=by
 refine yK<|wpAny_newFunctionEnv S.gL (by intro y hy;simp at hy) (λh₁ wc rX=>?_) S.kind;dsimp only at wc rX⊢;generalize ZV:t.heap.push {cls:=.type "list",dict:=none,data:=.seq ([]:δ ξ).toArray}=G2 at wc rX⊢;have hC:G2.objs.size=t.heap.objs.size+1:=by rw[<-ZV,yg]
 have Ts:t.heap.objs.size≠G2.objs.size:=by rw[hC];exact zC<|Nat.lt_succ_self _
 have Me:t.heap.objs.size<=G2.objs.size:=by rw[hC];exact yJ _
 have L:∀b o,t.heap.get? b=ϑ o->h₁.get? b=ϑ o:=λb o e=>rX.extBut b o (zC<|zt (zu e) Me)<|za _<|ZV ▸ za _ e;have rY:h₁.get? t.heap.objs.size=ϑ {cls:=.type "list",dict:=none,data:=.seq ([]:δ ξ).toArray}:=rX.extBut _ _ Ts<|za _<|ZV ▸ zp _ rfl;generalize b1:G2.objs.size=C at hC Ts Me wc rX⊢;have M:t.heap.objs.size<=C:=Me;generalize hD:t.heap.objs.size=D at hC Ts Me rY⊢;have je:∀x c,(clOf X.env.cells scope.names).lookup x=ϑ c->X.env.cells.lookup x=ϑ c:=rW X.env.cells scope.names [] (by intro x c h;simp at h);have IH:∀x c,X.env.cells.lookup x=ϑ c->c<t.heap.objs.size:=λx c e=>by obtain⟨v,q⟩:=I.cell x c e;exact q.lt
 have QG:∀b∈fp,b<t.heap.objs.size:=λb a=>by obtain⟨o,e,_⟩:=T.obj _ _ st b a;exact zu e
 have ok:(gw X N scope C t G fp<|X.pn++pins).Ok:=by refine{I.ok.mod,S.kind,I.ok.glob,I.ok.blt,M,λx y c h1 h2=>I.ok.inj x y c (je _ _ h1)<|je _ _ h2,λx hk=>?_,λx c h=>(nomatch h),I.ok.hd,I.ok.frames,.inl rfl,λb a=>{?_,λx c h=>?_},I.bs,zH I.ok.FL I.sz,λb o e a=>?_,λb a hf=>?_,I.stack,I.qO};have hk:(relabel scope X.env).names.lookup x=ϑ .cell\/(relabel scope X.env).names.lookup x=ϑ .free:=hk;unfold relabel at hk;dsimp only at hk;rw[jF]at hk;(cases hl:scope.names.lookup x with|none=>(rw[hl]at hk;rcases hk with z|z<;>cases z)|some k=>rw[hl]at hk;have hm:=yt hl;have Vh:k=.free:=(by by_cases Vh:k=.free;exact Vh;exfalso;have e1:(k==NameKind.free)=ϰ:=(by simpa using Vh);simp only[Option.map,e1,zY,Bool.false_eq_true,if_false]at hk;rcases hk with z|z;exact S.gL _ hm<|zT z;exact Vh<|zT z);subst Vh;obtain⟨c,Ma⟩:=I.ok.has x<|S.BL _ hm rfl;exact{c,jE X.env.cells scope.names [] x c (by intro x c h;simp at h) hm Ma});exact zC<|zt (QG b a) M;exact(U b a).2.2.2.2.1 x c<|je _ _ h;have q:b∈X.ex\/X.dI.heap.objs.size<=b:=(U b a).2.2.2.1;rcases q with q|q;exact I.ok.BR b o e q;exact absurd (zt (zu e)<|zH I.ok.FL q)<|yI _;rcases zj.mp (I.og b hf) with z|z;exact(U b a).2.1 z;exact(U b a).2.2.1 z
 have Vi:∀p∈X.pn++pins,p.1∉lN X.stack:=λp hp z=>by obtain⟨_,_,ne,nf,_⟩:=I.pin p hp;rcases zj.mp (I.og _ z) with q|q;exact ne q;exact nf q
 have II:∀p∈X.pn++pins,p.1<t.heap.objs.size:=λp hp=>zu (I.pin p hp).1;have Vj:∀b∈lN X.stack,b<t.heap.objs.size:=λb a=>by rcases zj.mp (I.og b a) with z|z;rw[z];exact I.lt;obtain⟨_,o,ho,_⟩:=I.ok.kR.mem z;exact zt (zu ho) I.sz
 have ZW:∀(i:π)(x:ρ)(v:V),N[i]?=some x->(pick σ src)[i]?=some (some v)->∃u c,RelV v u/\(clOf X.env.cells scope.names).lookup x=ϑ c/\t.heap.IsCell c (some u)/\scope.names.lookup x=ϑ .free:=λi x v e1 e2=>by unfold pick at e2;rw[zm]at e2;cases es:src[i]? with|none=>(rw[es]at e2;cases e2)|some o=>rw[es]at e2;cases o with|none=>(cases e2)|some j=>have e3:(σ[j]?).join=ϑ v:=zT e2;have e4:σ[j]?=some (some v):=(by cases q:σ[j]? with|none=>(rw[q]at e3;cases e3)|some z=>rw[q]at e3;exact congrArg some e3);obtain⟨a1,a2,a3⟩:=S.src i j x es e1;obtain⟨m0,_,hl⟩:=I.loc;obtain⟨u,r,l⟩:=hl j x v a1 e4 a3;have hm:=yt a2;have hk:=S.BL _ hm rfl;rcases l with⟨k,_⟩|⟨_,c,Ma,z⟩;rcases hk with hk|hk<;>(rw[k]at hk;cases hk);exact{u,c,r,jE X.env.cells scope.names [] x c (by intro x c h;simp at h) hm Ma,z,a2}
 have kinds:∀x,scope.names.lookup x=ϑ .free->(compEnvC scope (clOf X.env.cells scope.names) C X.env).kindOf x=ϑ .cell\/(compEnvC scope (clOf X.env.cells scope.names) C X.env).kindOf x=ϑ .free:=λx hx=>by show(relabel scope X.env).names.lookup x=ϑ .cell\/(relabel scope X.env).names.lookup x=ϑ .free;unfold relabel;dsimp only;rw[jF,hx];dsimp only[Option.map];split;exact .inl rfl;exact .inr rfl
 have Ic:Inv (gw X N scope C t G fp<|X.pn++pins) [] (pick σ src) G {t with heap:=h₁,toks:=t.toks+([]:δ (ρ×ξ)).length}:=by refine{ok,rfl,I.bare,Un.kept L,{_,wc,λi x v e1 e2 e3=>?_},λx c e=>?_,I.aG.fresh M,λx c e=>I.dS x c<|je x c e,λp hp=>?_,I.aG.kept L,?_};obtain⟨u,c,r,e5,⟨o,ho,hd⟩,hf⟩:=ZW i x v e1 e2;exact{u,r,.inr {kinds x hf,c,e5,{o,L _ _ ho,hd}}};obtain⟨v,o,ho,hd⟩:=I.cell x c<|je x c e;exact{v,o,L _ _ ho,hd};have hp:p∈X.pn++pins:=(by simpa [gw]using hp);obtain⟨e,n,_,_,d⟩:=I.pin p hp;exact{L _ _ e,n,zC<|zt (II p hp) M,Vi p hp,d};show(pick σ src).length=N.length;unfold pick;rw[zb,S.len]
 have R:t.heap.objs.size<=D:=Nat.le_of_eq hD;have QH:D∉lN X.stack:=λz=>absurd (zt (Vj D z) R)<|yI _;have Ol:D∉fp:=λz=>absurd (zt (QG D z) R)<|yI _;have oj:∀{pl:δ (ε×Obj)}{H':Hp},(∀b∈fp,H' b=ϐ)->(∀p∈pl,p.1∉fp)->∀b∈fp,rM (gw X N scope C t G fp<|X.pn++pins) pl H' b:=λ{pl H'} hn eC b a=>by obtain⟨f0,f1,f2,f3,f4,f5⟩:=U b a;refine{hn b a,zC<|zt (QG b a) M,λz=>?_,.inl a,λx c e=>f4 x c<|je x c e,λp hp=>?_};rcases zj.mp (I.og b z) with q|q;exact f1 q;exact f2 q;have hp:p∈(X.pn++pins)++pl:=hp;rcases zO.mp hp with hp|hp;exact f5 p hp;exact λz=>eC p hp<|z ▸ a
 have back:∀{s':ζ}{H':Hp}{out:δ V}{B:δ ξ}{F:π}{av:St},Inv (gw X N scope C t G fp<|X.pn++pins) [] av H' s'->H' D=ϐ->out.length<=Ϙ->Vals out B->s'.heap.get? D=ϑ {cls:=.type "list",data:=.seq B.toArray F}->(∀D,H' D=ϐ->Q (.ref D) (upd H' D<|.lst out))->CompEnd X pins σ Q D C s':=λ{s' H' out B F av} I' hn hl hv ho q=>by obtain⟨m,hm,_⟩:=I'.loc;have un:Un (lN X.stack) fp G H' t.heap s'.heap:=I'.base;have a7:∀b o,t.heap.get? b=ϑ o->b≠D:=λb o e=>zC<|zt (zu e) R;have fD:G D=ϐ:=I.aG.fresh R;refine{upd H' D<|.lst out,m,?_,q D hn,hm,by rw[au<|Ne.symm Ts];exact I'.free,yw<|zt I.lt M,zH I.sz M,λx c e=>zC<|zt (IH x c e) M,λp hp=>zC<|zt (II p hp) M};refine I.HW (ch:=fp) I'.os {un.keep,un.slot,λb o e n a=>?_,un.there,λb xs e=>?_,λb o u e=>?_,λb ps e=>?_} (λb o e=>?_) I'.bare λb a=>?_;rw[au<|a7 b o e];exact un.free b o e n a;rw[au<|az e fD];exact un.gH b xs e;rw[au<|az e fD];exact un.gf b o u e;rw[au<|az e fD];exact un.gk b ps e;by_cases a:b=D;subst a;rw[aC]at e;cases e;exact⟨hl,B,F,hv,ho⟩;rw[au a]at e;refine(I'.aG b o e).oa (λc v _ q=>q) (λc q=>?_) λc xs q=>?_;rw[au<|az q hn];exact q;rw[au<|az q hn];exact q;obtain⟨f0,f1,f2,f3,f4,f5⟩:=U b a;exact⟨f3,f1,f4,f5⟩
 obtain⟨m0,w0⟩:=w0;have loop:∀Ao:ζ,Ao={t with heap:=h₁,toks:=t.toks+([]:δ (ρ×ξ)).length}->codeAny (model X.prog X.w) X.A (.compLoop (.ListComp elt [{tg,iter,ifs,0}] scope pos) 0 (.ref it) (.ref D)<|compEnvC scope (clOf X.env.cells scope.names) C X.env) (RR (.ref D) C) Ao:=by rintro Ao rfl;refine kU (EE:=λ_ _=>False) (λ_ _ f=>f.elim) (λn s'=>∃i out B F H',Inv (gw X N scope C t G fp<|X.pn++pins) [] (pick σ src) H' s'/\H' D=ϐ/\out.length<=Ϙ/\Vals out B/\s'.heap.get? D=ϑ {cls:=.type "list",data:=.seq B.toArray F}/\tn i s'.heap/\(∀b∈fp,H' b=ϐ)/\W i n out H') ?_ m0 {0,[],[],0,G,Ic,I.aG.fresh R,yb _,.nil,rY,T.keep _ _ _ st λb a o e=>L b o e,λb a=>(U b a).1,w0};rintro n s3 ⟨i,out,B,F,H3,I3,a6,Vk,Yg,a9,UH,UI,w3⟩;have QI:∀(B:δ ξ) (F:π) (v:θ ξ),({cls:=.type "list",data:=.seq B.toArray F} : Obj).data≠.cell v:=λ_ _ _ z=>nomatch z;have a5:Inv (gw X N scope C t G fp<|X.pn++pins) [(D,{cls:=.type "list",data:=.seq B.toArray F})] (pick σ src) H3 s3:=I3.mi λp hp=>(by have e:p=(D,{cls:=.type "list",data:=.seq B.toArray F}):=(by simpa using hp);subst e;exact{a9,a6,Ts,QH,QI B F});have ZX:∀p∈[((D,{cls:=.type "list",data:=.seq B.toArray F}):ε×Obj)],p.1∉fp:=λp hp=>(by have e:p=(D,{cls:=.type "list",data:=.seq B.toArray F}):=(by simpa using hp);subst e;exact Ol);rcases turn i n out H3 w3 with⟨stop,qn⟩|⟨go,eI,step⟩;refine bp (T.done (gw X N scope C t G fp<|X.pn++pins) rfl rfl rfl hc i _ s3 _ H3 _ a5 (oj UI ZX) UH stop) λr s4 ⟨hr,I4⟩=>?_;subst hr;have p4:=(I4.pin (D,{cls:=.type "list",data:=.seq B.toArray F})<|zK _<|by simp).1;exact a8 D C s4<|back (I4.mi (pins':=[]) λp hp=>nomatch hp) a6 Vk Yg p4 qn;refine bp (T.item (gw X N scope C t G fp<|X.pn++pins) rfl rfl rfl hc i _ s3 _ H3 _ a5 (oj UI ZX) UH go) λr s4 ⟨u,hr,h4⟩=>?_;subst hr;refine bp h4 λ_ s5 ⟨x,H5,I5,r5,y5,Y,b0⟩=>?_;have Zm:=I5.pinned (oj b0 ZX)<|T.obj _ _ Y;refine bp (hg _ _ _ _ _ _ s5 _ H5 x u _ Zm r5<|hx x σ H5 _<|step x H5 y5) λ_ s6 ⟨UJ,H6,I6,e6,q6⟩=>?_;have a4:∀{s7:ζ}{P:Hp},Inv (gw X N scope C t G fp<|X.pn++pins) ([(D,{cls:=.type "list",data:=.seq B.toArray F})]++rN fp s5.heap) UJ P s7->Inv (gw X N scope C t G fp<|X.pn++pins) [] (pick σ src) P s7/\P D=ϐ/\s7.heap.get? D=ϑ {cls:=.type "list",data:=.seq B.toArray F}/\tn (i+1) s7.heap/\∀b∈fp,P b=ϐ:=λ{s7 P} Z=>(by have pD:=Z.pin (D,{cls:=.type "list",data:=.seq B.toArray F})<|zK _ (by simp);refine{(Z.mi (pins':=[]) λp hp=>nomatch hp).weak e6.1.symm e6.2,pD.2.1,pD.1,T.keep _ _ _ Y λb a o e=>(Z.pin (b,o)<|zK _<|zK _<|iG a e).1,λb a=>?_};obtain⟨o,e,d⟩:=T.obj _ _ Y b a;exact(Z.pin (b,o)<|zK _<|zK _<|iG a e).2.1);refine bp (hi _ _ _ _ _ _ s6 UJ H6 _ I6 q6) λb s7 ⟨P,Z,q7⟩=>?_;cases b with|false=>(rw[qa zd]at q7⊢;obtain⟨O,hm,w7⟩:=q7;obtain⟨J7,d7,o7,t7,f7⟩:=a4 Z;exact{O,hm,i+1,out,B,F,P,J7,d7,Vk,Yg,o7,t7,f7,w7})|true=>rw[qb rfl]at q7⊢;refine bp (he _ _ _ _ _ _ s7 UJ P _ Z q7) λv s8 ⟨y,H8,I8,r8,O,hm,w8⟩=>?_;obtain⟨J8,d8,o8,t8,f8⟩:=a4 I8;have a0:B.toArray.size<=sizeLine:=(by rw[zr,<-Yg.length];exact Vk);refine wpAny_list_append_plain (items:=B.toArray) (hsz:=a0) ⟨F,o8⟩ λh9 ⟨n9,e9⟩ sb=>?_;have J9:Inv (gw X N scope C t G fp<|X.pn++pins) [] (pick σ src) H8 {s8 with heap:=h9}:=J8.turned (t':=s8.toks) (it:=D) (λb o a e=>(sb.2 b a).trans e) d8 Ts (.inr R) (λx c e=>zC<|zt (IH x c<|je x c e) R) λp hp=>(by have hp:p∈X.pn++pins:=(by simpa [gw]using hp);exact zC<|zt (II p hp) R);refine{O,hm,i+1,out++[y],B++[v],n9,H8,J9,d8,?_,Yg.append<|.cons r8 .nil,?_,T.keep _ _ _ t8 λb a o e=>(sb.2 b λz=>Ol<|z ▸ a).trans e,f8,w8};rw[zo];exact eI;rw[e9];simp
 exact codeAny_compStart_list (loop _ rfl)<|T.self _ _ _ _ _ (T.keep _ _ _ st λb a o e=>L b o e)<|loop _ rfl
theorem Mf(S:bj X N src scope)(j:X.calm=ϱ)(a:PI X tg iter wi) (hg:∀C s H ex pn,PG (gw X N scope C s H ex pn) tg g) (hx:Co g src) (hi:∀C s H ex pn,Tq (gw X N scope C s H ex pn) ifs tc) (G:∀C s H ex pn,PE (gw X N scope C s H ex pn) elt te) (E:ψ (∀x,foldedSetIterable iter X.env x=pure x) qQ0):PE X (.ListComp elt [{tg,iter,ifs,0}] scope pos) (IG wi src g tc te):=by intro pins s σ H Q I h;rw[eval_ListComp];have l:closureFor scope X.env=pure (clOf X.env.cells scope.names):=gJ λy d hf=>I.ok.has y.1<|S.BL y d hf;refine wpAny_comprehension_free (use:=none) rfl E l S.kind S.loc<|bp (a pins s σ H _ I h) λv s1 h1=>bp h1 λK s2 h2=>?_;obtain⟨it,fp,tn,J,H2,e,n,T,i,t,W,z,turn⟩:=h2;subst e;refine u9 (RR:=λc C=>compPost (model X.prog X.w) X.A X.xe none (EP X pins σ Q) c C) S j hg hx hi G n T i t W z turn λD C s' ⟨H',m,F,q,hm,hn,h1,h2,B,p⟩=>?_;exact{m,hm,λh' sb=>{.ref D,H',F.turned (t':=s'.toks) (it:=C) (λb o r e=>(sb.2 b r).trans e) hn h1 (.inr h2) B p,rfl,q}}
theorem Cp{i:π}{x:ρ}{pos' r:Pos}(hN:X.N.Nodup)(Z:X.N[i]?=some x)(p:X.env.scope.names.lookup x=ϑ .local) (S:bj X N src scope) (E:X.calm=ϱ) (c:PI X tg iter wi) (hg:∀C s H ex pn,PG (gw X N scope C s H ex pn) tg g) (hx:Co g src) (hi:∀C s H ex pn,Tq (gw X N scope C s H ex pn) ifs tc) (he:∀C s H ex pn,PE (gw X N scope C s H ex pn) elt te) (F:ψ (swapsWith (.ListComp elt [{tg,iter,ifs,0}] scope pos) (some<|.Name x pos') r.line X.env=pure true) qQJ) (hs:ψ (∀x,foldedSetIterable iter X.env x=pure x) qQ0):PS X (.Assign [.Name x pos'] (.ListComp elt [{tg,iter,ifs,0}] scope pos) r) (PY (IG wi src g tc te)<|jd i):=by
 intro pins s σ H D I h;rw[exec_Assign_Name_used _ _ _ _ F];refine zc<|wpAny_standAt<|zc ?_;have K:closureFor scope X.env=pure (clOf X.env.cells scope.names):=gJ λy z hf=>I.ok.has y.1<|S.BL y z hf;show wpAny _ X.A (do let _ <-comprehension (.ListComp elt [⟨tg,iter,ifs,0⟩] scope pos) scope X.env _ (newList []) false (eval iter X.env) (some (assign (.Name x pos') X.env))) _ _ s;refine zc<|yz (wpAny_comprehension_free (use:=some<|assign (.Name x pos') X.env) (Q:=λ_ s'=>∃av H',Inv X pins av H' s'/\D.nx av H') rfl hs K S.kind S.loc<|bp (c pins s σ H _ I h) λv s1 h1=>bp h1 λX8 s2 h2=>?_) (λ_ s' L=>zB<|zB L) λ_ _ e=>e;obtain⟨it,fp,tn,J,H2,e,M,T,B,U,W,Y,turn⟩:=h2;subst e;refine u9 (Q:=λv H1=>D.nx (σ.set i<|some v) H1) (RR:=λd C=>compPost (model X.prog X.w) X.A X.xe (some<|assign (.Name x pos') X.env) (λ_ s'=>∃av H',Inv X pins av H' s'/\D.nx av H') d C) S E hg hx hi he M T B U W Y turn λn C s' ⟨H',m,I',q,hm,hn,h1,h2,t,O⟩=>?_;show wpAny _ X.A (assign (.Name x pos') X.env<|.ref n) _ _ _;refine wpAny_assign_Name<|uQ I' hN Z (.inl p) (v:=.ref n) rfl (λCa j ⟨a,sb,ha⟩=>?_)<|.inr p;have l:C≠a:=by rcases ha with ha|ha;rw[ha];exact h1;exact Ne.symm<|t _ _ ha
 refine{m,hm.sameBut sb l,λR G=>{_,H',j.turned (t':=Ca.toks) (it:=C) (λb o P e=>(G.2 b P).trans e) hn h1 (.inr h2) t O,q}}
end
theorem ox{σ:St}{src:δ<|θ π}{i:π}(h:src[i]?=some none):(pick σ src)[i]?=some none:=by unfold pick;rw[zm,h];rfl
theorem Ext.set(h:σ0[i]?=some none)(e:Ext σ0 σ):Ext σ0 (σ.set i<|some v):=by
 refine{by rw[List.length_set];exact e.1,λj w a=>?_};have:i≠j:=by rintro rfl;rw[h]at a;cases a
 rw[List.getElem?_set_ne this];exact e.2 j w a
theorem Ext.refl(σ:St):Ext σ σ:={rfl,λ_ _ h=>h}
theorem Ez{src:δ<|θ π}{i:π}(h:src[i]?=some none):Co (jd i) src:=λx σ H Q q=>{(Ext.refl _).set<|ox h,q}
theorem mz{K:Φ}{n:π}{src:δ<|θ π}{i j:π}(h:src[i]?=some none)(h':src[j]?=some none):Co (LM K n<|rK (jd i)<|rK (jd j) LL) src:=λx σ H Q q=>by obtain⟨a,xs,e1,d,hl,v,r,e2,c,e,e3,e4,q⟩:=q;exact{a,xs,e1,d,hl,v,r,e2,c,e,e3,e4,((Ext.refl _).set<|ox h).set<|ox h',q}
theorem all_bools{xs:δ V}{c:δ ξ}{bs:δ χ}(d:Vals xs c)(a:xs=bs.map V.bl):∀(i:π)(v:ξ),c.toArray[i]?=some v->v=Value.bool ((bs[i]?).getD false):=by
 subst a;intro i v h;have h':c[i]?=some v:=by simpa using h
 have hl:=d.length;rw[zb]at hl;have hi:i<c.length:=(ze.mp h').1;have a:bs[i]?=some (bs[i]'(by lia)):=by simp
 obtain⟨u,hu,r⟩:=d.get (i:=i) (x:=V.bl<|bs[i]'(by lia)) (by rw[zm,a];rfl);rw[h']at hu;cases hu;rw[a];exact r
theorem range_all{bs:δ χ} : (List.range bs.length).all (λi=>(bs[i]?).getD false)=bs.all id:=by rw[yj,zZ,zZ];constructor;intro h b a;obtain⟨i,hi,rfl⟩:=List.mem_iff_getElem.mp a;have:=h i<|zW.mpr hi;simpa [hi]using this;intro h i hi;have hi:=zW.mp hi;simpa [hi]using h _ (List.getElem_mem hi)
theorem range_any{bs:δ χ} : (List.range bs.length).any (λi=>(bs[i]?).getD false)=bs.any id:=by rw[yj,yx,yx];constructor;rintro⟨i,hi,h⟩;have hi:=zW.mp hi;exact{bs[i],List.getElem_mem hi,by simpa [hi]using h};rintro⟨b,a,h⟩;obtain⟨i,hi,rfl⟩:=List.mem_iff_getElem.mp a;exact{i,zW.mpr hi,by simpa [hi]using h}
section
variable{X:Cx}
theorem uq(g:X.calm=ϱ):eU X (.builtin "all") (λxs H Q=>∃(a:ε)(bs:δ χ),xs=[.ref a]/\iD X.K H a (bs.map V.bl)/\Q (.bl<|bs.all id) H):=by
 intro pins s σ H xs us Q I r h;obtain⟨a,bs,rfl,l,q⟩:=h;obtain⟨u,rfl,n⟩:=vals1 r;cases n;obtain⟨d,c,p,hz⟩:=I.list l;have hl:=c.length;rw[zb]at hl;refine call_all_walk<|wpAny_pyIter_list p.isList ?_;refine{s.heap.objs.size,_,_,_,_,_,λi=>(bs[i]?).getD false,rfl,Walks.list (A:=X.A.in1) (I.ok.hd g) s.heap.objs.size a (zC p.lt) d.toArray,{{_,zp _ rfl,rfl,rfl},p.isList.at λo e=>za _ e},?_,λh' tk hk=>?_};intro i v s' t E' m j;rw[all_bools c rfl i v m];exact yC j;have e:d.toArray.size=bs.length:=by rw[zr,<-hl]
 rw[e,range_all];exact{.bl<|bs.all id,H,I.kept (h':=h') (t':=tk) λb o e=>hk b o (by simpa using zC (zu e))<|za _ e,rfl,q}
theorem ur(g:X.calm=ϱ):eU X (.builtin "any") (λxs H Q=>∃(a:ε)(bs:δ χ),xs=[.ref a]/\iD X.K H a (bs.map V.bl)/\Q (.bl<|bs.any id) H):=by
 intro pins s σ H xs us Q I r h;obtain⟨a,bs,rfl,l,q⟩:=h;obtain⟨u,rfl,n⟩:=vals1 r;cases n;obtain⟨d,c,p,hz⟩:=I.list l;have hl:=c.length;rw[zb]at hl;refine call_any_walk<|wpAny_pyIter_list p.isList ?_;refine{s.heap.objs.size,_,_,_,_,_,λi=>(bs[i]?).getD false,rfl,Walks.list (A:=X.A.in1) (I.ok.hd g) s.heap.objs.size a (zC p.lt) d.toArray,{{_,zp _ rfl,rfl,rfl},p.isList.at λo e=>za _ e},?_,λh' tk hk=>?_};intro i v s' t E' m j;rw[all_bools c rfl i v m];exact yC j;have e:d.toArray.size=bs.length:=by rw[zr,<-hl]
 rw[e,range_any];exact{.bl<|bs.any id,H,I.kept (h':=h') (t':=tk) λb o e=>hk b o (by simpa using zC (zu e))<|za _ e,rfl,q}
end
noncomputable def ownOf:HO->θ ε|.ins _ dx _=>some dx|.lA _ u=>ownOf u|_=>none
structure Fg(H H' G:Hp):η where
 sub:∀b o,G b=ϑ o->H' b=ϑ o
 dom:∀b o,H b=ϑ o->∃o',G b=ϑ o'
 own:∀a o dx,G a=ϑ o->ownOf o=ϑ dx->(∃o',H a=ϑ o'/\ownOf o'=ϑ dx)\/∃o',G dx=ϑ o'
theorem aI:bootBuiltins "len"= some (.builtin "len"):=PySem.boot_len
theorem fF:bootBuiltins "all"= some (.builtin "all"):=boot_all
theorem IJ:bootBuiltins "any"= some (.builtin "any"):=boot_any
theorem ao:bootBuiltins "isinstance"= some (.builtin "isinstance"):=boot_isinstance
theorem rZ:bootBuiltins "int"= some (.type "int"):=PyProof.Rows.boot_int
theorem Mg:bootBuiltins "bool"= some (.type "bool"):=PyProof.Rows.boot_bool
theorem iH:bootBuiltins "str"= some (.type "str"):=PyProof.Rows.boot_str
theorem aZ:bootBuiltins "tuple"= some (.type "tuple"):=PyProof.Rows.boot_tuple
theorem qW:bootBuiltins "list"= some (.type "list"):=PyProof.Rows.boot_list
theorem Mh:bootBuiltins "dict"= some (.type "dict"):=PyProof.Rows.boot_dict
theorem QK:bootBuiltins "set"= some (.type "set"):=PyProof.Rows.boot_set
set_option genInjectivity true in
set_option genSizeOfSpec true in
inductive Kd where
 |ay|bl|int|str|lst|tup|cM
 deriving DecidableEq
noncomputable def Kd.name:Kd->String|.ay=>"NoneType" |.bl=>"bool" |.int=>"int" |.str=>"str" |.lst=>"list" |.tup=>"tuple" |.cM=>"dict"
inductive r9 (H:Hp):V->Kd->η where
 |ay:r9 H .ay .ay
 |bl (b:χ):r9 H (.bl b) .bl
 |int (i:ν):r9 H (.int i) .int
 |str (x:ρ):r9 H (.str x) .str
 |lst {a:ε}{xs:δ V} (e:H a=ϑ (.lst xs)):r9 H (.ref a) .lst
 |tup {a:ε}{xs:δ V} (e:H a=ϑ (.tup xs)):r9 H (.ref a) .tup
 |cM {a:ε}{kvs:δ<|Key×V} (e:H a=ϑ (.dK kvs)):r9 H (.ref a) .cM
theorem r9.ty{K:Φ}{H:Hp}{x:V}{k:Kd}(h:r9 H x k):oo K H x (.type k.name):=by cases h with|ay=>exact .ay|bl b=>exact .bl b|int i=>exact .int i|str x=>exact .str x|lst e=>exact .lst e|tup e=>exact .tup e|cM e=>exact .dK e
noncomputable def we(T:String):θ (Kd->χ):=if T ="int" then some λk=>match k with|.int=>true|.bl=>true|_=>false else if T ="bool" then some λk=>match k with|.bl=>true|_=>false else if T ="str" then some λk=>match k with|.str=>true|_=>false else if T ="tuple" then some λk=>match k with|.tup=>true|_=>false else if T ="list" then some λk=>match k with|.lst=>true|_=>false else if T ="dict" then some λk=>match k with|.cM=>true|_=>false else none
set_option tactic.hygienic true in
theorem IK{K:Φ}{T:String}{g:Kd->χ}(h:we T=ϑ g)(k:Kd):kitOne K (.type k.name) (.type T)=ϑ (g k):=by unfold we at h;split at h;rename_i e;subst e;cases h;cases k<;>rfl;split at h;rename_i e;subst e;cases h;cases k<;>rfl;split at h;rename_i e;subst e;cases h;cases k<;>rfl;split at h;rename_i e;subst e;cases h;cases k<;>rfl;split at h;rename_i e;subst e;cases h;cases k<;>rfl;split at h;rename_i e;subst e;cases h;cases k<;>rfl;cases h
section
variable{X:Cx}
theorem IL:eU X (.builtin "isinstance") (λxs H Q=>∃x T k g,xs=[x,.ty T]/\we T=ϑ g/\r9 H x k/\Q (.bl<|g k) H):=by intro pins s σ H xs us Q I r h;obtain⟨x,T,k,g,rfl,hg,hk,q⟩:=h;obtain⟨v,d,rfl,c,a⟩:=vals2 r;cases a;exact F7 I c hk.ty (IK hg k) λtk=>{.bl<|g k,H,I.tok tk,rfl,q}
end
mutual
def Dt(K:Φ)(H:Hp):PyData->V->η|.none,v=>v=.ay|.bool b,v=>v=.bl b|.int i,v=>v=.int i|.str z,v=>v=.str z|.list ds,v=>∃a xs,v=.ref a/\iD K H a xs/\DtAll K H ds xs|.tuple ds,v=>∃a xs,v=.ref a/\gW K H a xs/\DtAll K H ds xs|.dict _,_=>False
def DtAll(K:Φ)(H:Hp):δ PyData->δ V->η|[],xs=>xs=[]|d::ds,xs=>∃y ys,xs=y::ys/\Dt K H d y/\DtAll K H ds ys
end
section
variable{X:Cx}{pins:δ (ε×Obj)}{σ:St}{H:Hp}{s:ζ}
mutual
theorem Inv.reads(I:Inv X pins σ H s):∀(d:PyData){x:V}{u:ξ},Dt X.K H d x->RelV x u->∃l,Reads s.heap u d l
 |.none,x,u,h,r=>by
  have h:x=.ay:=by simpa only[Dt]using h
  subst h;cases r;exact{_,.none}
 |.bool b,x,u,h,r=>by
  have h:x=.bl b:=by simpa only[Dt]using h
  subst h;cases r;exact{_,.bool b}
 |.int i,x,u,h,r=>by
  have h:x=.int i:=by simpa only[Dt]using h
  subst h;obtain⟨t,rfl⟩:=r;exact{_,.int i t}
 |.str z,x,u,h,r=>by
  have h:x=.str z:=by simpa only[Dt]using h
  subst h;obtain⟨t,rfl⟩:=r;exact{_,.str z t}
 |.list ds,x,u,h,r=>by
  have h:∃a xs,x=.ref a/\iD X.K H a xs/\DtAll X.K H ds xs:=by simpa only[Dt]using h
  obtain⟨a,xs,rfl,g,hd⟩:=h;cases r;obtain⟨m,j,p,_⟩:=I.list g;obtain⟨l,ra⟩:=Inv.readsAll I ds hd j;obtain⟨o,e,c,n,d⟩:=p.isList;exact{_,.list e c d<|by simpa using ra}
 |.tuple ds,x,u,h,r=>by
  have h:∃a xs,x=.ref a/\gW X.K H a xs/\DtAll X.K H ds xs:=by simpa only[Dt]using h
  obtain⟨a,xs,rfl,g,hd⟩:=h;cases r;obtain⟨m,j,p,_⟩:=I.tuple g;obtain⟨l,ra⟩:=Inv.readsAll I ds hd j;obtain⟨o,e,c,n,d⟩:=p;exact{_,.tuple e c d<|by simpa using ra}
 |.dict _,x,u,h,r=>by
  have h:False:=by simpa only[Dt]using h
  exact h.elim
theorem Inv.readsAll(I:Inv X pins σ H s):∀(ds:δ PyData){xs:δ V}{us:δ ξ},DtAll X.K H ds xs->Vals xs us->∃a,ReadsAll s.heap us ds a
 |[],xs,us,h,r=>by
  have h:xs=[]:=by simpa only[DtAll]using h
  subst h;cases r;exact{_,.nil}
 |d::ds,xs,us,h,r=>by
  have h:∃y ys,xs=y::ys/\Dt X.K H d y/\DtAll X.K H ds ys:=by simpa only[DtAll]using h
  obtain⟨y,ys,rfl,h1,h2⟩:=h;cases r with|cons e g=>obtain⟨a,ra⟩:=Inv.reads I d h1 e;obtain⟨bs,c⟩:=Inv.readsAll I ds h2 g;exact{_,.cons ra c}
end
end
def Vn(K:Φ)(a:χ):R2:=λx y H Q=>∃d e,Dt K H d x/\Dt K H e y/\d.canLay0=ϱ/\e.canLay0=ϱ/\(d.depth<=64\/e.depth<=64)/\Q (.bl<|if a then !PyData.eqv d e else PyData.eqv d e) H
section
variable{X:Cx}
theorem QL(hu:X.A.units+64<cLine):gX X (compareOp .Eq) (Vn X.K false):=by intro pins s σ H x y v u Q I j i h;obtain⟨d,e,hd,g,cd,c,dp,q⟩:=h;obtain⟨l,ra⟩:=I.reads d hd j;obtain⟨bs,a⟩:=I.reads e g i;exact SeqAt.compareEq_reads ra a cd c (by rcases dp with dp|dp<;>lia)<|aH I q rfl
theorem IM(hu:X.A.units+64<cLine):gX X (compareOp .NotEq) (Vn X.K true):=by intro pins s σ H x y v u Q I j i h;obtain⟨d,e,hd,g,cd,c,dp,q⟩:=h;obtain⟨l,ra⟩:=I.reads d hd j;obtain⟨bs,a⟩:=I.reads e g i;exact SeqAt.compareNe_reads ra a cd c (by rcases dp with dp|dp<;>lia)<|aH I q rfl
end
theorem kH(a b:π):HF ⟨#[a]⟩ ⟨#[b]⟩=ω (a<=b):=by
 unfold HF;have e:([b]<[a])↔b<a:=by rw[List.cons_lt_cons_iff];constructor;rintro (h|⟨_,h⟩);exact h;exact absurd h<|List.not_lt_nil _;exact .inl
 rw[yj];show(!decide ([b]<[a]))=ϱ↔_;rw[yu,yy,e,decide_eq_true_iff];lia
def chkC(sc:Scope)(a N:δ ρ)(src:δ<|θ π)(scope:Scope):Bool :=
 ω (scope.kind=.function)&&(scope.names.all (λy=>ω (y.2≠.cell)&&(ω (y.2≠.local)||ω (scope.names.lookup y.1=ϑ .local))&&(ω (y.2≠.free)||(ω (sc.names.lookup y.1=ϑ .cell)||ω (sc.names.lookup y.1=ϑ .free)))) &&
  (ω (src.length=N.length)&&(List.range src.length).all λi=>match src[i]?,N[i]? with
   |some (some j),some x=>ω (a[j]?=some x)&&(ω (scope.names.lookup x=ϑ .free)&&(ω (sc.names.lookup x=ϑ .cell)||ω (sc.names.lookup x=ϑ .free)))
   |_,_=>true))
theorem Vo(sc:Scope)(c:δ ρ)(d:X.env.scope=sc)(l:X.N=c)(h:chkC sc c N src scope=ϱ):bj X N src scope:=by unfold chkC at h;simp only[zJ,zP,zZ,Bool.or_eq_true]at h;obtain⟨h1,h2,g,m⟩:=h;refine{h1,λy a=>(h2 y a).1.1,λy a e=>?_,λy a e=>?_,g,λi j x e1 e2=>?_};rcases (h2 y a).1.2 with z|z;exact absurd e z;exact z;rcases (h2 y a).2 with z|z;exact absurd e z;show X.env.scope.names.lookup y.1=ϑ .cell\/X.env.scope.names.lookup y.1=ϑ .free;rw[d];exact z;have hi:i<src.length:=(ze.mp e1).1;have q:=m i<|zW.mpr hi;rw[e1,e2]at q;simp only[zJ,zP,Bool.or_eq_true]at q;refine{by rw[l];exact q.1,q.2.1,?_};unfold Pu;rw[d];exact .inr q.2.2
theorem wg(h0:0<=i)(h1:i<l.length):∃v,gI l i=ϑ v/\l[i.toNat]?=some v:=by
 obtain⟨j,rfl⟩:=Int.eq_ofNat_of_zero_le h0;have a:j<l.length:=by lia
 exact{l[j],cL<|by simp[a],by simp[a]}
theorem bC{c:χ}{A B:η}(h:c=ϱ->A)(h':c=ϰ->B):if c=ϱ then A else B:=by cases c with|true=>exact h rfl|false=>exact h' rfl
theorem nt(h:(!b)=ϱ):b=ϰ:=by cases b<;>simp_all
theorem nf(h:(!b)=ϰ):b=ϱ:=by cases b<;>simp_all
noncomputable def Cq:Kd->χ|.int=>true|.bl=>true|_=>false
noncomputable def wj:Kd->χ|.bl=>true|_=>false
noncomputable def Cr:Kd->χ|.str=>true|_=>false
noncomputable def r_:Kd->χ|.tup=>true|_=>false
noncomputable def Mi:Kd->χ|.lst=>true|_=>false
theorem Mj:we "int"= some Cq:=qb rfl
theorem IP:we "bool"= some wj:=(qa<|by decide).trans<|qb rfl
theorem bM:we "str"= some Cr:=(qa<|by decide).trans<|(qa<|by decide).trans<|qb rfl
theorem aE:we "tuple"= some r_:=(qa<|by decide).trans<|(qa<|by decide).trans<|(qa<|by decide).trans<|qb rfl
theorem len_pos{z:ρ}(h:1<=z.cps.size):∃c r,z.cps.toList=c::r:=by cases e:z.cps.toList with|nil=>have:z.cps.toList.length=0:=(by rw[e];rfl);rw[yh]at this;lia|cons c r=>exact⟨c,r,rfl⟩
theorem at0(e:l=c::r):gI l 0=ϑ c:=by
 have:l[0]?=some c:=by rw[e];rfl
 exact cL (j:=0) this
def isPlain:Δ->χ|.Starred _ _=>false|_=>true
theorem Cs(h:isPlain e=ϱ):starEach (e::es) env=(false,eval e env)::starEach es env:=by cases e<;>first|rfl|exact absurd h zd
theorem ZY{t:TA}(ha:PE X e te)(hr:PA X es t)(hp:ψ (isPlain e=ϱ) qQJ):PA X (e::es) (Oe te t):=LW ha hr<|Cs hp
end L2
namespace HT
open PySem PyProof.Rows
open PySem.SeqAt
open PySem.AutoSeq1 (wpAny_loadPart')
open PySem.MeetsSeq PySem.MeetsSeq2 PySem.MeetsSeq3
end HT
namespace L2
open PySem PySem.Spec PyProof.Rows
def HG(c:ξ)(e:ε)(h:Γ):Prop:=∃o vs,h.get? e=ϑ o/\o.data=.fields vs/\vs[2]?=some c
section
variable{M:Model}{A:ϕ}{E:ξ->ζ->η}{s:ζ}{base:Γ}{env:Env}{outer:δ Env}{L e:ε}{a0 c fl:ξ}
theorem Vp(F:A.frames=ϑ (env::outer))(hl:s.heap.FunFrames base<|env::outer)(hf:env.frame=ϑ L) (r:s.heap.get? e=ϑ oe) (H:base.StaysIn s.heap) (G:base.get? e=ϐ) (hd:oe.data=.fields vs) (h0:vs[0]?=some a0) (h2:vs[2]?=some c) (h:∀h',Heap.NotedW base (env::outer) e oe.cls a0 (rawInt L) s.heap h'->HG c e h'->Q () {s with heap:=h'}): wpAny M A (do let x <-frameOf env;let y <-entryPlaceOf L nx;let z <-EntryCells.newEntry head x .none (rawInt L) .none y;setField (.ref e) 1 z) Q E s:=by
 have a:1<vs.size:=by have:=(Array.getElem?_eq_some_iff.mp h2).1;lia
 have l:e∉(env::outer).filterMap (·.frame):=λm=>by obtain⟨_,o,q,n⟩:=hl.mem m;rw[r]at q;cases q;exact n vs hd
 refine zc<|wpAny_frameOf_fun F hl hf λg j=>?_;refine zc<|wpAny_entryPlaceOf λi v=>?_;unfold EntryCells.newEntry newFields;refine zc<|yK ?_<|v.sizeOk5 _ _ _ _ _;have C:g.get? e=ϑ oe:=(j.2.1 e l).trans r;have B:base.StaysIn g:=λb o q=>(j.2.1 b λm=>by rw[(hl.mem m).1]at q;cases q).trans<|H b o q;have w:((([head,.ref L,.none,rawInt L,.none]++(if i.isEmpty then List.replicate 6 Value.none else i)).toArray:Array ξ))[3]?=some (rawInt L):=by rcases v with rfl|⟨_,_,_,_,_,_,_,rfl⟩<;>simp
 generalize J:(([head,.ref L,.none,rawInt L,.none]++(if i.isEmpty then List.replicate 6 Value.none else i)).toArray:Array ξ)=ts at w;have p:=za (h:=g) {cls:=.type "traceback",dict:=none,data:=.fields ts} C;refine yZ p hd a<|h _ ?_ ?_;have ne:g.objs.size≠e:=yw<|zu C;have d:=yG hd (·.setIfInBounds 1 (Value.ref g.objs.size));have e3:=yD (Obj.mapFields (·.setIfInBounds 1 (Value.ref g.objs.size))) p<|Obj.isFreed_of_fields d;have I:=(yA (g.push {cls:=.type "traceback",dict:=none,data:=.fields ts}) (Obj.mapFields (·.setIfInBounds 1 (Value.ref g.objs.size)))<|Ne.symm ne).trans<|zp g rfl;have keep:∀b o,b≠e->g.get? b=ϑ o->((g.push {cls:=.type "traceback",dict:=none,data:=.fields ts}).update e (Obj.mapFields (·.setIfInBounds 1 (Value.ref g.objs.size)))).get? b=ϑ o:=λb o n q=>by rw[yA _ _<|Ne.symm n];exact za _ q
 have t:∀b o,s.heap.get? b=ϑ o->(∀vs,o.data≠.fields vs)->b≠e:=λb o q n z=>by rw[z,r]at q;cases q;exact n vs hd
 refine{λb o q=>keep b o (λz=>by rw[z,G]at q;cases q)<|B b o q,hl.of_keeps λb o q n=>?_,?_,λb o q n=>?_};obtain⟨sl,z⟩:=j.2.2 b o q;exact{_,keep b _ (t b o q n) z,rfl};exact{_,_,g.objs.size,_,_,e3,{Obj.cls_mapFields _ _,by rw[Array.getElem?_setIfInBounds_ne<|by decide];exact h0},d,by simp[a],B.fresh,ne,I,rfl,w};obtain⟨sl,z⟩:=j.2.2 b o q;exact{sl,keep b _ (t b o q n) z};have d:=yG hd (·.setIfInBounds 1 (Value.ref g.objs.size));exact{_,_,yD (Obj.mapFields (·.setIfInBounds 1 (Value.ref g.objs.size))) p<|Obj.isFreed_of_fields d,d,by rw[Array.getElem?_setIfInBounds_ne<|by decide];exact h2}
theorem setC(y:base.StaysIn s.heap)(B:base.get? e=ϐ)(hl:s.heap.FunFrames base l)(x:s.heap.TracedAtW base e cls a0 fl)(v:HG c e s.heap) (h:∀h',Heap.FlyingW base l e cls a0 h'->s.heap.UpToSlots h'->HG c e h'->Q () {s with heap:=h'}):wpAny M A (setFlight (.ref e) none) Q E s:=by
 obtain⟨o,vs,T,G,ts,q,hk,hd,i,r,ne,g,dT,F⟩:=x;obtain⟨o',H,t,j,C⟩:=v;rw[q]at t;cases t;rw[hd]at j;cases j;have a:3<ts.size:=(Array.getElem?_eq_some_iff.mp F).1;have d:∀b,b≠T->(s.heap.update T (Obj.mapFields (·.setIfInBounds 3 ((none:θ ε).elim Value.none λf=>rawInt f)))).get? b=s.heap.get? b:=λb n=>yA _ _<|Ne.symm n;have p:∀b o,s.heap.get? b=ϑ o->(∀vs,o.data≠.fields vs)->b≠T:=λb o z n w=>by rw[w,g]at z;cases z;exact n ts dT
 have m:=(d e<|Ne.symm ne).trans q;unfold setFlight;refine zc<|yo q hd i ?_;rw[qb<|show(Value.ref T != Value.none)=ϱ by simp];refine yZ g dT a<|h _ {λb o z=>(d b λw=>by rw[w,r]at z;cases z).trans<|y b o z,B,hl.of_keeps λb o z n=>{o,(d b<|p b o z n).trans z,rfl},?_} (λb o z n=>{o.slots,(d b<|p b o z n).trans z}) ⟨o,vs,m,hd,C⟩;exact{o,vs,T,_,_,m,hk,hd,i,r,ne,yD _ g<|Obj.isFreed_of_fields<|yG dT _,yG dT _,by simp[a]}
theorem Vq(C:A.frames=ϑ (env::outer))(hf:env.frame=ϑ L)(t:base.StaysIn s.heap)(g:base.get? e=ϐ)(hl:s.heap.FunFrames base<|env::outer)(i:s.heap.TracedAtW base e cls a0 fl)(j:HG c e s.heap) (h:∀h',Heap.HeldW base (env::outer) e cls a0 L h'->s.heap.UpToSlots h'->HG c e h'->Q () {s with heap:=h'}):wpAny M A (noteFrame (.ref e) env) Q E s:=by
 by_cases v:fl=rawInt L;subst v;exact wpAny_noteFrame_againW hf i<|h s.heap ⟨t,g,hl,i⟩ (.refl _) j;obtain⟨o,vs,T,O,ts,q,⟨hk,h0⟩,hd,B,G,ne,d,dT,r⟩:=i;obtain⟨o',N,p,l,F⟩:=j;rw[q]at p;cases p;rw[hd]at l;cases l;subst hk;have a:∀b,b≠T->(s.heap.update T (Obj.mapFields (·.setIfInBounds 3 Value.none))).get? b=s.heap.get? b:=λb n=>yA _ _<|Ne.symm n;have m:∀b o,s.heap.get? b=ϑ o->(∀vs,o.data≠.fields vs)->b≠T:=λb o z n w=>by rw[w,d]at z;cases z;exact n ts dT
 unfold noteFrame;simp only[hf];refine zc<|yo q hd B ?_;rw[qb<|show(Value.ref T != Value.none)=ϱ by simp];refine zc<|yo d dT r ?_;rw[qa<|show ¬((fl==rawInt L)=ϱ) by simpa using v];refine zc<|yZ d dT (Array.getElem?_eq_some_iff.mp r).1 ?_;refine Vp C (hl.of_keeps λb o z n=>{o,(a b<|m b o z n).trans z,rfl}) hf ((a e<|Ne.symm ne).trans q) (λb o z=>(a b λw=>by rw[w,G]at z;cases z).trans<|t b o z) g hd h0 F λh' x y=>?_;obtain⟨K,J,I,H⟩:=x;exact h h' ⟨K,g,J,I⟩ (λb o z n=>H b o ((a b<|m b o z n).trans z) n) y
theorem QM(i:A.frames=ϑ (env::outer))(hf:env.frame=ϑ L)(j:base.StaysIn s.heap)(a:base.get? e=ϐ)(hl:s.heap.FunFrames base<|env::outer) (d:s.heap.get? e=ϑ oe) (hd:oe.data=.fields vs) (h0:vs[0]?=some a0) (h1:vs[1]?=some .none) (h2:vs[2]?=some c) (h:∀h',Heap.HeldW base (env::outer) e oe.cls a0 L h'->s.heap.UpToSlots h'->HG c e h'->Q () {s with heap:=h'}):wpAny M A (noteFrame (.ref e) env) Q E s:=by unfold noteFrame;simp only[hf];refine zc<|yo d hd h1 ?_;rw[qa<|by decide];refine Vp i hl hf d j a hd h0 h2 λh' x y=>?_;obtain⟨m,l,g,n⟩:=x;exact h h' ⟨m,a,l,g⟩ n y
theorem QN(m:A.frames=ϑ (env::outer))(hf:env.frame=ϑ L)(n:base.StaysIn s.heap)(q:base.get? e=ϐ)(hl:s.heap.FunFrames base<|env::outer)(l:s.heap.TracedAtW base e cls a0 fl)(a:HG c e s.heap) (h:∀h',Heap.FlyingW base outer e cls a0 h'->s.heap.UpToSlots h'->HG c e h'->Q () {s with heap:=h'}):wpAny M A (leaving env<|.ref e) Q E s:=by unfold leaving;refine zc<|Vq m hf n q hl l a λh' x u y=>?_;obtain⟨p,o,i,v⟩:=x;refine setC p o i v y λh2 z d y2=>?_;obtain⟨r,g,⟨_,_,j⟩,t⟩:=z;exact h h2 ⟨r,g,j,t⟩ (u.trans d) y2
theorem Mm(j:A.frames=ϑ (env::outer))(hf:env.frame=ϑ L)(l:base.StaysIn s.heap)(o:base.get? e=ϐ)(hl:s.heap.FunFrames base<|env::outer) (p:s.heap.get? e=ϑ oe) (hd:oe.data=.fields vs) (h0:vs[0]?=some a0) (h1:vs[1]?=some .none) (h2:vs[2]?=some c) (h:∀h',Heap.FlyingW base outer e oe.cls a0 h'->s.heap.UpToSlots h'->HG c e h'->Q () {s with heap:=h'}):wpAny M A (leaving env<|.ref e) Q E s:=by unfold leaving;refine zc<|QM j hf l o hl p hd h0 h1 h2 λh' x u y=>?_;obtain⟨n,m,g,t⟩:=x;refine setC n m g t y λh2 z a y2=>?_;obtain⟨q,d,⟨_,_,i⟩,r⟩:=z;exact h h2 ⟨q,d,i,r⟩ (u.trans a) y2
end
theorem bf.get(x:bf P w H h a o):∃u,h.get? a=ϑ u:=by cases o with|lst xs=>(obtain⟨_,_,_,_,e⟩:=x;exact{_,e})|tup xs=>(obtain⟨_,_,_,c,e,_⟩:=x;exact{_,e})|dK kvs=>(obtain⟨_,_,_,_,o,_,_,e,_⟩:=x;exact{_,e})|dT kvs=>exact False.elim x|set S n=>(obtain⟨o,_,_,_,e,_⟩:=x;exact{_,e})|ins C dx fs=>(obtain⟨_,_,_,e,_⟩:=x;exact{_,e})|own y=>(obtain⟨_,e⟩:=x;exact{_,e})|xd fs=>(obtain⟨_,⟨_,_,_,e,_⟩,_⟩:=x;exact{_,e})|X2 lo hi=>(obtain⟨_,_,_,e⟩:=x;exact{_,e})|lA c u=>(obtain⟨e,_⟩:=x;exact{_,e})|qN ps=>exact{_,show h.get? a=ϑ _ from x}|met f y=>exact{_,show h.get? a=ϑ _ from x}|ext φ=>obtain⟨_,e,_⟩:=x;exact e
structure sj(P:Ψ)(w:Ω)(mg:ρ->θ ξ)(outer:δ Env)(H H':Hp)(h0:Γ)(a:ε)(cls a0:ξ)(B h:Γ):η where
 fl:Heap.FlyingW B outer a cls a0 h
 aG:kQ P w H' B
 keep:∀b o,h0.get? b=ϑ o->H b=ϐ->b∉lN outer->B.get? b=ϑ o
 there:∀b o,h0.get? b=ϑ o->b∉lN outer->∃o',B.get? b=ϑ o'
 slot:∀b o,h0.get? b=ϑ o->b∈lN outer->∃sl,h.get? b=ϑ {o with slots:=sl}
 free:∀b o,h0.get? b=ϑ o->H b=ϐ->H' b=ϐ
 gH:∀b xs,H b=ϑ (.tup xs)->H' b=ϑ (.tup xs)
 gf:∀b o u,H b=ϑ (.lA o u)->H' b=ϑ (.lA o u)
 gk:∀b ps,H b=ϑ (.qN ps)->∃more,H' b=ϑ (.qN<|ps++more)
 cx:HG .none a h\/mg "NoMark"= some cls
section
variable{P:Ψ}{w:Ω}{mg:ρ->θ ξ}{outer:δ Env}{H H':Hp}{h0:Γ}{a:ε}{cls a0:ξ}{B h h2:Γ}
theorem sj.un(F:sj P w mg outer H H' h0 a cls a0 B h):Un (lN outer) [] H H' h0 h where
 keep:=λb o e n hf _=>F.fl.1 b o<|F.keep b o e n hf
 slot:=λb o e _ hf _=>F.slot b o e hf
 free:=λb o e n _=>F.free b o e n
 there:=λb o e _=>by
  by_cases hf:b∈lN outer
  ·obtain⟨sl,q⟩:=F.slot b o e hf;exact{_,q}
  ·obtain⟨o',q⟩:=F.there b o e hf;exact{o',F.fl.1 b o' q}
 gH:=F.gH
 gf:=F.gf
 gk:=F.gk
theorem sj.Z1(F:sj P w mg outer H H' h0 a cls a0 B h):kQ P w H' h:=F.aG.kept F.fl.1
theorem sj.hn(F:sj P w mg outer H H' h0 a cls a0 B h):H' a=ϐ:=by cases q:H' a with|none=>rfl|some o=>obtain⟨u,e⟩:=(F.aG a o q).get;rw[F.fl.2.1]at e;cases e
theorem sj.loose(F:sj P w mg outer H H' h0 a cls a0 B h):sj P w (λ_=>some cls) outer H H' h0 a cls a0 B h:={F.fl,F.aG,F.keep,F.there,F.slot,F.free,F.gH,F.gf,F.gk,.inr rfl}
theorem sj.on(F:sj P w mg outer H H' h0 a cls a0 B h)(f2:Heap.FlyingW B outer a cls a0 h2)(u2:h.UpToSlots h2)(c2:HG .none a h2\/mg "NoMark"= some cls):sj P w mg outer H H' h0 a cls a0 B h2 where
 cx:=c2
 fl:=f2
 aG:=F.aG
 keep:=F.keep
 there:=F.there
 slot:=λb o e hf=>by
  obtain⟨sl,q⟩:=F.slot b o e hf
  obtain⟨_,o1,q1,hd⟩:=F.fl.2.2.1.mem hf
  obtain⟨HD,q2⟩:=u2 b o1 q1 hd
  rw[q]at q1;cases q1
  exact⟨HD,q2⟩
 free:=F.free
 gH:=F.gH
 gf:=F.gf
 gk:=F.gk
end
def f_(P:Ψ)(w:Ω)(mg:ρ->θ ξ):B_:=λouter H s E e s'=>∃a cls a0 B H',e=.ref a/\s'.os=s.os/\AllBare s'.gens/\sj P w mg outer H H' s.heap a cls a0 B s'.heap/\E cls none H'
structure df(X:Cx)(E:XK):η where
 ex:X.ex=[]
 st:X.stack=X.env::X.outer
 fr:X.env.frame=ϑ X.env.locals
 xe:∀e s',wpAny (model X.prog X.w) X.A (leaving X.env e) (λ_ Ca=>f_ X.prog X.w X.mg X.outer X.vY X.dI E e Ca) (λe' Ca=>f_ X.prog X.w X.mg X.outer X.vY X.dI E e' Ca) s'->X.xe e s'
theorem vd{P:Ψ}{w:Ω}{K:Φ}{mg:ρ->θ ξ}{base:Γ}{N:δ ρ}{qual:ρ}{scope:Scope}{f:ε}{cd:ξ}{A:ϕ}{outer:δ Env}{s:ζ}{H:Hp}{E:XK} : df (kT (f_ P w mg) P w K mg base N qual scope f cd A outer s H E) E:={rfl,rfl,rfl,λ_ _ h=>h}
section
variable{X:Cx}{pins:δ (ε×Obj)}{σ:St}{H H':Hp}{s:ζ}{E E':XK}
theorem df.mem(L:df X E):b∈lN X.stack↔b=X.env.locals\/b∈X.fs:=by unfold Cx.fs lN;rw[L.st,List.filterMap_cons,L.fr];exact zj
theorem df.FO(L:df X E)(I:Inv X pins σ H s)(e:X.dI.heap.get? b=ϑ o)(h:b∉X.fs):b∉lN X.stack:=λz=>by rcases L.mem.mp z with z|z;have:=zu e;have h2:=I.ok.above;rw[z]at this;exact absurd (zt this h2)<|yI _;exact h z
theorem df.fly(L:df X E)(I:Inv X pins σ H s)(F:sj X.prog X.w X.mg X.stack H H' s.heap a cls a0 B h)(f2:Heap.FlyingW B X.outer a cls a0 h2)(u2:h.UpToSlots h2)(c2:HG .none a h2\/X.mg "NoMark"= some cls):
  sj X.prog X.w X.mg X.outer X.vY H' X.dI.heap a cls a0 B h2 where
 cx:=c2
 fl:=f2
 aG:=F.aG
 keep:=λb o e n hf=>F.keep b o (I.base.keep b o e n hf<|by rw[L.ex];simp) (I.base.free b o e n<|by rw[L.ex];simp)<|L.FO I e hf
 there:=λb o e hf=>by
  obtain⟨o',q⟩:=I.base.there b o e<|by rw[L.ex];simp
  exact F.there b o' q<|L.FO I e hf
 slot:=λb o e hf=>by
  obtain⟨sl,q⟩:=I.base.slot b o e (I.ok.HV b hf) hf<|by rw[L.ex];simp
  obtain⟨sl1,q1⟩:=F.slot b _ q<|L.mem.mpr<|.inr hf
  obtain⟨_,o2,q2,hd⟩:=F.fl.2.2.1.mem<|L.mem.mpr<|.inr hf
  obtain⟨HD,q3⟩:=u2 b o2 q2 hd
  rw[q1]at q2;cases q2
  exact⟨HD,q3⟩
 free:=λb o e n=>by
  obtain⟨o',q⟩:=I.base.there b o e<|by rw[L.ex];simp
  exact F.free b o' q<|I.base.free b o e n<|by rw[L.ex];simp
 gH:=λb xs e=>F.gH b xs<|I.base.gH b xs e
 gf:=λb o u e=>F.gf b o u<|I.base.gf b o u e
 gk:=λb ps e=>by
  obtain⟨m1,q1⟩:=I.base.gk b ps e
  obtain⟨m2,q2⟩:=F.gk b _ q1
  exact{m1++m2,by rw[q2,Array.append_assoc]}
theorem Vs(L:df X E)(m:∀c d H',E' c d H'->E c d H'):Passes (f_ X.prog X.w X.mg) X E':=λpins σ H s e s' I h=>by
 obtain⟨a,cls,a0,B,H',rfl,os,bare,F,q⟩:=h;refine L.xe _ _ ?_;have l:X.A.frames=ϑ (X.env::X.outer):=by rw[I.ok.frames,L.st]
 have fl:Heap.FlyingW B (X.env::X.outer) a cls a0 s'.heap:=by rw[<-L.st];exact F.fl
 rcases F.cx with i|i;obtain⟨r,g,n,o⟩:=fl;exact QN l L.fr r g n o.at i λh2 g j p=>{a,cls,a0,B,H',rfl,os.trans I.os,bare,L.fly I F g j<|.inl p,m _ _ _ q};exact wpAny_leaves_onW l L.fr fl λh2 g j=>{a,cls,a0,B,H',rfl,os.trans I.os,bare,L.fly I F g j<|.inr i,m _ _ _ q}
theorem QO(I:Inv X pins σ H s):kQ X.prog X.w H (hideAll s.heap<|lN X.stack):=λa o e=>(I.aG a o e).oa (λb u c q=>hideAll_get _ q λz=>by have n:=I.qO b z;rcases c with rfl|c;rw[e]at n;cases n;rw[c]at n;cases n) (λ_ q=>q) λ_ _ q=>q
theorem Ct(L:df X E)(I:Inv X pins σ H s)(hk:∀b o,s.heap.get? b=ϑ o->h'.get? b=ϑ o)(hn:s.heap.get? a=ϐ)(i:h'.get? a=ϑ oe)(hd:oe.data=.fields vs) (h0:vs[0]?=some a0) (h1:vs[1]?=some .none) (h2:vs[2]?=some c) (d:c=.none\/X.mg "NoMark"= some oe.cls) (v:E oe.cls none H):X.xe (.ref a) {s with heap:=h'}:=by
 refine L.xe _ _ ?_;have l:X.A.frames=ϑ (X.env::X.outer):=by rw[I.ok.frames,L.st]
 have j:∀env∈X.stack,∀b,env.frame=ϑ b->b∈lN X.stack:=λenv i b h=>List.mem_filterMap.mpr ⟨env,i,h⟩;have p:s.heap.FunFrames (hideAll s.heap<|lN X.stack) (X.env::X.outer):=by rw[<-L.st];exact PySem.W.funFrames_hide I.stack j
 have h:(hideAll s.heap<|lN X.stack).get? a=ϐ:=by cases z:(hideAll s.heap<|lN X.stack).get? a with|none=>rfl|some o=>have:=of_hideAll _ z;rw[hn]at this;cases this
 refine Mm (base:=hideAll s.heap<|lN X.stack) l L.fr (λb o q=>hk b o<|of_hideAll _ q) h (p.of_keeps λb o q _=>{o,hk b o q,rfl}) i hd h0 h1 h2 λh2 r y m=>?_;refine{a,oe.cls,a0,_,H,rfl,I.os,I.bare,{r,QO I,λb o e n hf=>?_,λb o e hf=>?_,λb o e hf=>?_,λb o e n=>I.base.free b o e n<|by rw[L.ex];simp,I.base.gH,I.base.gf,I.base.gk,?_},v};exact hideAll_get _ (I.base.keep b o e n hf<|by rw[L.ex];simp)<|L.FO I e hf;obtain⟨o',q⟩:=I.base.there b o e (by rw[L.ex];simp);exact{o',hideAll_get _ q<|L.FO I e hf};obtain⟨sl,q⟩:=I.base.slot b o e (I.ok.HV b hf) hf (by rw[L.ex];simp);obtain⟨_,w,g,hd⟩:=I.kR.mem hf;obtain⟨t,x⟩:=y b w (hk _ _ g) hd;rw[q]at g;cases g;exact⟨t,x⟩;rcases d with rfl|d;exact .inl m;exact .inr d
theorem pO(L:df X E)(I:Inv X pins σ H s)(hx:Heap.MadeExcOf s.heap h' a cls args)(c:E cls none H):X.xe (.ref a) {s with heap:=h'}:=by obtain⟨t,d,_,_⟩:=hx.there;exact Ct L I (λb o q=>hx.keeps b o q) hx.new d rfl rfl rfl rfl (.inl rfl) c
end
abbrev Cu:δ Value:=[.type "ValueError",.type "Exception",.type "BaseException",.type "object"]
structure XC(K:Φ)(C:ε):η where
 q:excIn K C Cu "ValueError.__new__"= true
def Mn(h:Γ)(C:ε)(bm:δ ξ):Prop:=∃N nm q bs hdct sn sub ab col dd k0 k1 k2 k3 k5 mN,h.get? C=ϑ (excClassObj nm q C N bs bm hdct sn sub ab col dd k0 k1 k2 k3 k5 "ValueError.__new__")/\h.Ns N mN/\mN "__init__"= none/\OwnTail h Cu bm
set_option tactic.hygienic true in
theorem XC.at{K:Φ}{C:ε}{h:Γ}(x:XC K C)(X:K.In h):∃bm,Mn h C bm:=by have q:=x.q;unfold excIn at q;split at q;rename_i dd cd sl ho;split at q;rename_i C' bm' k0 k1 k2 k3 n k5 hm hs;simp only[zJ,beq_iff_eq,yu]at q;obtain⟨⟨⟨⟨⟨g,p⟩,d⟩,j⟩,aG⟩,c⟩:=q;subst g;subst p;obtain⟨l,bs,e,ns,i,hd,o,sub,m,a,del⟩:=cd;dsimp only at hm d aG c;subst hm;subst d;obtain⟨sl⟩:=sl;dsimp only at hs;subst hs;exact{bm',ns,l,i,bs,hd,o,sub,m,a,dd,k0,k1,k2,k3,k5,_,X _ _ ho,.of_isNs<|PySem.W.isNs_of_in X aG,PySem.W.nsMap_none_of_in X aG c,PySem.W.tail_of_in X j};cases q;cases q
theorem Mn.base(x:Mn h C bm):bm.contains (.type "BaseException")=ϱ:=by obtain⟨_,_,_,_,_,_,_,_,_,_,_,_,_,_,_,_,_,_,_,T⟩:=x;exact T.hasType<|by decide
section
variable{C D:ε}{bmD:δ ξ}{E:XK}
theorem Ar{M:Model}{A:ϕ}{E:ξ->ζ->η}{h:Γ}{g:Array GenState}{d:Drawn}{tk:π}{os:OsState}{a:ε}{j:Obj}{b:χ}{Q:χ->ζ->η}(L:Looks M h (isSubtype (.ref C)<|.ref D) b)(i:Mn h D bmD) (G:h.get? a=ϑ j) (o:j.cls=.ref C) (t:Q b ⟨h,g,d,tk,os⟩):wpAny M A (excMatches (.ref a)<|.ref D) Q E ⟨h,g,d,tk,os⟩:=by
 have w:=i.base;obtain⟨I,s,J,z,B,q,p,v,F,H,m,l,x,y,n,r,e,_,_,_⟩:=i;have c:(Value.ref D::bmD).contains (.type "BaseException")=ϱ:=by rw[List.contains_cons,w,Bool.or_true]
 have f:=tc_notTuple;unfold excMatches;repeat (first|(with_reducible refine wpAny_loadPart_at G ?_;rw[o])|with_reducible refine wpAny_loadPart_at e ?_|with_reducible refine L.at ?_|(with_reducible refine wpAny_isSubtype_exc e ?_;rw[c])|wp_step)
 cases b<;>(wp_walk;exact t)
end
def Gr(a:ε)(cls:ξ):HO:=.ext λh=>∃o vs,h.get? a=ϑ o/\o.cls=cls/\o.data=.fields vs
section
variable{P:Ψ}{w:Ω}{mg:ρ->θ ξ}{outer:δ Env}{H H':Hp}{h0:Γ}{a:ε}{cls a0:ξ}{B h:Γ}
theorem sj.fresh(F:sj P w mg outer H H' h0 a cls a0 B h)(e:h0.get? b=ϑ o):b≠a:=by rintro rfl;by_cases hf:b∈lN outer;obtain⟨_,o1,g,hd⟩:=F.fl.2.2.1.mem hf;obtain⟨i,vs,d,_,c,_⟩:=F.fl.first;rw[g]at d;cases d;exact hd vs c;obtain⟨o',q⟩:=F.there b o e hf;rw[F.fl.2.1]at q;cases q
theorem sj.unT(F:sj P w mg outer H H' h0 a cls a0 B h):Un (lN outer) [] H (upd H' a u) h0 h where
 keep:=F.un.keep
 slot:=F.un.slot
 free:=λb o e n x=>by rw[au<|F.fresh e];exact F.un.free b o e n x
 there:=F.un.there
 gH:=λb xs e=>by
  have q:=F.gH b xs e
  rw[au<|az q F.hn];exact q
 gf:=λb o xs e=>by
  have q:=F.gf b o xs e
  rw[au<|az q F.hn];exact q
 gk:=λb ps e=>by
  obtain⟨m,q⟩:=F.gk b ps e
  exact{m,by rw[au<|az q F.hn];exact q}
theorem sj.Vu(F:sj P w mg outer H H' h0 a cls a0 B h):kQ P w (upd H' a<|Gr a cls) h:=λb u e=>by by_cases g:b=a;subst g;rw[aC]at e;cases e;obtain⟨d,vs,i,j,hd,_⟩:=F.fl.first;exact{⟨d,vs,i,j,hd⟩,⟨d,i⟩,by rintro h1 h2 ⟨o,vs,q,r⟩ k;exact{o,vs,k o q,r}};rw[au g]at e;exact(F.Z1 b u e).oa (λ_ _ _ q=>q) (λc q=>by rw[au<|az q F.hn];exact q) λc xs q=>by rw[au<|az q F.hn];exact q
end
def XE(X:Cx)(pins:δ<|ε×Obj)(E:St->XK)(e:ξ)(s':ζ):Prop:=∃av H1 s1,Inv X pins av H1 s1/\f_ X.prog X.w X.mg X.stack H1 s1 (E av) e s'
abbrev TX:=(St->XK)->TS
def Vv(X:Cx)(st:δ Stmt)(t:TX):Prop:=∀(pins:δ (ε×Obj))(s:ζ)(σ:St)(H:Hp)(D:Ends)(E:St->XK),Inv X pins σ H s->t E D σ H->wpAny (model X.prog X.w) X.A (execs st X.env) (SP X pins D) (XE X pins E) s
noncomputable abbrev Cx.lE(X:Cx)(a:ε):Cx:={X with A:=X.A.mark<|some<|.ref a,calm:=false,xe:=λ_ _=>False}
section
variable{X:Cx}{pins:δ (ε×Obj)}{σ:St}{H:Hp}{s:ζ}
theorem Cx.Ok.lE(ok:X.Ok)(a:ε):(X.lE a).Ok:={ok.mod,ok.kind,ok.glob,ok.blt,ok.above,ok.inj,ok.has,ok.Px,λz=>(nomatch (show false=ϱ from z)),ok.frames,ok.Te,ok.X4,ok.bs,ok.FL,ok.BR,ok.FN,ok.kR,ok.HV}
theorem Inv.lE(I:Inv X pins σ H s)(a:ε):Inv (X.lE a) pins σ H s:={I.ok.lE a,I.os,I.bare,I.base,I.loc,I.cell,I.free,I.dS,I.pin,I.aG,I.len}
theorem Inv.wm(I:Inv (X.lE a) pins σ H s)(ok:X.Ok):Inv X pins σ H s:=⟨ok,I.os,I.bare,I.base,I.loc,I.cell,I.free,I.dS,I.pin,I.aG,I.len⟩
end
structure XA(K:Φ)(C:ε):η where
 ga:findIn K (.ref C) "__getattribute__"= some (some<|.builtin "BaseException.__getattribute__")
 gh:findIn K (.ref C) "__getattr__"= some none
 cl:findIn K (.ref C) "__class__"= some (some<|.builtin "object.__class__")
section
variable{X:Cx}
theorem Oo(L:df X E):Passes (f_ X.prog X.w X.mg) X E:=Vs L λ_ _ _ h=>h
end
noncomputable def jG(l:δ ρ):δ Str:=l.foldl (λc x=>if x∈c then c else c++[x]) []
theorem As(l:δ ρ)(x:ρ):jG (l++[x])=if x∈jG l then jG l else jG l++[x]:=by unfold jG;rw[List.foldl_append];rfl
theorem Mp:∀(l:δ ρ),(jG l).length<=l.length:=λl=>by
 have all:∀(r c:δ ρ),(r.foldl (λc x=>if x∈c then c else c++[x]) c).length<=c.length+r.length:=by intro r;induction r with|nil=>intro c;simp|cons x r a=>intro c;rw[yQ];refine zH (a _) ?_;split<;>simp<;>try lia
 simpa [jG]using all l []
section
variable{prog:Ψ}{w:Ω}{A:ϕ}{R:Result->ζ->η}{I:ε}{fp wr:δ ε}{G:Array GenState->Array GenState->η}{n:π}{P:π->ξ->η}{St:π->ζ->η}
theorem IQ(W:WalksS prog w A.in1 I fp wr G n P St)(S:ε)(c:S∉fp)(xs:δ ρ)(hx:xs.length=n)(C:∀i v,P i v->∃x t,xs[i]?=some x/\v=.str x t)(a:n+1<scanBound): ∀(k i:π)(s:ζ),i+k=n->St i s->s.heap.SetOf (strKind prog w) S (λy=>ω<|y∈jG (xs.take i)) (jG<|xs.take i).length->(∀s',Moved (S::wr) G s s'->s'.heap.SetOf (strKind prog w) S (λy=>ω<|y∈jG xs) (jG xs).length->R (.ok<|.ret .none) s')->codeAny (model prog w) A (.builtin "set.update.loop" {[.ref S,.ref I],[]}) R s:=by have L:S∉wr:=λh=>c<|W.sub _ h;have up:∀b∈wr,b∈S::wr:=λb a=>zg _ a;have m:∀{i:π}{s s':ζ},Moved wr G s s'->s.heap.SetOf (strKind prog w) S (λy=>ω<|y∈jG (xs.take i)) (jG<|xs.take i).length->s'.heap.SetOf (strKind prog w) S (λy=>ω<|y∈jG (xs.take i)) (jG<|xs.take i).length:=λhm ⟨o,es,ep,tb,ho,rest⟩=>{o,es,ep,tb,hm.heap S _ L ho,rest};intro k;induction k with|zero=>intro i s hk j d g;have e:i=n:=(by lia);subst e;refine yW F.entry_set_update_loop ?_;rw[Around.under_plainId F.plain_set_update_loop _];show wpAny _ A.in1 (pyNext (.ref I) >>=_) _ _ s;refine zc<|W.done s _ _ j λs' hm=>?_;show wpAny _ A.in1 (ret Value.none) _ _ s';have q:=m hm d;rw[<-hx,yP]at q;exact zB (g s' (hm.mono up) q)|succ k H=>intro i s hk j d g;have lt:i<n:=(by lia);refine yW F.entry_set_update_loop ?_;rw[Around.under_plainId F.plain_set_update_loop _];show wpAny _ A.in1 (pyNext (.ref I) >>=_) _ _ s;refine zc<|W.item i s _ _ lt j λv s' z r hm=>?_;obtain⟨x,t,ex,rfl⟩:=C i v z;have q:=m hm d;show wpAny _ A.in1 (holding [Value.str x t] (setAdd S<|.str x t) >>=_) _ _ s';refine zc<|yS ?_;unfold setAdd;refine yS ?_;refine zc<|(strKind prog w).pyHash (k:=x) (strKind_is _ _ _ _) ?_;have room:(jG<|xs.take i).length+1<scanBound:=(by have:=Mp<|xs.take i;rw[zE]at this;lia);refine wpAny_setAddHashed_of (knd:=strKind prog w) (s:={s' with toks:=s'.toks+1}) (strKind_is _ _ _ _) rfl q room λh' p E=>?_;have tk:xs.take (i+1)=xs.take i++[x]:=(by rw[List.take_succ,ex];rfl);have K:h'.SetOf (strKind prog w) S (λy=>ω<|y∈jG (xs.take<|i+1)) (jG<|xs.take<|i+1).length:=(by refine SetOf_congr E (λy=>?_) ?_;rw[tk,As];by_cases h:x∈jG (xs.take i);rw[qb h];by_cases l:y=x;subst l;simp[h];simp[l];rw[qa h];simp;rw[tk,As];by_cases h:x∈jG (xs.take i);rw[qb h,qb<|by simpa using h];rw[qa h,qa<|by simpa using h];simp);refine zB {plainId_quiet F.plain_set_update_loop _,H (i+1) _ (by lia) (W.frame _ s' _ _ r (yJ _) λb a o e=>?_) K λCa J B=>?_};rw[p.2 b (λh:b=S=>c<|by rw[<-h];exact a)];exact e;refine g Ca (Moved.trans W.gtrans ((hm.mono up).then_heap (yJ _) λb o a e=>?_) J) B;rw[p.2 b (λh:b=S=>a<|by rw[h];exact zq)];exact e
theorem Au(S:A.handled=ϐ)(hl:s.heap.IsList l items)(hx:xs.length=items.size) (hi:∀(i:π)(v:ξ),items[i]?=some v->∃x t,xs[i]?=some x/\v=.str x t) (d:items.size+1<scanBound) (h:∀(h':Γ)(tk:π),h'.SetOf (strKind prog w) s.heap.objs.size (λy=>ω<|y∈jG xs) (jG xs).length->(∀b o,b<s.heap.objs.size->s.heap.get? b=ϑ o->h'.get? b=ϑ o)->Q (.ref s.heap.objs.size) {s with heap:=h',toks:=tk}): wpAny (model prog w) A (call (.type "set") [.ref l]) Q E s:=by
 obtain⟨c,tl,m0⟩:=F.called_set.mro;have m1:=F.called_set.made;have m2:=F.called_set.sub;refine wpAny_call<|codeAny_of_tree ?_;show wpAny _ _ (callAny (.type "set") _) _ _ _;refine zB {Code.quiet_builtin _<|by trivial,yW F.entry_type_call ?_};rw[Around.under_plain (weight_type_call_type "set" [.ref l] []) rfl];have m3:=F.called_set.notType;have m4:=F.called_set.canCreate;have m5:=F.typeCall_set_1<|.ref l;repeat (any_goals (first|assumption|wp_step))
 refine y6 (code_set_new_1 (.ref l) (E:=E) (Q₁:=λn s1=>∃a:χ,n=.ref s.heap.objs.size/\s1={s with heap:=s.heap.push {cls:=.type "set",dict:=none,data:=.set #[] 0 (.fresh 0 0 a)}}) λa=>⟨a,rfl,rfl⟩) λr s1 hr=>?_
 cases r with
 |error e=>exact hr
 |ok fl =>
  cases fl with
  |ret n =>
   obtain⟨a,rfl,rfl⟩:=hr;generalize g:({cls:=.type "set",dict:=none,data:=.set #[] 0 (.fresh 0 0 a)} : Obj)=O;have C:(s.heap.push O).get? s.heap.objs.size=ϑ O:=zp _ (by rw[<-g];rfl);have Z:Shared.TypeIs {s with heap:=s.heap.push O} (.ref s.heap.objs.size) "set":={_,C,by rw[<-g]};have i1:=F.called_set.init.lookup;have i2:=F.called_set.init.bind<|.ref s.heap.objs.size;(repeat (any_goals (first|assumption|wp_step)));refine y6 (codeAny_call_builtin (R:=wants (λr s2=>r=.none/\∃h' tk,s2={s with heap:=h',toks:=tk}/\h'.SetOf (strKind prog w) s.heap.objs.size (λy=>ω<|y∈jG xs) (jG xs).length/\(∀b o,b<s.heap.objs.size->s.heap.get? b=ϑ o->h'.get? b=ϑ o)) E) F.called_set.init.plain F.entry_set_init<|check_set_init_1 Z ?_) λr2 s2 m=>?_
   ·obtain⟨N,B,cl,z,dl⟩:=hl;obtain⟨U,Vx,a0,L⟩:=N;simp only at cl dl;subst cl;subst dl;have Vy:(s.heap.push O).get? l=ϑ {cls:=.type "list",dict:=Vx,data:=.seq items z,slots:=L}:=za _ B;have j1:=F.sub_list_set;have j2:=F.sub_list_frozenset;have j3:(Value.type "list"== Value.type "dict")=ϰ:=(by decide);have il:(s.heap.push O).IsList l items:={_,Vy,rfl,z,rfl};subst g;unfold Builtin.«set.__init__» noKeywords Builtin.Frozenset.updateFrom;generalize j:pyIter=PI;wp_walk;subst j;refine wpAny_pyIter_list il ?_;refine zc<|wpAny_runValue ?_;have p:l<s.heap.objs.size:=zu B;have M:A.in1.in1.in1.handled=ϐ:=(by simp[S]);have ne:l≠(s.heap.push {cls:=.type "set",dict:=none,data:=.set #[] 0 (.fresh 0 0 a)}).objs.size:=(by rw[yg];exact zC<|Nat.lt_succ_of_lt p);have nf:s.heap.objs.size∉[(s.heap.push {cls:=.type "set",dict:=none,data:=.set #[] 0 (.fresh 0 0 a)}).objs.size,l]:=(by rw[yg];simp only[zj,zL,zN,or_false,not_or];exact{zC<|Nat.lt_succ_self _,yw p});refine IQ ((Walks.list M _ l ne items).toS) s.heap.objs.size nf xs hx hi d (items.size-0) 0 _ (by lia) {{_,zp _ rfl,rfl,rfl},(il.push _)} ?hS0 ?hR
    case hS0 =>
     have I:=za {cls:=.type "list_iterator",data:=.fields #[.ref l,.int 0 0]} C
     exact SetOf_congr ((setObjOf_fresh (knd:=strKind prog w) a).setOf I<|by unfold scanBound;lia) (λ_=>rfl) rfl
    case hR =>
     intro s' hm q
     obtain⟨h',Y,G,K,X⟩:=s'
     have J:Y=s.gens:=hm.gens;have P:G=s.drawn:=hm.drawn;have H:X=s.os:=hm.os
     subst J;subst P;subst H
     show wpAny _ _ _ _ _ _;refine zB ?_;show wpAny _ _ (ret Value.none) _ _ _
     refine zB {rfl,h',K,rfl,q,λb o d e=>?_}
     have b2:b≠(s.heap.push {cls:=.type "set",dict:=none,data:=.set #[] 0 (.fresh 0 0 a)}).objs.size:=by rw[yg];exact zC<|Nat.lt_succ_of_lt d
     refine hm.heap b o ?_<|za _<|za _ e
     simp only[zj,zL,zN,or_false,not_or];exact{zC d,b2}
   {cases r2 with|error e=>exact m|ok f2=>cases f2 with|ret r=>(obtain⟨rfl,h',tk,rfl,q,k'⟩:=m;(repeat (any_goals (first|assumption|wp_step)));exact h _ _ q k')|_=>exact m.elim}
  |_=>exact hr.elim
end
noncomputable def QT(P:Ψ)(w:Ω)(a:ε)(xs:δ ρ):HO:=.ext λh=>h.SetOf (strKind P w) a (λy=>ω<|y∈jG xs) (jG xs).length
theorem Mr(q:h.SetOf (strKind P w) a (λy=>ω<|y∈jG xs) (jG xs).length):bf P w H h a (QT P w a xs):=by obtain⟨o,es,ep,t,ho,rest⟩:=id q;exact{q,⟨o,ho⟩,by rintro h1 h2 ⟨o,es,ep,t,ho,rest⟩ k;exact{o,es,ep,t,k _ ho,rest}}
theorem Av:∀{xs:δ ρ}{a:δ ξ},Vals (xs.map V.str) a->∀(i:π)(v:ξ),a[i]?=some v->∃x t,xs[i]?=some x/\v=.str x t|[],_,.nil,i,v,e=>by simp at e|x::xs,_,.cons r rs,0,v,e=>(by obtain⟨t,q⟩:=r;simp at e;exact{x,t,rfl,by rw[<-e];exact q})|x::xs,_,.cons r rs,i+1,v,e=>by obtain⟨y,t,e1,e2⟩:=Av rs i v (by simpa using e);exact{y,t,by simpa using e1,e2}
section
variable{X:Cx}
theorem Gs{P:Ψ}{w:Ω}{K:Φ}(d:X.prog=P)(hw:X.w=w)(m:X.K=K)(c:X.calm=ϱ): eU X (.type "set") (λvs H Q=>∃p xs,vs=[.ref p]/\iD K H p (xs.map V.str)/\xs.length<4000/\∀l,H l=ϐ->Q (.ref l) (upd H l<|QT P w l xs)):=by
 subst d;subst hw;subst m;intro pins s σ H vs us Q I r h;obtain⟨p,xs,rfl,j,hz,q⟩:=h;obtain⟨u,rfl,n⟩:=vals1 r;cases n;obtain⟨t,a,g,_⟩:=I.list j;have hlen:xs.length=t.toArray.size:=by have:=a.length;simpa using this
 refine Au (I.ok.hd c) g.isList hlen (λi v e=>Av a i v<|by simpa using e) (by rw[<-hlen];unfold scanBound;lia) λh' tk qs kp=>?_;refine{.ref s.heap.objs.size,_,I.laid (t':=tk) (λb o e=>kp b o (zu e) e) (zk _)<|Mr qs,rfl,q _<|I.aG.fresh<|zk _}
theorem Gu(d:X.prog=P)(hw:X.w=w):eU X (.builtin "len") (λvs H Q=>∃a xs,vs=[.ref a]/\H a=ϑ (QT P w a xs)/\Q (.int (jG xs).length) H):=by subst d;subst hw;intro pins s σ H vs us Q I r h;obtain⟨a,xs,rfl,ha,q⟩:=h;obtain⟨u,rfl,g⟩:=vals1 r;cases g;obtain⟨⟨o,es,ep,t,ho,c,hd,j,i,e,hf,hn⟩,_⟩:=I.aG a _ ha;refine call_len_set ho c hd hf (by unfold scanBound at e;lia) ?_;exact{.int (jG xs).length,H,I.tok _,{_,by rw[hn]},q}
end
theorem ve(l:δ ρ):(jG l).length=l.length↔l.Nodup:=by
 have all:∀(r c:δ ρ),c.Nodup->((r.foldl (λc x=>if x∈c then c else c++[x]) c).length=c.length+r.length↔(c++r).Nodup):=by intro r;induction r with|nil=>intro c a;simpa using a|cons x r d=>intro c a;rw[yQ];by_cases h:x∈c;{rw[qb h];have le:(r.foldl (λc x=>if x∈c then c else c++[x]) c).length<=c.length+r.length:=(by have all2:∀(r c:δ ρ),(r.foldl (λc x=>if x∈c then c else c++[x]) c).length<=c.length+r.length:=(by intro r;induction r with|nil=>intro c;simp|cons x r d=>intro c;rw[yQ];refine zH (d _) ?_;split<;>simp<;>try lia);exact all2 r c);refine{λe=>by simp at e;lia,λe=>?_};exact absurd rfl<|(List.nodup_append.mp e).2.2 x h x<|by simp};rw[qa h];have g:(c++[x]).Nodup:=mx a h;have:=d (c++[x]) g;simp only[zo,zR,List.length_nil,List.append_assoc,List.singleton_append]at this⊢;rw[<-this];constructor<;>intro e<;>lia
 simpa [jG]using all l [] List.nodup_nil
theorem jf:entryFor table "dict.update.loop"= some Builtin.«dict.update.loop»:=entryFor_of_tree<|by kernel_rfl
theorem dD:plainId "dict.update.loop"= true:=by trivial
theorem uu:typeLookup (.type "tuple") "keys"= pure none:=by rw[typeLookup_type,builtinLookup_eq_fast];kernel_rfl
section
variable{prog:Ψ}{w:Ω}{A:ϕ}{E:ξ->ζ->η}{s:ζ}
theorem uv(hx:s.heap.get? a=ϑ o)(i:o.cls=.type "tuple")(l:o.data=.seq xs k)(hd:o.dict=ϐ)(hA:A.handled=ϐ) (h:∀h' tk,(∀b m,s.heap.get? b=ϑ m->h'.get? b=ϑ m)->Q none {s with heap:=h',toks:=tk}):wpAny (model prog w) A (getAttr? (.ref a) "keys") Q E s:=by
 obtain⟨c,cM,q,sl⟩:=o;simp only at i l hd;subst i l hd;obtain⟨hp,g,d,tk,os⟩:=s;have p:∀j,(⟨hp,g,d,j,os⟩:ζ).TypeIs (.ref a) "tuple":=λ_=>{_,hx,rfl};have y:=sub_AttributeError;have t:=F.slot_tuple_getattribute.lookup;have v:=F.slot_tuple_getattribute.bind<|.ref a;have r:=am_tuple_getattr_none;unfold getAttr? getAttrBy? getAttrBy;repeat (any_goals (first|assumption|exact p _|((with_reducible show wpAny _ _ (call (Value.builtin "tuple.__getattribute__") _ _) _ _ _);refine call_meets F.slot_tuple_getattribute (p _) am_entry_tuple_getattribute (F.args_tuple_getattribute_2 _ _) (meets_getattribute_miss_tuple a xs k sl "keys" _ uu (by trivial)<|by size_fits) {hx,hA,λh' j e n=>?_})|wp_step))
 obtain⟨x,z,B⟩:=n.there;show wpAny _ _ (getattributeRaised _ _ _ _ _ _ _) _ _ _;unfold getattributeRaised;repeat (any_goals (first|assumption|wp_step))
 exact h _ _ n.keeps
end
section
variable{prog:Ψ}{w:Ω}{A:ϕ}{R:Result->ζ->η}{I:ε}{fp wr:δ ε}{G:Array GenState->Array GenState->η}{n:π}{P:π->ξ->η}{St:π->ζ->η}
theorem Gv(W:WalksS prog w A.in1 I fp wr G n P St)(D:ε)(d:D∉fp)(kvs:δ<|Key×ξ)(hx:kvs.length=n)(base:Γ) (J:∀i v,P i v->∃(b:ε) (k:Key) (key val:ξ) (o:Obj) (m:π),kvs[i]?=some (k,val)/\v=.ref b/\(aD prog w).is k key=ϱ/\base.get? b=ϑ o/\o.cls=.type "tuple"/\o.data=.seq #[key,val] m/\b≠D/\b∉wr) (a:n<=Ϙ): ∀(k i:π) (s:ζ) (c:ν) (t:Tok),i+k=n->St i s->s.heap.DictOf (aD prog w) D (merged []<|kvs.take i)->(∀b o,base.get? b=ϑ o->b≠D->b∉wr->s.heap.get? b=ϑ o)->(∀s',Moved (D::wr) G s s'->s'.heap.DictOf (aD prog w) D (merged [] kvs)->R (.ok<|.ret .none) s')->codeAny (model prog w) A (.builtin "dict.update.loop" {[.ref D,.ref I,.int c t,.none],[]}) R s:=by have B:D∉wr:=λh=>d<|W.sub _ h;have up:∀b∈wr,b∈D::wr:=λb a=>zg _ a;intro k;induction k with|zero=>(intro i s c t hk x j l p;have e:i=n:=(by lia);subst e;refine yW jf ?_;rw[Around.under_plainId dD _];show wpAny _ A.in1 (pyNext (.ref I) >>=_) _ _ s;refine zc<|W.done s _ _ x λs' hm=>?_;show wpAny _ A.in1 (Builtin.Dict.addKeywords D [] >>=_) _ _ s';have q:s'.heap.DictOf (aD prog w) D (merged []<|kvs.take i):=(by obtain⟨o,es,ep,ho,rest⟩:=j;exact{o,es,ep,hm.heap D _ B ho,rest});rw[<-hx,yP]at q;exact zc<|zB<|zB<|p s' (hm.mono up) q)|succ k L=>intro i s c t hk x j l p;have lt:i<n:=(by lia);refine yW jf ?_;rw[Around.under_plainId dD _];show wpAny _ A.in1 (pyNext (.ref I) >>=_) _ _ s;refine zc<|W.item i s _ _ lt x λv s' H E hm=>?_;obtain⟨b,ky,key,val,o,m,M,rfl,K,ho,C,hd,O,g⟩:=J i v H;have q:s'.heap.DictOf (aD prog w) D (merged []<|kvs.take i):=(by obtain⟨o,es,ep,ho,rest⟩:=j;exact{o,es,ep,hm.heap D _ B ho,rest});have y:s'.heap.get? b=ϑ o:=hm.heap b o g<|l b o ho O g;have room:(merged []<|kvs.take i).length<=sizeLine:=(by have:=merged_length_le ([]:δ (Key×ξ))<|kvs.take i;rw[zE]at this;simp at this;lia);have tk:merged [] (kvs.take<|i+1)=stored (merged []<|kvs.take i) ky val:=merged_take_succ [] kvs i (ky,val) M;refine zc<|yS<|zc<|wpAny_tryCatch ?_;unfold Builtin.Dict.pairItems;refine zc<|wpAny_typeOf (T:="tuple") ⟨o,y,C⟩ ?_;show wpAny _ A.in1 (seqItems? (.ref b) >>=_) _ _ s';refine zc<|wpAny_seqItems y hd<|zB ?_;show wpAny _ A.in1 (holding [key,val]<|dictSet D key val) _ _ s';refine yS<|wpAny_dictSet_pairs K q (λh' z r=>?_) room;rw[<-tk]at z;refine zB {plainId_quiet dD _,L (i+1) _ _ _ (by lia) (W.frame _ s' _ _ E (yJ _) λb a o e=>?_) z (λb o e h1 h2=>?_) λCa N F=>?_};rw[r.2 b (λh:b=D=>d<|by rw[<-h];exact a)];exact e;rw[r.2 b h1];exact hm.heap b o h2<|l b o e h1 h2;refine p Ca (Moved.trans W.gtrans ((hm.mono up).then_heap (yJ _) λb o a e=>?_) N) F;rw[r.2 b (λh:b=D=>a<|by rw[h];exact zq)];exact e
theorem uw(O:A.handled=ϐ)(r:s.heap.get? l=ϑ ol)(cl:ol.cls=.type "tuple")(dl:ol.data=.seq items m)(R:ol.dict=ϐ)(hx:kvs.length=items.size) (hi:∀(i:π) (v:ξ),items[i]?=some v->∃(b:ε) (k:Key) (key val:ξ) (o:Obj) (m:π),kvs[i]?=some (k,val)/\v=.ref b/\(aD prog w).is k key=ϱ/\s.heap.get? b=ϑ o/\o.cls=.type "tuple"/\o.data=.seq #[key,val] m) (H:items.size<=Ϙ) (h:∀(h':Γ) (tk:π),h'.DictOf (aD prog w) s.heap.objs.size (merged [] kvs)->(∀b o,s.heap.get? b=ϑ o->h'.get? b=ϑ o)->Q (.ref s.heap.objs.size) {s with heap:=h',toks:=tk}): wpAny (model prog w) A (call (.type "dict") [.ref l]) Q E s:=by
 refine callType_codes (Q₁:=λobj t=>obj=.ref s.heap.objs.size/\t={s with heap:=s.heap.push {cls:=.type "dict",data:=.dict #[]}}) F.kt_called_dict (F.kt_typeCall_dict_1 _) F.entry_dict_init (kt_code_dict_new _ ⟨rfl,rfl⟩) ?_;rintro obj t ⟨rfl,rfl⟩;have j:(s.heap.push {cls:=.type "dict",data:=.dict #[]}).DictOf (aD prog w) s.heap.objs.size []:=Heap.DictOf.new s.heap;have p:(s.heap.push {cls:=.type "dict",data:=.dict #[]}).get? l=ϑ ol:=za _ r;refine{j.typeIs,F.args_dict_init_2 _ _,?_};unfold Builtin.«dict.__init__»;refine zc ?_;unfold Builtin.Dict.selfAndRest;refine zc<|wpAny_notOrdered_dict j.typeIs ?_;show wpAny _ _ (pure (s.heap.objs.size,[Value.ref l])) _ _ _;refine zB ?_;show wpAny _ _ (Builtin.Dict.updateFrom "dict.__init__" s.heap.objs.size (.ref l) [] .none) _ _ _;unfold Builtin.Dict.updateFrom;refine zc<|wpAny_typeOf (T:="tuple") ⟨ol,p,cl⟩ ?_;rw[qb<|by decide];have x:A.in1.in1.handled=ϐ:=by simp[O]
 refine zc<|uv p cl dl R x λh1 n d=>?_;have L:h1.get? l=ϑ ol:=d _ _ p;have d1:h1.DictOf (aD prog w) s.heap.objs.size []:=by obtain⟨o,es,ep,ho,rest⟩:=j;exact{o,es,ep,d _ _ ho,rest}
 have g:s.heap.objs.size<h1.objs.size:=by obtain⟨o,es,ep,ho,rest⟩:=d1;exact zu ho
 have y:l<s.heap.objs.size:=zu r;show wpAny _ _ (rule _ >>=_) _ _ _;refine zc<|y7 ?_;have c:h1.IsTuple l items:=⟨ol,L,cl,m,dl⟩;refine zc<|wpAny_pyIter_tuple (s:=⟨h1,s.gens,s.drawn,n,s.os⟩) c ?_;have ne:l≠h1.objs.size:=zC<|Nat.lt_trans y g;have nf:s.heap.objs.size∉[h1.objs.size,l]:=by simp only[zj,zL,zN,or_false,not_or];exact{zC g,yw y}
 refine zB {plainId_quiet dD _,?_};refine Gv ((Walks.tuple x _ l ne items).toS) s.heap.objs.size nf kvs hx s.heap (λi v e=>?_) H (items.size-0) 0 _ _ _ (by lia) {{_,zp _ rfl,rfl,rfl},c.push _} ?hS0 ?hB ?hR;obtain⟨b,k,key,val,o,P,e1,e2,e3,e4,M,I⟩:=hi i v e;have a:=zu e4;exact{b,k,key,val,o,P,e1,e2,e3,e4,M,I,zC a,by simp;exact zC<|Nat.lt_trans a g};case hS0=>exact d1.push _
 case hB=>exact λb o e S U=>za _<|d _ _<|za _ e
 case hR =>
  intro s' hm q
  obtain⟨h',G,B,K,z⟩:=s'
  have J:G=s.gens:=hm.gens;have N:B=s.drawn:=hm.drawn;have C:z=s.os:=hm.os
  subst J;subst N;subst C
  refine{rfl,h h' K q λb o e=>?_}
  have a:=zu e
  refine hm.heap b o ?_<|za _<|d _ _<|za _ e
  simp only[zj,zL,zN,or_false,not_or];exact{zC a,zC<|Nat.lt_trans a g}
end
noncomputable def EA(l:δ<|ρ×V):δ (Key×V):=l.foldl (λc p=>putK c (.inr p.1) p.2) []
def Prs(H:Hp)(ps:δ V)(kvs:δ<|ρ×V):Prop:=kvs.length=ps.length/\∀(i:π)(x:V)(p:ρ×V),ps[i]?=some x->kvs[i]?=some p->∃b,x=.ref b/\H b=ϑ (.tup [.str p.1,p.2])
section
variable{X:Cx}
theorem Cy(S:X.calm=ϱ):eU X (.type "dict") (λvs H Q=>∃p ps kvs,vs=[.ref p]/\H p=ϑ (.tup ps)/\Prs H ps kvs/\∀l,H l=ϐ->Q (.ref l) (upd H l<|.dK<|EA kvs)):=by
 intro pins s σ H vs us Q I r h;obtain⟨p,ps,kvs,rfl,hp,⟨hl,J⟩,q⟩:=h;obtain⟨u,rfl,Y⟩:=vals1 r;cases Y;obtain⟨hz,g,n,ol,U,cl,R,m,dl⟩:=(show bf X.prog X.w H s.heap p (.tup ps) from I.aG p _ hp);have hlen:=n.length;have each:∀(i:π)(x:V)(d:ρ×V),ps[i]?=some x->kvs[i]?=some d->∃(b:ε)(key val:ξ)(o:Obj)(m:π),g[i]?=some (.ref b)/\(aD X.prog X.w).is (.inr d.1) key=ϱ/\RelV d.2 val/\s.heap.get? b=ϑ o/\o.cls=.type "tuple"/\o.data=.seq #[key,val] m:=by intro i x d e1 e2;obtain⟨b,rfl,N⟩:=J i x d e1 e2;obtain⟨u,e3,Z⟩:=n.get e1;cases Z;obtain⟨_,L,G,o,go,co,no,m2,C⟩:=(show bf X.prog X.w H s.heap b (.tup [.str d.1,d.2]) from I.aG b _ N);obtain⟨k',O,rfl,⟨tk,rfl⟩,B⟩:=G.two;exact{b,_,O,o,m2,e3,jz _ _ _ _,B,go,co,by simpa using C}
 have M:∃vals:δ (Key×ξ),KV (kvs.map λp=>((.inr p.1:Key),p.2)) vals/\∀(i:π)(x:V),ps[i]?=some x->∃(b:ε)(k:Key)(key val:ξ)(o:Obj)(m:π),vals[i]?=some (k,val)/\g[i]?=some (.ref b)/\(aD X.prog X.w).is k key=ϱ/\s.heap.get? b=ϑ o/\o.cls=.type "tuple"/\o.data=.seq #[key,val] m:=by clear hp q n dl hz;induction kvs generalizing ps g with|nil=>refine{[],.nil,λi x e=>?_};have:ps=[]:=List.eq_nil_of_length_eq_zero (by simpa using hl.symm);subst this;simp at e|cons d r E=>cases ps with|nil=>simp at hl|cons y ys=>cases g with|nil=>simp at hlen|cons w0 ws=>obtain⟨b,key,val,o,m,e1,e2,e3,e4,F,A⟩:=each 0 y d rfl rfl;obtain⟨vals,k1,P⟩:=E ys (by simpa using hl) (λi x p a b=>J (i+1) x p (by simpa using a)<|by simpa using b) ws (by simpa using hlen) (λi x p a b=>by simpa using each (i+1) x p (by simpa using a) (by simpa using b));refine{(.inr d.1,val)::vals,.cons ⟨rfl,e3⟩ k1,λi x e=>?_};cases i with|zero=>exact{b,.inr d.1,key,val,o,m,rfl,e1,e2,e4,F,A}|succ i=>simpa using P i x (by simpa using e)
 obtain⟨vals,j,z⟩:=M;have K:vals.length=g.length:=by have:=j.length;rw[zb]at this;lia
 refine uw (kvs:=vals) (I.ok.hd S) U cl dl R (by simpa using K) (λi v e=>?_) (by simp;lia) λh' tk qs kp=>?_;have e':g[i]?=some v:=by simpa using e
 have hi:i<g.length:=(ze.mp e').1;obtain⟨b,k,key,val,o,m',e1,e2,e3,e4,F,A⟩:=z i (ps[i]'(by lia))<|zf _;rw[e']at e2;exact{b,k,key,val,o,m',e1,zT e2,e3,e4,F,A};have rel:KV (EA kvs) (merged [] vals):=by have all:∀(l:δ (ρ×V))(t:δ (Key×ξ))(c:δ (Key×V))(cv:δ (Key×ξ)),KV (l.map λp=>((.inr p.1:Key),p.2)) t->KV c cv->KV (l.foldl (λc p=>putK c (.inr p.1) p.2) c) (merged cv t):=(by intro l;induction l with|nil=>(intro t c cv h1 h2;cases h1;exact h2)|cons p r E=>intro t c cv h1 h2;cases h1 with|@cons _ q _ qs r1 G=>obtain⟨k,v⟩:=q;obtain⟨rfl,n⟩:=r1;exact E qs _ _ G<|h2.put _ n);exact all kvs vals [] [] j .nil
 have big:=I.big;refine{.ref s.heap.objs.size,_,I.laid (t':=tk) (λb o e=>kp b o e) (zk _) (o:=.dK<|EA kvs) {?_,?_,_,rel,qs},rfl,q _<|I.aG.fresh<|zk _};have e1:=rel.length;have e2:=merged_length_le ([]:δ (Key×ξ)) vals;simp at e2;lia;simp;exact yw big
def VB(K:Φ):R2:=λx y H Q=>∃a b xs ys,x=.ref a/\y=.ref b/\gW K H a xs/\gW K H b ys/\xs.length+ys.length<=Ϙ/\(xs=[]->Q (.ref b) H)/\(xs≠[]->ys=[]->Q (.ref a) H)/\(xs≠[]->ys≠[]->∀p,H p=ϐ->Q (.ref p) (upd H p<|.tup<|xs++ys))
theorem Ms:gX X (binaryOp .Add) (VB X.K):=by intro pins s σ H x y v u Q I l j h;obtain⟨a,b,xs,ys,rfl,rfl,ha,i,hz,A,p,r⟩:=h;by_cases hx:xs=[];cases l;cases j;obtain⟨o,E,w,_⟩:=I.tuple ha;obtain⟨t,J,p2,_⟩:=I.tuple i;obtain⟨⟨cls,z,data,sl⟩,ho,d,n,hd⟩:=id w;obtain⟨⟨G,q,data2,B⟩,m,g,C,c⟩:=id p2;simp only at d hd g c;subst d hd g c;have e:o=[]:=E.qU.mpr hx;exact concat_meets {_,ho,rfl} {_,m,rfl} noFill_tuple_add seq_tuple_add PySem.F.slot_tuple_add PySem.F.entry_tuple_add (PySem.F.args_tuple_add_2 _ _) (tuple_addW0 a b o.toArray t.toArray n C z q sl B<|by simp[e]) {ho,m,.ref b,H,I,rfl,A hx};exact L5 pins s σ H _ _ v u Q I l j {a,b,xs,ys,rfl,rfl,ha,i,hx,hz,p hx,r hx}
theorem Yj(h:n<=1000):n<=sizeLine:=yR<|kG h
end
abbrev mB(h:Γ)(T:ε)(arr:Array ξ):Prop:=h.get? T=ϑ {cls:=.type "tuple",data:=.seq arr}
theorem wq(c:Heap.ExtBut b h h')(n:a≠b)(x:h.IsTupleIter a l i):h'.IsTupleIter a l i:=x.extBut c n
theorem Oq{h h':Γ}{a l:ε}{i:π}(k:∀o,h.get? a=ϑ o->h'.get? a=ϑ o)(x:h.IsTupleIter a l i):h'.IsTupleIter a l i:=by obtain⟨o,e,r⟩:=x;exact{o,k o e,r}
section
variable{prog:Ψ}{w:Ω}{A:ϕ}{E:ξ->ζ->η}{s:ζ}
theorem Z6(h:n<=3):n<=sizeLine:=Yj<|zH h<|by decide
theorem Gx(a:mB s.heap T arr)(hz:arr.size<=3)(h:∀h',mB h' T (arr.setIfInBounds k x)->Heap.SameBut T s.heap h'->Q () {s with heap:=h'}):wpAny (model prog w) A (updateSeq T (·.setIfInBounds k x)) Q E s:=by refine wpAny_updateSeq a rfl (h _ ?_<|yL ..) (hz:=Z6 hz) (_hz':=by have:=Z6 hz;simp;lia);show Heap.get? _ _=_;rw[yD _ a rfl];simp[Obj.mapSeq]
theorem Cz(a:s.heap.IsTupleIter it l i)(hl:s.heap.IsTuple l items)(hx:items[i]?=some x)(e:∀h',h'.IsTupleIter it l (i+1)->Heap.SameBut it s.heap h'->Q x {s with heap:=h'}): wpAny (model prog w) A (Builtin.SmallTypes.nextOf<|.ref it) Q E s:=by obtain⟨o,ho,c,hd⟩:=id a;obtain⟨h,d,_,j,g⟩:=hl;unfold Builtin.SmallTypes.nextOf;refine zc<|wpAny_callSpecial?_slot (name:=Str.ofString "__next__") a.typeIs F.slot_tuple_iterator_next<|yU F.slot_tuple_iterator_next a.typeIs F.entry_tuple_iterator_next ?_<|F.args_tuple_iterator_next_1 _;show wpAny _ _ (field (.ref it) 0 >>=_) _ _ s;refine zc<|yo ho hd (x:=.ref l) rfl ?_;show wpAny _ _ (if (Value.ref l==Value.none)=ϱ then _ else _) _ _ s;rw[qa<|show ¬((Value.ref l==Value.none)=ϱ) from zd];show wpAny _ _ (field (.ref it) 1 >>=_) _ _ s;refine zc<|yo ho hd (x:=.int i 0) rfl ?_;show wpAny _ _ (seqItems? (.ref l) >>=_) _ _ s;refine zc<|wpAny_seqItems d g ?_;simp only[Int.toNat_natCast,hx];refine zc<|yZ ho hd (by simp)<|zB {x,rfl,zB<|e _ {_,yD _ ho<|Obj.isFreed_of_fields<|yG hd _,(Obj.cls_mapFields ..).trans c,by rw[yG hd];simp[rawInt]}<|yL ..}
theorem su(d:A.handled=ϐ)(c:s.heap.IsTupleIter it l i)(hl:s.heap.IsTuple l items)(hx:items[i]?=none) (h:∀h' e,Heap.ExtBut it s.heap h'->(∃o,h'.get? e=ϑ o/\o.cls=.type "StopIteration")->E (.ref e) {s with heap:=h'}):wpAny (model prog w) A (Builtin.SmallTypes.nextOf<|.ref it) Q E s:=by
 obtain⟨o,ho,n,hd⟩:=id c;obtain⟨p,g,_,q,j⟩:=hl;unfold Builtin.SmallTypes.nextOf;refine zc<|wpAny_callSpecial?_slot (name:=Str.ofString "__next__") c.typeIs F.slot_tuple_iterator_next<|yU F.slot_tuple_iterator_next c.typeIs F.entry_tuple_iterator_next ?_<|F.args_tuple_iterator_next_1 _;show wpAny _ _ (field (.ref it) 0 >>=_) _ _ s;refine zc<|yo ho hd (x:=.ref l) rfl ?_;show wpAny _ _ (if (Value.ref l==Value.none)=ϱ then _ else _) _ _ s;rw[qa<|show ¬((Value.ref l==Value.none)=ϱ) from zd];show wpAny _ _ (field (.ref it) 1 >>=_) _ _ s;refine zc<|yo ho hd (x:=.int i 0) rfl ?_;show wpAny _ _ (seqItems? (.ref l) >>=_) _ _ s;refine zc<|wpAny_seqItems g j ?_;simp only[Int.toNat_natCast,hx];refine zc<|y7<|zc<|yZ ho hd (by simp) ?_;show wpAny _ _ (newExc (.type "StopIteration") [] >>=_) _ _ _;refine zc ?_;simp only[newExc,newTuple];refine zc<|yK ?_ (by size_fits);refine zc (m:=firstArgMember _ _)<|y8 (a:=Value.none) (by first|rfl|(simp only[firstArgMember];rfl)) ?_;refine yK ?_ (by size_fits);simp only[raiseNew];refine zc<|wpAny_handled ?_;first|rw[show A.in1.handled=ϐ from d]|rw[d]
 refine zc<|zB<|wpAny_throw<|h _ _ (((yL ..).extBut.push _).push _) {_,zp _ rfl,rfl}
end
def ZS2(n c a:π)(i:π)(h:Γ):Prop:=IsZip h (n+4) (n+2) (n+3) .none/\mB h (n+2) #[.ref n,.ref<|n+1]/\(∃arr:Array ξ,arr.size=2/\mB h (n+3) arr)/\h.IsTupleIter n c i/\h.IsTupleIter (n+1) a i
section
variable{X:Cx}{pins:δ (ε×Obj)}{σ:St}{H:Hp}{s:ζ}{h':Γ}
theorem Inv.EB(I:Inv X pins σ H s)(wr:δ ε)(hw:∀b∈wr,rM X pins H b)(k:∀b o,b∉wr->s.heap.get? b=ϑ o->h'.get? b=ϑ o):Inv X pins σ H {s with heap:=h',toks:=t'}:=by refine I.step (g':=s.gens) (d':=s.drawn) (ch:=wr) (λb h=>by obtain⟨_,a,_,c,d,e⟩:=hw b h;exact⟨c,a,d,e⟩) (λb o _ _ g e _=>k b o g e) (λb o _ _ g e _=>{o.slots,k b o g e}) (λ_ _ _ _ n=>n) (λb o g e=>{o,k b o g e}) (λ_ _ e=>e) (λ_ _ _ e=>e) (λb ps e=>{#[],by rw[e];simp}) (λm hm=>?_) (λb u e=>?_) I.bare;obtain⟨o,es,ep,ho,r⟩:=hm;exact{o,es,ep,k _ o (λz=>(hw _ z).2.1 rfl) ho,r};refine(I.aG b u e).oa (λc v g q=>k c v (λz=>?_) q) (λ_ q=>q) λ_ _ q=>q;have n:=(hw c z).1;rcases g with rfl|g;rw[n]at e;cases e;rw[n]at g;cases g
theorem Inv.EC(I:Inv X pins σ H s)(wr:δ ε)(hw:∀b∈wr,rM X pins H b)(k:∀b o,b∉wr->s.heap.get? b=ϑ o->h'.get? b=ϑ o)(i:s.heap.get? T=ϐ)(new:bf X.prog X.w (upd H T o) h' T o): Inv X pins σ (upd H T o) {s with heap:=h',toks:=t'}:=by
 have fr:H T=ϐ:=by cases q:H T with|none=>rfl|some u=>obtain⟨z,e⟩:=(I.aG T u q).get;rw[i]at e;cases e
 have ne:∀b u,H b=ϑ u->b≠T:=λb u e z=>by rw[z,fr]at e;cases e
 refine I.step (g':=s.gens) (d':=s.drawn) (ch:=wr) (λb h=>by obtain⟨_,a,_,c,d,e⟩:=hw b h;exact⟨c,a,d,e⟩) (λb o _ _ g e _=>k b o g e) (λb o _ _ g e _=>{o.slots,k b o g e}) (λb j _ e n=>?_) (λb o g e=>{o,k b o g e}) (λb xs e=>by rw[au<|ne b _ e];exact e) (λb j u e=>by rw[au<|ne b _ e];exact e) (λb ps e=>{#[],by rw[au<|ne b _ e,e];simp}) (λm hm=>?_) (λb u e=>?_) I.bare;have:b≠T:=λz=>by rw[z,i]at e;cases e
 rw[au this];exact n;obtain⟨o,es,ep,ho,r⟩:=hm;exact{o,es,ep,k _ o (λz=>(hw _ z).2.1 rfl) ho,r};by_cases h:b=T;subst h;rw[aC]at e;cases e;exact new;rw[au h]at e;refine(I.aG b u e).oa (λc v g q=>k c v (λz=>?_) q) (λc q=>by rw[au<|ne c _ q];exact q) λc xs q=>by rw[au<|ne c _ q];exact q
 have n:=(hw c z).1;rcases g with rfl|g;rw[n]at e;cases e;rw[n]at g;cases g
end
noncomputable abbrev Mt(h:Γ)(l0:ε):Heap:=(h).push {cls:=.type "tuple_iterator",data:=.fields #[.ref l0,.int 0 0]}
noncomputable abbrev Mu(h:Γ)(l0 l1:ε):Heap:=(Mt h l0).push {cls:=.type "tuple_iterator",data:=.fields #[.ref l1,.int 0 0]}
noncomputable abbrev Mv(h:Γ)(l0 l1:ε):Heap:=(Mu h l0 l1).push {cls:=.type "tuple",data:=.seq #[.ref h.objs.size,.ref (Mt h l0).objs.size]}
noncomputable abbrev Mw(h:Γ)(l0 l1:ε):Heap:=(Mv h l0 l1).push {cls:=.type "tuple",data:=.seq #[.none,.none]}
noncomputable abbrev CC(h:Γ)(l0 l1:ε):Heap:=(Mw h l0 l1).push {cls:=.type "zip",data:=.fields #[.none,.bool false,.bool false,.ref (Mu h l0 l1).objs.size,.ref (Mv h l0 l1).objs.size]}
theorem CD(a c:ε)(i e:Array ξ):Meets (Builtin.«zip.__new__» {[.type "zip",.ref a,.ref c],[]}) (λ_ R s=>s.heap.IsTuple a i/\s.heap.IsTuple c e/\R (.ok<|.ret<|.ref (Mw s.heap a c).objs.size) {s with heap:=CC s.heap a c}):=.of_wp λprog w A R s h=>by obtain⟨hp,g,d,tk,os⟩:=s;obtain⟨l,j,h⟩:=h;have o:=sub_zip;have n:Heap.IsTuple (Shared.heap ⟨hp,g,d,tk,os⟩) a i:=l;have m:Heap.IsTuple (Shared.heap {hp.push {cls:=.type "tuple_iterator",data:=.fields #[.ref a,.int 0 0]},g,d,tk,os}) c e:=Heap.IsTuple.push (j) _;wp_walk using wpAny_pyIter_tuple n,wpAny_pyIter_tuple m;exact{_,rfl,h}
theorem CF(p:s.heap.IsTuple l0 CA)(n:s.heap.IsTuple l1 CB) (h:∀h',ZS2 s.heap.objs.size l0 l1 0 h'->(∀c o,s.heap.get? c=ϑ o->h'.get? c=ϑ o)->Q (.ref<|s.heap.objs.size+4) {s with heap:=h'}):wpAny (model prog w) A (call (.type "zip") [.ref l0,.ref l1]) Q E s:=by
 refine callType_new F.called_zip (by decide) (F.typeCall_zip_2 _ _) (F.newCall_zip_2 _ _) (λobj=>F.args_object_init_3 obj _ _) F.entry_zip_new (CD l0 l1 CA CB) {p,n,?_};have d:(Mt s.heap l0).objs.size=s.heap.objs.size+1:=yg ..;have a:(Mu s.heap l0 l1).objs.size=s.heap.objs.size+2:=by rw[yg,d]
 have e:(Mv s.heap l0 l1).objs.size=s.heap.objs.size+3:=by rw[yg,a]
 have i:(Mw s.heap l0 l1).objs.size=s.heap.objs.size+4:=by rw[yg,e]
 have q:(CC s.heap l0 l1).objs.size=s.heap.objs.size+5:=by rw[yg,i]
 have g0:(CC s.heap l0 l1).get? (s.heap).objs.size=ϑ _:=za _<|za _<|za _<|za _<|zp _ rfl;have j:(CC s.heap l0 l1).get? (Mt s.heap l0).objs.size=ϑ _:=za _<|za _<|za _<|zp _ rfl;have l:(CC s.heap l0 l1).get? (Mu s.heap l0 l1).objs.size=ϑ _:=za _<|za _<|zp _ rfl;have m:(CC s.heap l0 l1).get? (Mv s.heap l0 l1).objs.size=ϑ _:=za _<|zp _ rfl;have g:(CC s.heap l0 l1).get? (Mw s.heap l0 l1).objs.size=ϑ _:=zp _ rfl;show _/\_;rw[a,e,i]at g;rw[e]at m;rw[d,a]at l;rw[d]at j;rw[i];exact{{_,g,rfl},h _ {g,l,!⟨m⟩,{_,g0,rfl,rfl},{_,j,rfl,rfl}} λc o x=>za _<|za _<|za _<|za _<|za _ x}
def Mx(K:Φ):V->δ V->Hp->VK->Prop:=λx vs H Q=>∃(a:ε)(xs:δ V)(y z:V)(j:π),x=.ref a/\vs=[y]/\iD K H a xs/\gZ y=ϱ/\xs.all gZ=ϱ/\xs[j]?=some z/\eqV z y=ϱ/\(∀m u,m<j->xs[m]?=some u->eqV u y=ϰ)/\Q (.int j) H
theorem Gy:Tj X "list.index" (Mx X.K):=by
 intro pins s σ H x vs v us Q I J N h;obtain⟨a,xs,y,z,j,rfl,rfl,E,C,A,t,i,B,q⟩:=h;cases J;obtain⟨u,rfl,L⟩:=N.one;obtain⟨g,r,p,hz⟩:=I.list E;obtain⟨⟨cls,M,data,sl⟩,ho,o,n,hd⟩:=p.isList;simp only at o hd;subst o hd;have hl:=r.length;have P:j<xs.length:=(ze.mp t).1;have fl:∀(m:π)(w:V),xs[m]?=some w->gZ w=ϱ:=λm w e=>zZ.mp A w<|zD e;have d:∀(m:π)(hm:m<g.toArray.size)(w:V),xs[m]?=some w->Io y g.toArray[m]=eqV w y:=λm hm w e=>by obtain⟨G,e',O⟩:=r.get e;have:g.toArray[m]=G:=(by have:=ze.mp e';simpa using this.2);rw[this];exact Cc O<|fl m w e
 have R:Ϙ=16777216:=yf;refine call_meets PySem.F.slot_list_index {_,ho,rfl} PySem.F.entry_list_index (PySem.F.args_list_index_2 _ _) (SeqAt.list_indexAt a g.toArray n M sl u (Io y) j (by simp;lia) (by lia) ?_ ?_) {ho,λw hw=>mq L C r A w<|by simpa using hw,{.int j,H,I.tok _,{_,rfl},q}};rw[d j _ z t];exact i;intro m hm l;have c:m<xs.length:=by lia
 rw[d m hm _<|zf c];exact B m _ l<|zf c
def VC:R2:=λx y H Q=>∃z n,x=.str z/\y=.int n/\MulOk z n/\Q (.str<|PySem.Txt.mul z n) H
theorem CG:gX X (binaryOp .Mult) VC:=by intro pins s σ H x y v u Q I d c h;obtain⟨z,n,rfl,rfl,hm,q⟩:=h;obtain⟨t,rfl⟩:=d;obtain⟨e,rfl⟩:=c;exact SB.mul hm λa k=>{.str _,H,I.tok k,{_,rfl},q}
def Lq(w:Ω)(K:Φ)(a:ε)(kvs:δ<|ρ×V):Prop:=(a==sysModules)=ϰ/\∃(o:Obj)(es:Array DictEntry)(ep:π),K.lookup a=ϑ o/\o.ExactDict/\o.data=.dict es ep/\Paired (λ(e:DictEntry)(c:ρ×V)=>e.hash=hashStr w c.1/\(∃t,e.key=.str c.1 t)/\RelV c.2 e.val) es.toList kvs/\(kvs.map Prod.fst).Nodup
theorem sv(z:ρ):∀kvs:δ (ρ×V),gp (kvs.map λp=>((.inr p.1:Key),p.2)) (.inr z)=kvs.lookup z
 |[]=>rfl
 | (x,v)::r=>by
  rw[zA,yk];by_cases e:z=x;subst e;rw[rT rfl];simp;have e1:(z==x)=ϰ:=by simpa using e
  rw[rV λq=>e (yV q).symm,e1];exact sv z r
section
variable{X:Cx}{pins:δ (ε×Obj)}{σ:St}{H:Hp}{s:ζ}{a:ε}{kvs:δ (ρ×V)}
theorem CH(I:Inv X pins σ H s)(d:Lq X.w X.K a kvs):(a==sysModules)=ϰ/\∃vs,KV (kvs.map λp=>((.inr p.1:Key),p.2)) vs/\s.heap.DictOf (aD X.prog X.w) a vs:=by
 obtain⟨ns,o,es,ep,hk,hx,hd,hp,hn⟩:=d;have all:∀(es:δ DictEntry)(kvs:δ (ρ×V)),Paired (λ(e:DictEntry)(c:ρ×V)=>e.hash=hashStr X.w c.1/\(∃t,e.key=.str c.1 t)/\RelV c.2 e.val) es kvs->∃vs:δ (Key×ξ),KV (kvs.map λp=>((.inr p.1:Key),p.2)) vs/\Pairs (aD X.prog X.w) es vs/\vs.map (·.1)=kvs.map (λp=>(.inr p.1:Key))/\∀e∈es,∃k,(aD X.prog X.w).is k e.key=ϱ/\e.hash=(aD X.prog X.w).hash k:=by intro es kvs hp;induction hp with|nil=>exact{[],.nil,.nil,rfl,by simp}|@cons e c Lo n h t r=>obtain⟨vs,l,m,i,j⟩:=r;obtain⟨h1,⟨tk,h2⟩,v⟩:=h;have hi:(aD X.prog X.w).is (.inr c.1) e.key=ϱ:=(by rw[h2];exact jz _ _ _ _);refine{(.inr c.1,e.val)::vs,.cons ⟨rfl,v⟩ l,.cons hi rfl m,by rw[zA,zA,i],λe' g=>?_};rcases zj.mp g with rfl|g;exact{.inr c.1,hi,h1};exact j e' g
 obtain⟨vs,l,m,i,j⟩:=all _ _ hp;refine{ns,vs,l,o,es,ep,I.n5 a o hk,hx,hd,λe g=>j e<|by simpa using g,m,?_};rw[i];have:(kvs.map λp=>(.inr p.1:Key))=(kvs.map Prod.fst).map Sum.inr:=by rw[zy];rfl
 rw[this];exact List.Pairwise.map _ (λx y h q=>h<|yV q) hn
theorem IS{w:Ω}{K:Φ}(hw:X.w=w)(g:X.K=K):gX X (compareOp .In) (λx y H Q=>∃z a kvs,x=.str z/\y=.ref a/\Lq w K a kvs/\Q (.bl (kvs.lookup z).isSome) H):=by subst hw g;intro pins s σ H x y v u Q I i e h;obtain⟨z,a,kvs,rfl,rfl,d,q⟩:=h;cases e;obtain⟨ns,vs,rel,c⟩:=CH I d;refine wpAny_in_of (lC (k:=.inr z) i) ns c.mapOf ?_;rw[<-(rel.val<|.inr z).ou,sv];exact{.bl _,H,I.tok _,rfl,q}
def VD(w:Ω)(K:Φ):V->δ V->Hp->VK->Prop:=λx vs H Q=>∃a z kvs,x=.ref a/\vs=[.str z]/\Lq w K a kvs/\Q ((kvs.lookup z).getD .ay) H
theorem Mz{w:Ω}{K:Φ}(hw:X.w=w)(i:X.K=K):Tj X "dict.get" (VD w K):=by subst hw i;intro pins s σ H x vs v us Q I j g h;obtain⟨a,z,kvs,rfl,rfl,d,q⟩:=h;cases j;obtain⟨u,rfl,e⟩:=g.one;obtain⟨ns,vs,rel,c⟩:=CH I d;refine call_meetsIn yF c.typeIs PySem.F.entry_dict_get (PySem.F.args_dict_get_2 _ _) (meets_dict_get (aD X.prog X.w) a (lC (k:=.inr z) e) ns) {_,c.mapOf,_,H,I.tok _,?_,q};rw[<-sv];exact(rel.val<|.inr z).getD rfl
theorem IT{w:Ω}{K:Φ}{o e:Δ}{apos aM:Pos}{td ty:TE}(hw:X.w=w)(r:X.K=K)(ho:PE X o td)(B:PE X e ty)(m:M1 X o "get" apos e aM):PE X (.Call (.Attribute o "get" apos) [e] [] aM) (λσ H Q=>td σ H λx H1=>∃a kvs,x=.ref a/\Lq w K a kvs/\ty σ H1 λy H2=>∃z,y=.str z/\Q ((kvs.lookup z).getD .ay) H2):=by subst hw r;intro pins s σ H Q I h;refine wpAny_Call_method m.base m.HE m.line PySem.F.plainAttrs_dict yF PySem.F.type_dict_get<|bp (ho pins s σ H _ I h) λu s1 ⟨x,H1,c,t,a,kvs,ex,d,i⟩=>?_;subst ex;obtain rfl:u=Value.ref a:=t;obtain⟨ns,vs,rel,g⟩:=CH c d;obtain⟨v,_,_,h1,h2,_⟩:=id g;refine{g.typeIs,λb q=>by cases q;exact⟨v,h1,h2.2.1⟩,?_};rw[m.trees];refine Calls.callWith_builtin rfl<|Calls.evalArgs_plain<|yO<|bp (B pins s1 σ H1 _ c i) λl s2 ⟨y,H2,j,p,z,A,n⟩=>Calls.spliced_nil ?_;subst A;exact Mz rfl rfl pins s2 σ H2 (.ref a) [.str z] _ [l] Q j rfl (.cons p .nil) ⟨a,z,kvs,rfl,rfl,d,n⟩
end
theorem QZ:bootBuiltins "min"= some (.builtin "min"):=by trivial
def ZS3(n c a l2:π)(i:π)(h:Γ):Prop:=IsZip h (n+5) (n+3) (n+4) .none/\mB h (n+3) #[.ref n,.ref<|n+1,.ref<|n+2]/\(∃arr:Array ξ,arr.size=3/\mB h (n+4) arr)/\h.IsTupleIter n c i/\h.IsTupleIter (n+1) a i/\h.IsTupleIter (n+2) l2 i
noncomputable abbrev MA(h:Γ)(l0:ε):Heap:=(h).push {cls:=.type "tuple_iterator",data:=.fields #[.ref l0,.int 0 0]}
noncomputable abbrev MB(h:Γ)(l0 l1:ε):Heap:=(MA h l0).push {cls:=.type "tuple_iterator",data:=.fields #[.ref l1,.int 0 0]}
noncomputable abbrev MC(h:Γ)(l0 l1 l2:ε):Heap:=(MB h l0 l1).push {cls:=.type "tuple_iterator",data:=.fields #[.ref l2,.int 0 0]}
noncomputable abbrev MD(h:Γ)(l0 l1 l2:ε):Heap:=(MC h l0 l1 l2).push {cls:=.type "tuple",data:=.seq #[.ref h.objs.size,.ref (MA h l0).objs.size,.ref (MB h l0 l1).objs.size]}
noncomputable abbrev ME(h:Γ)(l0 l1 l2:ε):Heap:=(MD h l0 l1 l2).push {cls:=.type "tuple",data:=.seq #[.none,.none,.none]}
noncomputable abbrev Aw(h:Γ)(l0 l1 l2:ε):Heap:=(ME h l0 l1 l2).push {cls:=.type "zip",data:=.fields #[.none,.bool false,.bool false,.ref (MC h l0 l1 l2).objs.size,.ref (MD h l0 l1 l2).objs.size]}
theorem CI(a c l2:ε)(j e i:Array ξ):Meets (Builtin.«zip.__new__» {[.type "zip",.ref a,.ref c,.ref l2],[]}) (λ_ R s=>s.heap.IsTuple a j/\s.heap.IsTuple c e/\s.heap.IsTuple l2 i/\R (.ok<|.ret<|.ref (ME s.heap a c l2).objs.size) {s with heap:=Aw s.heap a c l2}):=.of_wp λprog w A R s h=>by obtain⟨hp,g,d,tk,os⟩:=s;obtain⟨m,l,o,h⟩:=h;have q:=sub_zip;have p:Heap.IsTuple (Shared.heap ⟨hp,g,d,tk,os⟩) a j:=m;have n:Heap.IsTuple (Shared.heap {hp.push {cls:=.type "tuple_iterator",data:=.fields #[.ref a,.int 0 0]},g,d,tk,os}) c e:=Heap.IsTuple.push (l) _;have L2:Heap.IsTuple (Shared.heap {(hp.push {cls:=.type "tuple_iterator",data:=.fields #[.ref a,.int 0 0]}).push {cls:=.type "tuple_iterator",data:=.fields #[.ref c,.int 0 0]},g,d,tk,os}) l2 i:=Heap.IsTuple.push (Heap.IsTuple.push (o) _) _;wp_walk using wpAny_pyIter_tuple p,wpAny_pyIter_tuple n,wpAny_pyIter_tuple L2;exact{_,rfl,h}
theorem CJ(a0 c a:ξ):checkTypeCall "zip" {[a0,c,a],[]}=pure ():=by kernel_rfl
theorem CK(a0 c a:ξ):checkBuiltinCall "zip.__new__" {[.type "zip",a0,c,a],[]}=pure ():=by kernel_rfl
theorem Q0(x a0 c a:ξ):argsOk "object.__init__" {[x,a0,c,a],[]}:=by unfold argsOk;rw[signature?_of (id:="object.__init__") (n:=['_','_','t','i','n','i','_','_']) (o:=['t','c','e','j','b','o']) (by kernel_rfl) F.owner_object];kernel_rfl
theorem CL(r:s.heap.IsTuple l0 CA)(q:s.heap.IsTuple l1 CB)(t:s.heap.IsTuple l2 Tz) (h:∀h',ZS3 s.heap.objs.size l0 l1 l2 0 h'->(∀c o,s.heap.get? c=ϑ o->h'.get? c=ϑ o)->Q (.ref<|s.heap.objs.size+5) {s with heap:=h'}):wpAny (model prog w) A (call (.type "zip") [.ref l0,.ref l1,.ref l2]) Q E s:=by
 refine callType_new F.called_zip (by decide) (CJ _ _ _) (CK _ _ _) (λobj=>Q0 obj _ _ _) F.entry_zip_new (CI l0 l1 l2 CA CB Tz) {r,q,t,?_};have g:(MA s.heap l0).objs.size=s.heap.objs.size+1:=yg ..;have a:(MB s.heap l0 l1).objs.size=s.heap.objs.size+2:=by rw[yg,g]
 have d:(MC s.heap l0 l1 l2).objs.size=s.heap.objs.size+3:=by rw[yg,a]
 have i:(MD s.heap l0 l1 l2).objs.size=s.heap.objs.size+4:=by rw[yg,d]
 have j:(ME s.heap l0 l1 l2).objs.size=s.heap.objs.size+5:=by rw[yg,i]
 have v:(Aw s.heap l0 l1 l2).objs.size=s.heap.objs.size+6:=by rw[yg,j]
 have g0:(Aw s.heap l0 l1 l2).get? (s.heap).objs.size=ϑ _:=za _<|za _<|za _<|za _<|za _<|zp _ rfl;have m:(Aw s.heap l0 l1 l2).get? (MA s.heap l0).objs.size=ϑ _:=za _<|za _<|za _<|za _<|zp _ rfl;have n:(Aw s.heap l0 l1 l2).get? (MB s.heap l0 l1).objs.size=ϑ _:=za _<|za _<|za _<|zp _ rfl;have l:(Aw s.heap l0 l1 l2).get? (MC s.heap l0 l1 l2).objs.size=ϑ _:=za _<|za _<|zp _ rfl;have p:(Aw s.heap l0 l1 l2).get? (MD s.heap l0 l1 l2).objs.size=ϑ _:=za _<|zp _ rfl;have e:(Aw s.heap l0 l1 l2).get? (ME s.heap l0 l1 l2).objs.size=ϑ _:=zp _ rfl;show _/\_;rw[d,i,j]at e;rw[i]at p;rw[g,a,d]at l;rw[g]at m;rw[a]at n;rw[j];exact{{_,e,rfl},h _ {e,l,!⟨p⟩,{_,g0,rfl,rfl},{_,m,rfl,rfl},{_,n,rfl,rfl}} λc o x=>za _<|za _<|za _<|za _<|za _<|za _ x}
theorem Vals.three(h:Vals [x,y,z] us):∃u v w,us=[u,v,w]/\RelV x u/\RelV y v/\RelV z w:=by cases h with|cons r h=>cases h with|cons q h=>cases h with|cons p h=>cases h;exact{_,_,_,rfl,r,q,p}
section
variable{X:Cx}
def MF:V->δ V->Hp->VK->Prop:=λx vs H Q=>∃z y,x=.str z/\vs=[.str y]/\Q (.bl<|PySem.Txt.startswith z y) H
theorem ux:Tj X "str.startswith" MF:=by intro pins s σ H x vs v us Q I d c h;obtain⟨z,y,rfl,rfl,q⟩:=h;obtain⟨t,rfl⟩:=d;obtain⟨u,rfl,a⟩:=c.one;obtain⟨e,rfl⟩:=a;exact PySem.SC.startswith {.bl _,H,I,rfl,q}
def Z8:V->θ ν->θ ν->Hp->VK->Prop:=λx lo hi H Q=>∃z,x=.str z/\z.length<=Ϙ/\Q (.str<|PySem.Txt.slice z lo hi) H
theorem Q1:UZ X Z8:=by intro pins s σ H x v r w lo hi sl Q I n p m g h;obtain⟨z,rfl,hz,q⟩:=h;obtain⟨t,rfl⟩:=n;obtain⟨o,e1,e2,e3⟩:=p;refine{"str",_,F.slot_str_getitem.lookup,typeIs_str _ _ _,?_};have c:∀k,∀a:Tok,EP X pins σ Q (.str (PySem.Txt.slice z lo hi) a) {s with toks:=k}:=λk a=>{.str _,H,I.tok k,{_,rfl},q};cases m with|none=>(cases g with|none=>exact wpAny_getItem_str_slice (l:=none) (u:=none) (st:=none) ⟨o,e1,e2,e3⟩ rfl (post_val_or_str {zH (Txt.slice_le z _ _) hz,λa k=>c k a})|int j d=>exact wpAny_getItem_str_slice (l:=none) (u:=some (j,d)) (st:=none) ⟨o,e1,e2,e3⟩ rfl<|post_val_or_str {zH (Txt.slice_le z _ _) hz,λa k=>c k a})|int i e=>cases g with|none=>exact wpAny_getItem_str_slice (l:=some (i,e)) (u:=none) (st:=none) ⟨o,e1,e2,e3⟩ rfl (post_val_or_str {zH (Txt.slice_le z _ _) hz,λa k=>c k a})|int j d=>exact wpAny_getItem_str_slice (l:=some (i,e)) (u:=some (j,d)) (st:=none) ⟨o,e1,e2,e3⟩ rfl<|post_val_or_str {zH (Txt.slice_le z _ _) hz,λa k=>c k a}
end
end L2
namespace L2
open PySem PySem.Spec PyProof.Rows PySem.SeqAt
end L2
namespace L2
open PySem PySem.Spec PyProof.Rows
theorem wu(l:ε)(items:Array ξ)(n:π)(b:ε)(a:Array ξ)(j:π)(sl:Array<|θ ξ)(v:¬(!items.isEmpty&&Builtin.List.listTooLong (items.size+a.size))=ϱ)(c:items.size<=Ϙ)(i:items.size+a.size<=Ϙ+1): Meets (Builtin.«list.extend» {[.ref l,.ref b],[]}) (λ_ R s=>s.heap.get? l=ϑ {cls:=.type "list",dict:=none,data:=.seq items n,slots:=#[]}/\s.heap.get? b=ϑ {cls:=.type "tuple",dict:=none,data:=.seq a j,slots:=sl}/\R (.ok<|.ret Value.none) {s with heap:=s.heap.update l<|Obj.mapSeq λx=>x++a,toks:=s.toks}):=.of_wp λprog w A R s h=>by
 obtain⟨hp,g,d,tk,os⟩:=s;obtain⟨hl,m,h⟩:=h;have t:=AutoSeq1.idx_int;have p:=AutoSeq1.sub_tuple_tuple;have q:=AutoSeq1.sub_list_list;have r:=AutoSeq1.sub_tuple_list;have o:=AutoSeq1.sub_list_tuple;have e:(items++a).size<=Ϙ+1:=by rw[Array.size_append];exact i
 wp_walk using (wpAny_updateSeq hl rfl (hz:=c) (_hz':=e)),AutoSeq1.wpAny_loadPart' hl,AutoSeq1.wpAny_loadPart' m;exact{_,rfl,h}
section
variable{X:Cx}{K:Φ}
def IU:V->δ V->Hp->VK->Prop:=λx vs H Q=>∃l b xs zs,x=.ref l/\vs=[.ref b]/\H l=ϑ (.lst xs)/\H b=ϑ (.tup zs)/\xs.length+zs.length<=Ϙ/\Q .ay (upd H l<|.lst<|xs++zs)
theorem CM:Yd X "list.extend" IU:=by
 intro pins s σ H x vs v us Q I t B h;obtain⟨l,b,xs,zs,rfl,rfl,j,p,hz,q⟩:=h;cases t;obtain⟨u,rfl,A⟩:=B.one;cases A;obtain⟨z,a,n,r,hl,e⟩:=I.Cj j;obtain⟨L,c,m,⟨K,M,y,C⟩,e2,i,o,E,g⟩:=(show bf X.prog X.w H s.heap b (.tup zs) from I.aG b _ p);dsimp only at i o g;subst i o g;have J:=m.length;have d:a.toArray.size+c.toArray.size<=sizeLine:=by rw[zr,zr];lia
 have G:¬(!a.toArray.isEmpty&&Builtin.List.listTooLong (a.toArray.size+c.toArray.size))=ϱ:=by rw[Ir d,Bool.and_false];exact zd
 refine call_meets F.slot_list_extend {_,e,rfl} F.entry_list_extend (F.args_list_extend_2 _ _) (wu l a.toArray n b c.toArray E C G (by rw[zr];lia)<|by lia) {e,e2,?_};refine{.ay,_,I.L6 (its':=a++c) j e (by simp) (r.append m) ?_,rfl,q};rw[zo];lia
theorem Ax(ns:δ ν):∀n,preSum (λi=>(ns[i]?).getD 0) n=(ns.take n).sum|0=>rfl|n+1=>by show preSum _ n+_=_;rw[Ax ns n,List.take_add_one,List.sum_append];cases h:ns[n]?<;>simp[h]
theorem Q2:bootBuiltins "sum"= some (.builtin "sum"):=PyProof.Rows.Boot.«sum»
theorem Gz(w:X.K=K)(m:X.calm=ϱ):eU X (.builtin "sum") (λxs H Q=>∃(a:ε)(ns:δ ν),xs=[.ref a]/\iD K H a (ns.map V.int)/\Q (.int ns.sum) H):=by
 subst w;intro pins s σ H xs us Q I r h;obtain⟨a,ns,rfl,t,q⟩:=h;obtain⟨u,rfl,B⟩:=vals1 r;cases B;obtain⟨g,l,p,hz⟩:=I.list t;have hl:=l.length;rw[zb]at hl;refine call_sum_walkG<|wpAny_pyIter_list p.isList ?_;refine{s.heap.objs.size,_,_,_,_,_,λi=>(ns[i]?).getD 0,rfl,Walks.list (A:=X.A.in1) (I.ok.hd m) s.heap.objs.size a (zC p.lt) g.toArray,{{_,zp _ rfl,rfl,rfl},p.isList.at λo e=>za _ e},?_,?_,λh' tk z hk=>?_};intro b j;simp only[zj,zN,or_false]at j;rcases j with rfl|rfl;simp[Heap.push];exact zt p.lt (by simp[Heap.push]);intro i v y;have d:g[i]?=some v:=by simpa using y
 cases hn:ns[i]? with|none=>(have h1:=(List.getElem?_eq_none_iff.mp hn);rw[List.getElem?_eq_none<|by lia]at d;cases d)|some k=>obtain⟨E,c,C⟩:=l.get (i:=i) (x:=.int k) (by rw[zm,hn];rfl);rw[d]at c;cases c;obtain⟨n,rfl⟩:=C;exact{n,by simp[hn]}
 have e:g.toArray.size=ns.length:=by rw[zr,<-hl]
 rw[e,Ax,yP];exact{.int ns.sum,H,I.kept (h':=h') (t':=tk) λb o e=>hk b o (by simpa using zC (zu e))<|za _ e,{_,rfl},q}
theorem ED(v:ξ):∀(n:π)(a:δ ξ),List.foldl (λx1 x2=>x1++x2) a.toArray (List.replicate n #[v])=(a++List.replicate n v).toArray|0,a=>by simp|n+1,a=>by rw[List.replicate_succ,yQ,show a.toArray++#[v]=(a++[v]).toArray by simp,ED v n,List.append_assoc];rfl
theorem Ay(r:RelV x v):∀n,Vals (List.replicate n x) (List.replicate n v)|0=>.nil|n+1=>.cons r<|Ay r n
end
def EnS(n l:π)(i:π)(h:Γ):Prop:=(∃old,IsEnum h (n+1) n (i:ν) old)/\h.IsListIter n l i
noncomputable def VF(K:Φ)(l:ε):It:={λi H=>∃(xs:δ V)(x:V),iD K H l xs/\xs[i]?=some x,λi H x H'=>∃T,H T=ϐ/\x=.ref T/\∀(xs:δ V)(y:V),iD K H l xs->xs[i]?=some y->H'=upd H T (.tup [.int (i:π),y]),λi H=>∃xs,iD K H l xs/\xs.length<=i}
theorem GA{P:Ψ}{w:Ω}{K:Φ}{es:δ Δ}{kk:π}{tp:Pos}{n l:π}(b0:l<n):Turn P w K (.Tuple es kk tp) (VF K l) [n,(n+1)] (n+1) (EnS n l) where
 mem:=by simp
 obj:=λi h st b hb=>by
  obtain⟨⟨old,he⟩,j0⟩:=st
  have c:b=n\/b=(n+1):=by simpa using hb
  rcases c with rfl|rfl
  ·obtain⟨o,e,c,d⟩:=j0;exact{o,e,λv z=>by rw[d]at z;cases z}
  ·exact{_,he,λv z=>by cases z}
 keep:=λi h h' st k=>by
  obtain⟨⟨old,he⟩,j0⟩:=st
  exact{{old,k _ (by simp) _ he},j0.at λo e=>k _ (by simp) o e}
 item:=by
  intro X hP hw hK hc i pins s σ H E I hf st hg
  subst hP hw hK
  obtain⟨xs,x,q0,e0⟩:=hg
  obtain⟨ax,rv,p,_⟩:=I.list q0
  obtain⟨u,hu,ru⟩:=rv.get e0
  obtain⟨⟨old,he⟩,j0⟩:=st
  refine wpAny_pyNext_enum_item he j0 p.isList (x:=u) (by simpa using hu) (by show @Ne π _ _;lia) λh1 z1 m0 T1 hs1 kp=>?_
  refine{_,rfl,?_}
  refine wpAny_letOwnedTupleGo_enum (s:={s with heap:=h1,toks:=s.toks+1}) z1 λh2 z2 r2=>?_
  have TC:∀c o,c∉([(n+1),n]:δ ε)->s.heap.get? c=ϑ o->h2.get? c=ϑ o:=λc o hc e=>by
   simp only[zj,zN,or_false,not_or]at hc
   obtain⟨dz,d0⟩:=hc
   exact r2.extBut _ _ dz<|kp c o dz d0 e
  have lz:(n+1)<s.heap.objs.size:=zu he
  have T2:h2.get? s.heap.objs.size=ϑ {cls:=.type "tuple",data:=.seq #[.int i s.toks,u]}:=r2.extBut _ _ (yw lz) T1
  have EF:∀b∈([(n+1),n]:δ ε),rM X pins H b:=λb hb=>hf b<|by simp only[zj,zN,or_false]at hb⊢;rcases hb with h|h<;>simp[h]
  have I2:Inv X pins σ (upd H s.heap.objs.size<|.tup [.int (i:π),x]) {s with heap:=h2,toks:=s.toks+1}:=I.EC (t':=s.toks+1) [(n+1),n] EF TC (Heap.get?_none_of_le<|zk _) {Yj<|show 2<=1000 by decide,[.int i s.toks,u],.cons {_,rfl}<|.cons ru<|.nil,{_,T2,rfl,rfl,_,rfl}}
  refine{.ref s.heap.objs.size,_,I2,rfl,{_,I.aG.fresh<|zk _,rfl,λys y g0 f0=>?_},?_,λb hb=>?_}
  ·have:=I.rJ g0 q0;subst this;have:=e0.symm.trans f0;cases this
   rfl
  ·exact{{_,z2},m0.at λo e=>r2.extBut _ _ (by show @Ne π _ _;lia) e}
  ·have l2:b<s.heap.objs.size:=by
    simp only[zj,zN,or_false]at hb
    have lz:@LT.lt π _ (n+1) s.heap.objs.size:=lz
    rcases hb with rfl|rfl<;>(show @LT.lt π _ _ s.heap.objs.size;lia)
   rw[au<|zC l2];exact(hf b hb).1
 done:=by
  intro X hP hw hK hc i pins s σ H E I hf st hg
  subst hP hw hK
  obtain⟨xs,q0,hx⟩:=hg
  obtain⟨ax,rv,p,_⟩:=I.list q0
  obtain⟨⟨old,he⟩,j0⟩:=st
  have hl:=rv.length
  exact wpAny_pyNext_enum_end (I.ok.hd hc) he j0 p.isList (by simp;lia) λh1 kp=>{rfl,I.EB (t':=s.toks) [n] (λb hb=>hf b<|by simp only[zL]at hb;simp[hb]) λc o hc e=>kp c o (λz=>hc<|by simp[z]) e}
 self:=λA' i s Q E st h=>wpAny_pyIter_enum st.1.choose_spec h
def VG(K:Φ)(ta:TA):TI:=λσ H R=>ta σ H λvs H1=>∃l,vs=[.ref l]/\(∃xs,iD K H1 l xs)/\R (VF K l) H1
theorem GB:bootBuiltins "enumerate"= some (.type "enumerate"):=by trivial
theorem MG{X:Cx}{a:Δ}{ta:TA}{p pos tp:Pos}{es:δ Δ}{kk:π}(hg:Gl X "enumerate")(hm:X.mg "enumerate"= none)(ha:PA X [a] ta)(n:ψ (starEach [a] X.env=[(false,eval a X.env)]) qQJ): PI X (.Tuple es kk tp) (.Call (.Name "enumerate" p) [a] [] pos) (VG X.K ta):=by
 intro pins s σ H R I h;refine Call_<|fE I hg hm GB<|PyProof.Rows.callWith_type1 (bp (ha pos pins s σ H _ I h) λus s1 ⟨vs,H1,c,t,j⟩=>?_) (by rw[n];rfl) rfl;obtain⟨l,e,⟨xs,o⟩,q⟩:=j;subst e;obtain⟨u,rfl,r⟩:=t.one;cases r;obtain⟨w,v,g,_⟩:=c.list o;refine call_enumerate_list g.isList λh' zs m hz kp=>?_;refine wpAny_pyIter_enum (s:={s1 with heap:=h'}) zs {_,_,_,_,H1,rfl,c.kept (t':=s1.toks) kp,GA g.lt,{{_,zs},m},λb i=>?_,q};have d:s1.heap.objs.size<=b:=by simp only[zj,zN,or_false]at i;rcases i with rfl|rfl<;>(show @LE.le π _ _ _;lia)
 exact c.oj d<|c.aG.fresh d
set_option genInjectivity true in
set_option genSizeOfSpec true in
inductive D where
 |ay|bl (b:χ)|int (i:ν)|str (x:ρ)|tup (ds:δ D)|jH (ds:δ D)|kt (ds:δ D)|ref (a:ε)|ty (n:String)
def Z_(K:Φ)(a:ε)(xs:δ V):Prop:=∃(o:Obj)(ax:Array ξ)(n:π),K.lookup a=ϑ o/\o.cls=.type "tuple"/\o.data=.seq ax n/\ax.size<=Ϙ/\Vals xs ax.toList
def Ot(K:Φ)(H:Hp)(a:ε)(xs:δ V):Prop:=(∃o,H a=ϑ (.lA o<|.lst xs))\/∃(o:Obj)(ax:Array ξ)(n:π),K.lookup a=ϑ o/\o.cls=.type "list"/\o.dict=ϐ/\o.data=.seq ax n/\ax.size<=Ϙ/\Vals xs ax.toList
theorem Ot.sq{K:Φ}{H:Hp}{a:ε}{xs:δ V}(h:Ot K H a xs):iD K H a xs:=by rcases h with h|h;exact .inl<|.inr h;exact .inr h
structure Kp(K:Φ)(H H':Hp):η where
 t:∀a xs,H a=ϑ (.tup xs)->H' a=ϑ (.tup xs)
 r:∀a xs,Ot K H a xs->Ot K H' a xs
 f:∀a o u,H a=ϑ (.lA o u)->H' a=ϑ (.lA o u)
theorem Kp.refl{K:Φ}(H:Hp):Kp K H H:={λ_ _ h=>h,λ_ _ h=>h,λ_ _ _ h=>h}
theorem Kp.trans{K:Φ}{H H1 H2:Hp}(a:Kp K H H1)(b:Kp K H1 H2):Kp K H H2:={λp xs h=>b.t p xs<|a.t p xs h,λp xs h=>b.r p xs<|a.r p xs h,λp o u h=>b.f p o u<|a.f p o u h}
theorem Kp.of{K:Φ}{H H':Hp}(h:∀b o,H b=ϑ o->H' b=ϑ o\/(∀xs,o≠.tup xs)/\∀u v,o≠.lA u v):Kp K H H' where
 t:=λa xs q=>(h _ _ q).resolve_right λz=>z.1 _ rfl
 r:=λa xs q=>by
  rcases q with⟨o,q⟩|q
  ·exact .inl {o,(h _ _ q).resolve_right λz=>z.2 _ _ rfl}
  ·exact .inr q
 f:=λa o u q=>(h _ _ q).resolve_right λz=>z.2 _ _ rfl
theorem Kp.new{K:Φ}{H:Hp}{a:ε}{o:HO}(h:H a=ϐ):Kp K H (upd H a o):=.of λb u e=>.inl<|by rw[au<|az e h];exact e
theorem Kp.put{K:Φ}{H:Hp}{a:ε}{o u:HO}(h:H a=ϑ o)(h1:∀xs,o≠.tup xs)(h2:∀u v,o≠.lA u v):Kp K H (upd H a u):=.of λb v e=>by by_cases q:b=a;subst q;rw[h]at e;cases e;exact .inr ⟨h1,h2⟩;exact .inl<|by rw[au q];exact e
mutual
def Rv(K:Φ)(H:Hp):D->V->η|.ay,v=>v=.ay|.bl b,v=>v=.bl b|.int i,v=>v=.int i|.str z,v=>v=.str z|.tup ds,v=>∃a xs,v=.ref a/\H a=ϑ (.tup xs)/\RvAll K H ds xs|.jH ds,v=>∃a xs,v=.ref a/\Ot K H a xs/\RvAll K H ds xs|.kt ds,v=>∃a xs,v=.ref a/\Z_ K a xs/\RvAll K H ds xs|.ref a,v=>v=.ref a|.ty n,v=>v=.ty n
def RvAll(K:Φ)(H:Hp):δ D->δ V->η|[],xs=>xs=[]|d::ds,xs=>∃y ys,xs=y::ys/\Rv K H d y/\RvAll K H ds ys
end
section
variable{K:Φ}{H H':Hp}
theorem jI:Rv K H .ay .ay:=by simp only[Rv]
theorem b8(b:χ):Rv K H (.bl b) (.bl b):=by simp only[Rv]
theorem aN(i:ν):Rv K H (.int i) (.int i):=by simp only[Rv]
theorem iI(z:ρ):Rv K H (.str z) (.str z):=by simp only[Rv]
theorem jJ(a:ε):Rv K H (.ref a) (.ref a):=by simp only[Rv]
theorem VH(n:String):Rv K H (.ty n) (.ty n):=by simp only[Rv]
theorem Ou(h:Z_ K a xs)(t:RvAll K H ds xs):Rv K H (.kt ds) (.ref a):=by simp only[Rv];exact⟨a,xs,rfl,h,t⟩
theorem iJ(h:H a=ϑ (.tup xs))(t:RvAll K H ds xs):Rv K H (.tup ds) (.ref a):=by simp only[Rv];exact⟨a,xs,rfl,h,t⟩
theorem IV(h:Ot K H a xs)(t:RvAll K H ds xs):Rv K H (.jH ds) (.ref a):=by simp only[Rv];exact⟨a,xs,rfl,h,t⟩
theorem Rv.ay(h:Rv K H .ay v):v=.ay:=by simpa only[Rv]using h
theorem Rv.bl(h:Rv K H (.bl b) v):v=.bl b:=by simpa only[Rv]using h
theorem Rv.int(h:Rv K H (.int i) v):v=.int i:=by simpa only[Rv]using h
theorem Rv.str(h:Rv K H (.str z) v):v=.str z:=by simpa only[Rv]using h
theorem Rv.ref(h:Rv K H (.ref a) v):v=.ref a:=by simpa only[Rv]using h
theorem Rv.ty(h:Rv K H (.ty n) v):v=.ty n:=by simpa only[Rv]using h
theorem Rv.kt(h:Rv K H (.kt ds) v):∃a xs,v=.ref a/\Z_ K a xs/\RvAll K H ds xs:=by simpa only[Rv]using h
theorem Rv.tup(h:Rv K H (.tup ds) v):∃a xs,v=.ref a/\H a=ϑ (.tup xs)/\RvAll K H ds xs:=by simpa only[Rv]using h
theorem Rv.jH(h:Rv K H (.jH ds) v):∃a xs,v=.ref a/\Ot K H a xs/\RvAll K H ds xs:=by simpa only[Rv]using h
theorem bu:RvAll K H [] []:=by simp only[RvAll]
theorem aO(h:Rv K H d x)(t:RvAll K H ds xs):RvAll K H (d::ds) (x::xs):=by simp only[RvAll];exact⟨x,xs,rfl,h,t⟩
theorem RvAll.nil(h:RvAll K H [] xs):xs=[]:=by simpa only[RvAll]using h
theorem RvAll.cons(h:RvAll K H (d::ds) xs):∃y ys,xs=y::ys/\Rv K H d y/\RvAll K H ds ys:=by simpa only[RvAll]using h
mutual
theorem Rv.ts(s:Kp K H H'):∀(d:D){v:V},Rv K H d v->Rv K H' d v|.ay,v,h=>by simpa only[Rv]using h|.bl b,v,h=>by simpa only[Rv]using h|.int i,v,h=>by simpa only[Rv]using h|.str z,v,h=>by simpa only[Rv]using h|.tup ds,v,h=>(by obtain⟨a,xs,rfl,e,t⟩:=h.tup;exact iJ (s.t _ _ e)<|RvAll.ts s ds t)|.jH ds,v,h=>(by obtain⟨a,xs,rfl,e,t⟩:=h.jH;exact IV (s.r _ _ e)<|RvAll.ts s ds t)|.kt ds,v,h=>(by obtain⟨a,xs,rfl,e,t⟩:=h.kt;exact Ou e<|RvAll.ts s ds t)|.ref a,v,h=>by simpa only[Rv]using h|.ty n,v,h=>by simpa only[Rv]using h
theorem RvAll.ts(s:Kp K H H'):∀(ds:δ D){xs:δ V},RvAll K H ds xs->RvAll K H' ds xs|[],xs,h=>by rw[h.nil];exact bu|d::ds,xs,h=>by obtain⟨y,ys,rfl,h1,h2⟩:=h.cons;exact aO (Rv.ts s d h1)<|RvAll.ts s ds h2
end
theorem RvAll.len:∀{ds:δ D}{xs:δ V},RvAll K H ds xs->xs.length=ds.length|[],xs,h=>by rw[h.nil];rfl|d::ds,xs,h=>by obtain⟨y,ys,rfl,_,h2⟩:=h.cons;rw[zR,zR,h2.len]
theorem RvAll.get:∀{ds:δ D}{xs:δ V}{i:π}{d:D},RvAll K H ds xs->ds[i]?=some d->∃v,xs[i]?=some v/\Rv K H d v|[],xs,i,d,h,e=>by simp at e|d0::ds,xs,0,d,h,e=>(by obtain⟨y,ys,rfl,h1,h2⟩:=h.cons;simp at e;subst e;exact⟨y,rfl,h1⟩)|d0::ds,xs,i+1,d,h,e=>by obtain⟨y,ys,rfl,h1,h2⟩:=h.cons;obtain⟨v,e1,e2⟩:=h2.get (i:=i) (by simpa using e);exact{v,by simpa using e1,e2}
theorem RvAll.app:∀{ds es:δ D}{xs ys:δ V},RvAll K H ds xs->RvAll K H es ys->RvAll K H (ds++es) (xs++ys)|[],es,xs,ys,h,k=>by rw[h.nil];exact k|d::ds,es,xs,ys,h,k=>by obtain⟨y,zs,rfl,h1,h2⟩:=h.cons;exact aO h1<|h2.app k
theorem RvAll.take:∀{ds:δ D}{xs:δ V}(n:π),RvAll K H ds xs->RvAll K H (ds.take n) (xs.take n)|[],xs,n,h=>by rw[h.nil];simp only[List.take_nil];exact bu|d::ds,xs,0,h=>by simp only[List.take_zero];exact bu|d::ds,xs,n+1,h=>by obtain⟨y,zs,rfl,h1,h2⟩:=h.cons;exact aO h1<|h2.take n
theorem RvAll.drop:∀{ds:δ D}{xs:δ V}(n:π),RvAll K H ds xs->RvAll K H (ds.drop n) (xs.drop n)|[],xs,n,h=>by rw[h.nil];simp only[List.drop_nil];exact bu|d::ds,xs,0,h=>h|d::ds,xs,n+1,h=>by obtain⟨y,zs,rfl,h1,h2⟩:=h.cons;exact h2.drop n
theorem RvAll.set:∀{ds:δ D}{xs:δ V}{d:D}{v:V}(n:π),RvAll K H ds xs->Rv K H d v->RvAll K H (ds.set n d) (xs.set n v)|[],xs,d,v,n,h,r=>by rw[h.nil];exact bu|d0::ds,xs,d,v,0,h,r=>(by obtain⟨y,zs,rfl,h1,h2⟩:=h.cons;exact aO r h2)|d0::ds,xs,d,v,n+1,h,r=>by obtain⟨y,zs,rfl,h1,h2⟩:=h.cons;exact aO h1<|h2.set n r
theorem RvAll.erase:∀{ds:δ D}{xs:δ V}(n:π),RvAll K H ds xs->RvAll K H (ds.eraseIdx n) (xs.eraseIdx n)|[],xs,n,h=>by rw[h.nil];exact bu|d::ds,xs,0,h=>(by obtain⟨y,zs,rfl,h1,h2⟩:=h.cons;exact h2)|d::ds,xs,n+1,h=>by obtain⟨y,zs,rfl,h1,h2⟩:=h.cons;exact aO h1<|h2.erase n
theorem RvAll.dropLast:∀{ds:δ D}{xs:δ V},RvAll K H ds xs->RvAll K H ds.dropLast xs.dropLast|[],xs,h=>by rw[h.nil];exact bu|[d],xs,h=>(by obtain⟨y,zs,rfl,h1,h2⟩:=h.cons;rw[h2.nil];exact bu)|d::e::ds,xs,h=>by obtain⟨y,zs,rfl,h1,h2⟩:=h.cons;obtain⟨y2,a,rfl,g,c⟩:=id h2.cons;exact aO h1<|RvAll.dropLast h2
theorem RvAll.bools:∀{bs:δ χ}{xs:δ V},RvAll K H (bs.map D.bl) xs->xs=bs.map V.bl|[],xs,h=>h.nil|b::bs,xs,h=>by obtain⟨y,ys,rfl,h1,h2⟩:=h.cons;rw[h1.bl,h2.bools];rfl
theorem RvAll.ints:∀{bs:δ ν}{xs:δ V},RvAll K H (bs.map D.int) xs->xs=bs.map V.int|[],xs,h=>h.nil|b::bs,xs,h=>by obtain⟨y,ys,rfl,h1,h2⟩:=h.cons;rw[h1.int,h2.ints];rfl
theorem RvAll.strs:∀{bs:δ ρ}{xs:δ V},RvAll K H (bs.map D.str) xs->xs=bs.map V.str|[],xs,h=>h.nil|b::bs,xs,h=>by obtain⟨y,ys,rfl,h1,h2⟩:=h.cons;rw[h1.str,h2.strs];rfl
theorem EG:∀(bs:δ ν),RvAll K H (bs.map D.int) (bs.map V.int)|[]=>bu|b::bs=>aO (aN b)<|EG bs
theorem wA:∀(bs:δ ρ),RvAll K H (bs.map D.str) (bs.map V.str)|[]=>bu|b::bs=>aO (iI b)<|wA bs
def b9{κ:Type}(K:Φ)(H:Hp):δ (κ×D)->δ (κ×V)->Prop:=Paired λp q=>p.1=q.1/\Rv K H p.2 q.2
theorem b9.ts(s:Kp K H H'):∀{ks:δ (κ×D)}{vs:δ (κ×V)},b9 K H ks vs->b9 K H' ks vs|_,_,.nil=>.nil|_,_,.cons r t=>.cons {r.1,Rv.ts s _ r.2}<|b9.ts s t
theorem b9.look(h:b9 K H ks vs)(f:ρ):(∀d,ks.lookup f=ϑ d->∃v,vs.lookup f=ϑ v/\Rv K H d v)/\(ks.lookup f=ϐ->vs.lookup f=ϐ):=by induction h with|nil=>(exact{λd e=>(by cases e),λ_=>rfl})|@cons a b l m r t c=>obtain⟨k,d⟩:=a;obtain⟨k',v⟩:=b;obtain⟨rfl,r⟩:=r;simp only[yk];cases q:f==k with|true=>(exact{λg e=>{v,rfl,(by cases e;exact r)},λe=>(by cases e)})|false=>exact c
end
set_option genInjectivity true in
set_option genSizeOfSpec true in
inductive Ce where
 |lst (ds:δ D)|cM (kvs:δ<|Key×D)|ins (c:ε) (fs:δ<|ρ×D)|well|exc (c:ε)|tab (q:ρ)|raw (o:HO)
def EH(H:Hp)(q:ρ)(ps:Array ξ):Prop:=TriplesOk ps.toList/\∀pos cv,codeAmong pos ps.toList=ϑ cv->∃c o vs t,cv=.ref c/\H c=ϑ (.lA o<|.own 0)/\o.data=.fields vs/\vs[1]?=some (.str q t)
abbrev ak:=ε->θ Ce
noncomputable def ak.set(S:ak)(a:ε)(c:Ce):ak:=λb=>if b=a then some c else S b
theorem aa{S:ak}{a:ε}{c:Ce} : S.set a c a=ϑ c:=by unfold ak.set;rw[qb rfl]
theorem ae{S:ak}{a b:ε}{c:Ce}(h:b≠a):S.set a c b=S b:=by unfold ak.set;rw[qa h]
theorem bK{S:ak}{a:ε}{c e:Ce} : (S.set a c).set a e=S.set a e:=by funext b;unfold ak.set;split<;>rfl
theorem gM{S:ak}{a b:ε}{c:Ce}(h:S a=ϑ c)(h':S b=ϐ):a≠b:=by intro e;subst e;rw[h]at h';cases h'
def Rc(K:Φ)(H:Hp)(a:ε):Ce->η|.lst ds=>∃xs,H a=ϑ (.lst xs)/\RvAll K H ds xs|.cM kvs=>∃vs,H a=ϑ (.dK vs)/\b9 K H kvs vs|.ins c fs=>∃dx vs,H a=ϑ (.ins c dx vs)/\b9 K H fs vs|.well=>∃x y z:ν,H a=ϑ (.lst [.int x,.int y,.int z])|.exc c=>H a=ϑ (Gr a<|.ref c)|.tab q=>∃ps,H a=ϑ (.qN ps)/\EH H q ps|.raw o=>H a=ϑ o/\(∀xs,o≠.tup xs)/\∀u v,o≠.lA u v
def Rs(K:Φ)(S:ak)(H:Hp):Prop:=∀a c,S a=ϑ c->Rc K H a c
section
variable{K:Φ}{H H':Hp}{S:ak}{a b:ε}{c:Ce}
theorem Rc.has(h:Rc K H a c):∃o,H a=ϑ o/\(∀xs,o≠.tup xs)/\∀u v,o≠.lA u v:=by cases c with|lst ds=>(obtain⟨xs,e,_⟩:=h;exact{_,e,λ_=>nofun,λ_ _=>nofun})|cM ds=>(obtain⟨xs,e,_⟩:=h;exact{_,e,λ_=>nofun,λ_ _=>nofun})|ins c fs=>(obtain⟨dx,vs,e,_⟩:=h;exact{_,e,λ_=>nofun,λ_ _=>nofun})|well=>(obtain⟨x,y,z,e⟩:=h;exact{_,e,λ_=>nofun,λ_ _=>nofun})|exc c=>exact{_,h,λ_=>nofun,λ_ _=>nofun}|tab q=>(obtain⟨ps,e,_⟩:=h;exact{_,e,λ_=>nofun,λ_ _=>nofun})|raw o=>exact⟨o,h⟩
theorem Rc.keep(h:Rc K H a c)(e:∀o,H a=ϑ o->H' a=ϑ o)(s:Kp K H H'):Rc K H' a c:=by cases c with|lst ds=>(obtain⟨xs,e1,r⟩:=h;exact{xs,e _ e1,RvAll.ts s _ r})|cM ds=>(obtain⟨xs,e1,r⟩:=h;exact{xs,e _ e1,r.ts s})|ins c fs=>(obtain⟨dx,vs,e1,r⟩:=h;exact{dx,vs,e _ e1,r.ts s})|well=>(obtain⟨x,y,z,e1⟩:=h;exact{x,y,z,e _ e1})|exc c=>exact e _ h|tab q=>(obtain⟨ps,e1,r,j⟩:=h;exact{ps,e _ e1,r,λpos cv z=>by obtain⟨c,o,vs,t,i,d,g⟩:=j pos cv z;exact{c,o,vs,t,i,s.f _ _ _ d,g}})|raw o=>exact{e _ h.1,h.2}
theorem Rs.fresh(h:Rs K S H)(e:H a=ϐ):S a=ϐ:=by cases q:S a with|none=>rfl|some c=>obtain⟨o,e1,_⟩:=(h a c q).has;rw[e]at e1;cases e1
theorem Rs.new(h:Rs K S H)(e:H a=ϐ){o:HO}(r:Rc K (upd H a o) a c):Rs K (S.set a c) (upd H a o):=λb x d=>by by_cases q:b=a;subst q;rw[aa]at d;cases d;exact r;rw[ae q]at d;exact(h b x d).keep (λo e1=>by rw[au q];exact e1)<|Kp.new e
theorem Rs.grow(h:Rs K S H)(e:H a=ϐ):Rs K S (upd H a o):=λb x c=>by obtain⟨u,e1,_⟩:=(h b x c).has;have q:b≠a:=az e1 e;exact(h b x c).keep (λo e1=>by rw[au q];exact e1)<|Kp.new e
theorem Rs.iK(h:Rs K S H)(ha:S a=ϑ e):Kp K H (upd H a o):=by obtain⟨u,e1,c,d⟩:=(h a e ha).has;exact Kp.put e1 c d
theorem Rs.put(h:Rs K S H){e:Ce}(ha:S a=ϑ e){o:HO}(r:Rc K (upd H a o) a c):Rs K (S.set a c) (upd H a o):=λb x d=>by by_cases q:b=a;subst q;rw[aa]at d;cases d;exact r;rw[ae q]at d;exact(h b x d).keep (λo e1=>by rw[au q];exact e1)<|h.iK ha
theorem Rs.lst(h:Rs K S H)(e:S a=ϑ (.lst ds)):∃xs,H a=ϑ (.lst xs)/\RvAll K H ds xs:=h a _ e
theorem Rs.cM(h:Rs K S H)(e:S a=ϑ (.cM ds)):∃xs,H a=ϑ (.dK xs)/\b9 K H ds xs:=h a _ e
theorem Rs.ins{c:ε}{fs:δ<|ρ×D}(h:Rs K S H)(e:S a=ϑ (.ins c fs)):∃dx vs,H a=ϑ (.ins c dx vs)/\b9 K H fs vs:=h a _ e
end
abbrev KD:=D->ak->η
abbrev KX:=ε->ak->η
abbrev SD:=δ<|θ D
def iL(K:Φ)(H:Hp):SD->St->Prop:=Paired λ(o:θ D)(u:θ V)=>∀d,o=ϑ d->∃v,u=ϑ v/\Rv K H d v
section
variable{K:Φ}{H H':Hp}
theorem iL.ts(s:Kp K H H'):∀{σ:SD}{τ:St},iL K H σ τ->iL K H' σ τ|_,_,.nil=>.nil|_,_,.cons r t=>.cons (λd e=>by obtain⟨v,e1,a⟩:=r d e;exact{v,e1,Rv.ts s _ a})<|iL.ts s t
theorem iL.get:∀{σ:SD}{τ:St}{i:π}{d:D},iL K H σ τ->σ[i]?=some (some d)->∃v,τ[i]?=some (some v)/\Rv K H d v|_,_,i,d,.nil,e=>by simp at e|_,_,0,d,.cons r t,e=>(by simp at e;obtain⟨v,e1,r1⟩:=r d e;exact{v,by simp[e1],r1})|_,_,i+1,d,.cons r t,e=>by obtain⟨v,e1,r1⟩:=iL.get (i:=i) t (by simpa using e);exact{v,by simpa using e1,r1}
theorem iL.set:∀{σ:SD}{τ:St}(i:π){d:D}{v:V},iL K H σ τ->Rv K H d v->iL K H (σ.set i<|some d) (τ.set i<|some v)|_,_,i,d,v,.nil,r=>.nil|_,_,0,d,v,.cons r t,q=>(.cons (λa e=>by cases e;exact⟨v,rfl,q⟩) t)|_,_,i+1,d,v,.cons r t,q=>.cons r<|iL.set i t q
theorem sy:∀(n:π)(τ:St),τ.length=n->iL K H (List.replicate n none) τ|0,[],_=>.nil|n+1,_::τ,h=>.cons (λd e=>by cases e)<|sy n τ<|by simpa using h
theorem sA:∀{ds:δ D}{vs:δ V},RvAll K H ds vs->iL K H (ds.map some) (vs.map some)|[],vs,h=>by rw[h.nil];exact .nil|d::ds,vs,h=>by obtain⟨y,ys,rfl,h1,h2⟩:=h.cons;exact .cons (λa e=>by cases e;exact⟨y,rfl,h1⟩)<|sA h2
theorem iL.app:∀{σ av:SD}{τ a:St},iL K H σ τ->iL K H av a->iL K H (σ++av) (τ++a)|_,_,_,_,.nil,h=>h|_,_,_,_,.cons r t,h=>.cons r<|iL.app t h
end
structure Rdy(Y:Cx)(E:St->XK)(b:χ):η where
 call:∀p2 τ H s e s',Inv Y p2 τ H s->f_ Y.prog Y.w Y.mg Y.stack H s (E τ) e s'->Y.xe e s'
 own:b=ϱ->∀p2 τ H s h' a cls args,Inv Y p2 τ H s->Heap.MadeExcOf s.heap h' a cls args->E τ cls none H->Y.xe (.ref a) {s with heap:=h'}
 loop:b=ϱ->PassesOwn (model Y.prog Y.w) Y.A Y.env Y.xe
structure Ev(X:Cx)(b:χ) where
 pn:δ (ε×Obj)
 xe:ξ->ζ->η
 E:St->XK
 ok:Rdy {X with pn:=pn,xe:=xe} E b
noncomputable abbrev Ev.cx{X:Cx}{b:χ}(y:Ev X b):Cx:={X with pn:=y.pn,xe:=y.xe}
def Cn(K:Φ)(H:Hp)(R:KD)(Q:VK):Prop:=∀d S v H',R d S->Rv K H' d v->Rs K S H'->Kp K H H'->Q v H'
def GC(K:Φ)(H:Hp)(Z:KX)(e:XK):Prop:=∀C S H',Z C S->Rs K S H'->Kp K H H'->e (.ref C) none H'
theorem Cn.kp{K:Φ}{H H1:Hp}{R:KD}{Q:VK}(h:Cn K H R Q)(k:Kp K H H1):Cn K H1 R Q:=λd S v H' r c s1 a=>h d S v H' r c s1<|k.trans a
theorem GC.kp{K:Φ}{H H1:Hp}{Z:KX}{e:XK}(h:GC K H Z e)(k:Kp K H H1):GC K H1 Z e:=λC S H' r s1 a=>h C S H' r s1<|k.trans a
abbrev TD:=SD->ak->KD->KX->η
def T(K:Φ)(E:St->XK)(t:TD):TE:=λτ H Q=>∃σ S R Z,iL K H σ τ/\Rs K S H/\t σ S R Z/\Cn K H R Q/\GC K H Z (E τ)
structure DE(K:Φ)(X:Cx)(e:Δ)(t:TD):η where
 of:∀{b:χ}(y:Ev X b),PE y.cx e<|T K y.E t
abbrev kW:=SD->ak->(χ->ak->η)->KX->η
def Yk(K:Φ)(H:Hp)(R:χ->ak->η)(Q:χ->Hp->η):Prop:=∀b S H',R b S->Rs K S H'->Kp K H H'->Q b H'
theorem Yk.kp{K:Φ}{H H1:Hp}{R:χ->ak->η}{Q:χ->Hp->η}(h:Yk K H R Q)(k:Kp K H H1):Yk K H1 R Q:=λd S H' r s1 a=>h d S H' r s1<|k.trans a
def Tt(K:Φ)(E:St->XK)(t:kW):TT:=λτ H Q=>∃σ S R Z,iL K H σ τ/\Rs K S H/\t σ S R Z/\Yk K H R Q/\GC K H Z (E τ)
structure DT(K:Φ)(X:Cx)(e:Δ)(t:kW):η where
 of:∀{b:χ}(y:Ev X b),PT y.cx e<|Tt K y.E t
abbrev iE:=SD->ak->(δ D->ak->η)->KX->η
def CnA(K:Φ)(H:Hp)(R:δ D->ak->η)(Q:δ V->Hp->η):Prop:=∀ds S vs H',R ds S->RvAll K H' ds vs->Rs K S H'->Kp K H H'->Q vs H'
def Ta(K:Φ)(E:St->XK)(t:iE):TA:=λτ H Q=>∃σ S R Z,iL K H σ τ/\Rs K S H/\t σ S R Z/\CnA K H R Q/\GC K H Z (E τ)
structure DA(K:Φ)(X:Cx)(es:δ Δ)(t:iE):η where
 of:∀{b:χ}(y:Ev X b),PA y.cx es<|Ta K y.E t
theorem PE.mono{t t':TE}(h:PE X e t)(i:∀τ H Q,t' τ H Q->t τ H Q):PE X e t':=λpins s τ H Q I q=>h pins s τ H Q I<|i τ H Q q
theorem PT.mono{t t':TT}(h:PT X e t)(i:∀τ H Q,t' τ H Q->t τ H Q):PT X e t':=λpins s τ H Q I q=>h pins s τ H Q I<|i τ H Q q
theorem PA.mono{t t':TA}(h:PA X e t)(i:∀τ H Q,t' τ H Q->t τ H Q):PA X e t':=λpos pins s τ H Q I q=>h pos pins s τ H Q I<|i τ H Q q
section
variable{K:Φ}{X:Cx}
inductive VI (i:π) (σ:SD) (S:ak) (R:KD):η where
 |mk (d:D) (h:σ[i]?=some (some d)) (r:R d S)
def VJ(i:π):TD:=λσ S R _=>VI i σ S R
inductive Q3 (x:D) (S:ak) (R:χ->ak->η):η where
 |mk (b:χ) (h:x=.bl b) (r:R b S)
def dC(d:D):TD:=λ_ S R _=>R d S
theorem dv(i:π)(h:ψ (X.N[i]?=some x) qQJ)(c:Pu X.env.scope x:=by first|exact Or.inl rfl|exact Or.inr (Or.inl rfl)|exact Or.inr (Or.inr rfl))(hd:ψ ((x==("__debug__": ρ))=ϰ) qQZ) (g:ψ ((x==("__classdict__": ρ))=ϰ) qQZ):DE K X (.Name x pos) (VJ i):=⟨λy=>(PD (X:=y.cx) h c hd g).mono <| by rintro τ H Q ⟨σ,S,R,Z,m,a,⟨d,e,r⟩,l,_⟩;exact by obtain⟨v,e1,j⟩:=m.get e;exact{v,e1,l d S v H r j a<|Kp.refl _}⟩
theorem DE.const(h:∀Y:Cx,Y.env=X.env->Y.mg=X.mg->PE Y e (tC v))(r:∀H,Rv K H d v):DE K X e (dC d):=⟨λy=>(h y.cx rfl rfl).mono <| by rintro τ H Q ⟨σ,S,R,Z,g,a,q,c,_⟩;exact c d S v H q (r H) a<|Kp.refl _⟩
theorem di:DE K X (.Constant (.int i) j pos) (dC<|.int i):=.const (λ_ _ _=>PF) λ_=>aN i
theorem ds:DE K X (.Constant (.str i) j pos) (dC<|.str i):=.const (λ_ _ _=>PJ) λ_=>iI i
theorem db:DE K X (.Constant (.bool i) j pos) (dC<|.bl i):=.const (λ_ _ _=>N8) λ_=>b8 i
theorem dn:DE K X (.Constant .none j pos) (dC .ay):=.const (λ_ _ _=>PH) λ_=>jI
theorem dg(hm:X.mg x=ϑ u)(r:RelV v u)(a:∀H,Rv K H d v)(hg:ψ (Gl X x) qQJ)(hd:ψ ((x==("__debug__": ρ))=ϰ) qQZ):DE K X (.Name x pos) (dC d):=.const (λY e1 e2=>El (X:=Y) (u:=u) (show Y.env.kindOf x=_ by rw[e1];exact hg) (by rw[e2];exact hm) r hd) a
theorem qy(hm:X.mg x=ϐ)(a:bootBuiltins x=ϑ (.type n))(hg:ψ (Gl X x) qQJ)(hn:ψ (x≠"__name__") qQZ)(hd:ψ ((x==("__debug__": ρ))=ϰ) qQZ):DE K X (.Name x pos) (dC<|.ty n):=.const (λY e1 e2=>LI (X:=Y) (v:=.ty n) (show Y.env.kindOf x=_ by rw[e1];exact hg) (by rw[e2];exact hm) a rfl hn hd) λ_=>VH n
def MH:iE:=λ_ S R _=>R [] S
def Ov(t:TD)(u:iE):iE:=λσ S R Z=>t σ S (λd S1=>u σ S1 (λds a=>R (d::ds) a) Z) Z
theorem an:DA K X [] MH:=⟨λy=>(B9 (X:=y.cx)).mono <| by rintro τ H Q ⟨σ,S,R,Z,d,a,q,c,_⟩;exact c [] S [] H q bu a<|Kp.refl _⟩
theorem ac{t:TD}(h:DE K X e t)(hr:DA K X es u)(hp:ψ (isPlain e=ϱ) qQJ):DA K X (e::es) (Ov t u):=
 ⟨λy=>(ZY (h.of y) (hr.of y) hp).mono <| by rintro τ H Q ⟨σ,S,R,Z,g,j,q,n,c⟩;exact
  ⟨σ,S,_,Z,g,j,q,λd S1 x H1 o r s1 a=>⟨σ,S1,_,Z,g.ts a,s1,o,λds m xs H2 p l s2 i=>n (d::ds) m (x::xs) H2 p (aO (Rv.ts i _ r) l) s2<|a.trans i,c.kp a⟩,c⟩⟩
abbrev uc:=D->D->ak->KD->η
theorem ap{x:ρ}{pos:Pos}(i:π)(hr:DA K X es u)(a:ψ (X.N[i]?=some x) qQJ)(c:Pu X.env.scope x:=by first|exact Or.inl rfl|exact Or.inr (Or.inl rfl)|exact Or.inr (Or.inr rfl))(hd:ψ ((x==("__debug__": ρ))=ϰ) qQZ) (d:ψ ((x==("__classdict__": ρ))=ϰ) qQZ):DA K X (.Name x pos::es) (Ov (VJ i) u):=ac (dv i a c hd d) hr rfl
def Lr(K:Φ)(r:uc):R2:=λx y H Q=>∃d e S R,Rv K H d x/\Rv K H e y/\Rs K S H/\r d e S R/\Cn K H R Q
def oy(K:Φ)(f:ξ->ξ->Sem ξ)(r:uc):Prop:=∀X:Cx,X.K=K->X.A.units+64<cLine->gX X f (Lr K r)
def Q4(r:uc)(ta tb:TD):TD:=λσ S R Z=>ta σ S (λx S1=>tb σ S1 (λy a=>r x y a R) Z) Z
theorem T.op(h:T K E (Q4 r ta tb) τ H Q):Tf (Lr K r) (T K E ta) (T K E tb) τ H Q:=by obtain⟨σ,S,R,Z,g,j,q,n,c⟩:=h;exact{σ,S,_,Z,g,j,q,λd S1 x H1 o s s1 a=>{σ,S1,_,Z,g.ts a,s1,o,λe m y H2 p l s2 i=>{d,e,m,R,Rv.ts i _ s,l,s2,p,n.kp<|a.trans i},c.kp a},c}
theorem bo(ho:oy K (binaryOp op) r)(hu:X.A.units+64<cLine)(ha:DE K X a ta)(c:DE K X b tb)(d:ψ (X.K=K) qQJ):DE K X (.BinOp a op b pos) (Q4 r ta tb):=⟨λy=>(UK (ho y.cx d hu) (ha.of y)<|c.of y).mono λ_ _ _ h=>h.op⟩
theorem cm(ho:oy K (compareOp op) r)(hu:X.A.units+64<cLine)(ha:DE K X a ta)(c:DE K X b tb)(hm:ψ (behindInMarks op b=ϰ) qQ2)(d:ψ (X.K=K) qQJ):DE K X (.Compare a [op] [b] pos) (Q4 r ta tb):=⟨λy=>(Er (ho y.cx d hu) (ha.of y) (c.of y) hm).mono λ_ _ _ h=>h.op⟩
def dB(t:TD):kW:=λσ S R Z=>t σ S (λx S1=>Q3 x S1 R) Z
theorem Tt.b{t:TD}(h:Tt K E (dB t) τ H Q):T K E t τ H λx H'=>∃k,x=.bl k/\Q k H':=by obtain⟨σ,S,R,Z,m,a,q,c,i⟩:=h;exact{σ,S,_,Z,m,a,q,by rintro d S1 x H1 ⟨b,e,g⟩ l s1 j;exact by subst e;exact{b,l.bl,c b S1 H1 g s1 j},i}
theorem Tt.bop(h:Tt K E (dB<|Q4 r ta tb) τ H Q):Ih (Tf (Lr K r) (T K E ta)<|T K E tb) τ H Q:=h.b.op
theorem aR(ho:oy K (compareOp op) r)(hu:X.A.units+64<cLine)(ha:DE K X a ta)(c:DE K X b tb)(hm:ψ (behindInMarks op b=ϰ) qQ2)(d:ψ (X.K=K) qQJ):DT K X (.Compare a [op] [b] pos) (dB<|Q4 r ta tb):=⟨λy=>(LS (ho y.cx d hu) (ha.of y) (c.of y) hm).mono λ_ _ _ h=>h.bop⟩
theorem tv{t:TD}(h:DE K X e t)(a:ψ (∀whole,isTrue e X.env whole=(do let v <-whole;standAt e.pos;holding [v] (truthy v))) qQ0):DT K X e (dB t):=⟨λy=>(PK (X:=y.cx) (h.of y) a).mono λ_ _ _ h=>h.b⟩
def CO(r r':uc)(ta tb tc:TD):TD:=λσ S R Z=>ta σ S (λx S1=>tb σ S1 (λy c=>r x y c λz a=>Q3 z a λk a=>if k=ϱ then tc σ a (λw d=>r' y w d R) Z else R (.bl false) a) Z) Z
theorem T.chain(h:T K E (CO r r' ta tb tc) τ H Q):BZ (Lr K r) (Lr K r') (T K E ta) (T K E tb) (T K E tc) τ H Q:=by obtain⟨σ,S,R,Z,j,t,q,p,l⟩:=h;refine{σ,S,_,Z,j,t,q,λd S1 x H1 L N s1 c=>{σ,S1,_,Z,j.ts c,s1,L,λe I y H2 M o s2 i=>{d,e,I,_,Rv.ts i _ N,o,s2,M,λz m v F a G n g=>?_},l.kp c},l};obtain⟨k,rfl,a⟩:=a;refine{k,G.bl,?_};cases k with|true=>rw[qb rfl]at a⊢;exact{σ,m,_,Z,((j.ts c).ts i).ts g,n,a,λw C P O B A J s=>{e,w,C,R,Rv.ts (g.trans s) _ o,A,J,B,p.kp<|((c.trans i).trans g).trans s},l.kp<|(c.trans i).trans g}|false=>rw[qa zd]at a⊢;exact p _ m _ F a (b8 false) n<|(c.trans i).trans g
theorem cc(ho:oy K (compareOp op) r)(i:oy K (compareOp FW) r')(hu:X.A.units+64<cLine)(ha:DE K X a ta)(g:DE K X b tb)(e:DE K X c tc) (hm:ψ (lastMarks [op,FW] [b,c]=ϰ) qQ2) (d:ψ (X.K=K) qQJ):DE K X (.Compare a [op,FW] [b,c] pos) (CO r r' ta tb tc):=⟨λy=>(Ii (ho y.cx d hu) (i y.cx d hu) (ha.of y) (g.of y) (e.of y) hm).mono λ_ _ _ h=>h.chain⟩
theorem tcc(ho:oy K (compareOp op) r)(i:oy K (compareOp FW) r')(hu:X.A.units+64<cLine)(ha:DE K X a ta)(g:DE K X b tb)(e:DE K X c tc) (hm:ψ (lastMarks [op,FW] [b,c]=ϰ) qQ2) (d:ψ (X.K=K) qQJ):DT K X (.Compare a [op,FW] [b,c] pos) (dB<|CO r r' ta tb tc):=⟨λy=>(Ij (ho y.cx d hu) (i y.cx d hu) (ha.of y) (g.of y) (e.of y) hm).mono λ_ _ _ h=>h.b.chain⟩
def VL(ta tb:TD):TD:=λσ S R Z=>ta σ S (λx S1=>Q3 x S1 λc S1=>if c=ϱ then tb σ S1 R Z else R (.bl false) S1) Z
def aab(ta tb:TD):TD:=λσ S R Z=>ta σ S (λx S1=>Q3 x S1 λc S1=>if c=ϱ then R (.bl true) S1 else tb σ S1 R Z) Z
def VM(ta:TD):TD:=λσ S R Z=>ta σ S (λx S1=>Q3 x S1 λc S1=>R (.bl<|!c) S1) Z
theorem HI{t:TD}(h:DE K X a t):DE K X (.BoolOp op [a] pos) t:=⟨λy=>PM<|h.of y⟩
theorem qz{a b:Δ}{rest:δ Δ}{ta tb:TD}{pos:Pos}(ha:DE K X a ta)(n:DE K X (.BoolOp .And (b::rest) pos) tb):DE K X (.BoolOp .And (a::b::rest) pos) (VL ta tb):=
 ⟨λy=>(PN (ha.of y)<|n.of y).mono <| by rintro τ H Q ⟨σ,S,R,Z,l,m,q,i,j⟩;exact
  ⟨σ,S,_,Z,l,m,q,by
   rintro d S1 x H1 ⟨c,e,g⟩ o s1 h
   subst e
   refine{c,o.bl,?_}
   cases c with
   |true=>rw[qb rfl]at g⊢;exact{σ,S1,R,Z,l.ts h,s1,g,i.kp h,j.kp h}
   |false=>rw[qa zd]at g⊢;exact i _ S1 _ H1 g (b8 false) s1 h,j⟩⟩
theorem eor{a b:Δ}{rest:δ Δ}{ta tb:TD}{pos:Pos}(ha:DE K X a ta)(n:DE K X (.BoolOp .Or (b::rest) pos) tb):DE K X (.BoolOp .Or (a::b::rest) pos) (aab ta tb):=
 ⟨λy=>(Ux (ha.of y)<|n.of y).mono <| by rintro τ H Q ⟨σ,S,R,Z,l,m,q,i,j⟩;exact
  ⟨σ,S,_,Z,l,m,q,by
   rintro d S1 x H1 ⟨c,e,g⟩ o s1 h
   subst e
   refine{c,o.bl,?_}
   cases c with
   |false=>rw[qa zd]at g⊢;exact{σ,S1,R,Z,l.ts h,s1,g,i.kp h,j.kp h}
   |true=>rw[qb rfl]at g⊢;exact i _ S1 _ H1 g (b8 true) s1 h,j⟩⟩
theorem Q5(ha:DE K X a ta):DE K X (.UnaryOp .Not a pos) (VM ta):=
 ⟨λy=>(PQ<|ha.of y).mono <| by rintro τ H Q ⟨σ,S,R,Z,n,g,q,h,j⟩;exact
  ⟨σ,S,_,Z,n,g,q,by rintro d S1 x H1 ⟨c,e,i⟩ m s1 l;exact by subst e;exact⟨c,m.bl,h _ S1 _ H1 i (b8 _) s1 l⟩,j⟩⟩
def aac(t:kW):kW:=λσ S R Z=>t σ S (λc S1=>R (!c) S1) Z
def aad(t u:kW):kW:=λσ S R Z=>t σ S (λc S1=>if c=ϱ then u σ S1 R Z else R false S1) Z
def dOr(t u:kW):kW:=λσ S R Z=>t σ S (λc S1=>if c=ϱ then R true S1 else u σ S1 R Z) Z
theorem cJ{t:kW}(ha:DT K X a t):DT K X (.UnaryOp .Not a pos) (aac t):=⟨λy=>(PL<|ha.of y).mono <| by rintro τ H Q ⟨σ,S,R,Z,j,d,q,e,h⟩;exact{σ,S,_,Z,j,d,q,λc S1 H1 g s1 i=>e _ S1 H1 g s1 i,h}⟩
structure DW(K:Φ)(X:Cx)(e:Δ)(t:kW):η where
 of:∀{b:χ}(y:Ev X b),PW y.cx e<|Tt K y.E t
theorem PW.mono{t t':TT}(h:PW X e t)(i:∀τ H Q,t' τ H Q->t τ H Q):PW X e t':=λa pins s τ H Q I q=>h a pins s τ H Q I<|i τ H Q q
theorem twd{t:kW}(h:DW K X e t):DT K X e t:=⟨λy=>(h.of y).pt⟩
theorem tw1{t:kW}(h:DT K X a t):DW K X (.BoolOp op [a] pos) t:=⟨λy=>by cases op with|And=>exact pw_and1 (h.of y)|Or=>exact pw_or1<|h.of y⟩
theorem twand{a b:Δ}{rest:δ Δ}{t u:kW}{pos:Pos}(ha:DT K X a t)(l:DW K X (.BoolOp .And (b::rest) pos) u):DW K X (.BoolOp .And (a::b::rest) pos) (aad t u):=
 ⟨λy=>(pw_and (ha.of y)<|l.of y).mono <| by rintro τ H Q ⟨σ,S,R,Z,i,j,q,g,h⟩;exact
  ⟨σ,S,_,Z,i,j,q,λc S1 H1 d s1 e=>by
   cases c with
   |true=>rw[qb rfl]at d⊢;exact{σ,S1,R,Z,i.ts e,s1,d,g.kp e,h.kp e}
   |false=>rw[qa zd]at d⊢;exact g _ S1 H1 d s1 e,h⟩⟩
theorem twor{a b:Δ}{rest:δ Δ}{t u:kW}{pos:Pos}(ha:DT K X a t)(l:DW K X (.BoolOp .Or (b::rest) pos) u):DW K X (.BoolOp .Or (a::b::rest) pos) (dOr t u):=
 ⟨λy=>(pw_or (ha.of y)<|l.of y).mono <| by rintro τ H Q ⟨σ,S,R,Z,i,j,q,g,h⟩;exact
  ⟨σ,S,_,Z,i,j,q,λc S1 H1 d s1 e=>by
   cases c with
   |false=>rw[qa zd]at d⊢;exact{σ,S1,R,Z,i.ts e,s1,d,g.kp e,h.kp e}
   |true=>rw[qb rfl]at d⊢;exact g _ S1 H1 d s1 e,h⟩⟩
def aae(t:kW)(ta tb:TD):TD:=λσ S R Z=>t σ S (λc S1=>if c=ϱ then ta σ S1 R Z else tb σ S1 R Z) Z
theorem TH{t:kW}(j:DT K X c t)(ha:DE K X a ta)(m:DE K X b tb):DE K X (.IfExp c a b pos) (aae t ta tb):=
 ⟨λy=>(HX (j.of y) (ha.of y)<|m.of y).mono <| by rintro τ H Q ⟨σ,S,R,Z,h,l,q,i,g⟩;exact
  ⟨σ,S,_,Z,h,l,q,λc S1 H1 e s1 d=>by
   cases c with
   |true=>rw[qb rfl]at e⊢;exact{σ,S1,R,Z,h.ts d,s1,e,i.kp d,g.kp d}
   |false=>rw[qa zd]at e⊢;exact{σ,S1,R,Z,h.ts d,s1,e,i.kp d,g.kp d},g⟩⟩
def aaf(t:iE):TD:=λσ S R Z=>t σ S (λds S1=>ds.length<=Ϙ/\∀p,S1 p=ϐ->R (.ref p) (S1.set p<|.lst ds)) Z
def aag(t:iE):TD:=λσ S R Z=>t σ S (λds S1=>ds.length<=Ϙ/\R (.tup ds) S1) Z
theorem bT{t:iE}(h:DA K X es t):DE K X (.List es pos) (aaf t):=
 ⟨λy=>(Qi<|h.of y).mono <| by rintro τ H Q ⟨σ,S,R,Z,j,c,q,d,g⟩;exact
  ⟨σ,S,_,Z,j,c,q,by rintro ds S1 xs H1 ⟨hl,e⟩ a s1 i;exact⟨by rw[a.len];exact hl,λp hp=>d _ _ _ _ (e p<|s1.fresh hp) (jJ p) (s1.new hp ⟨xs,aC,RvAll.ts (.new hp) _ a⟩)<|i.trans<|.new hp⟩,g⟩⟩
theorem bq{t:iE}(h:DA K X es t):DE K X (.Tuple es x1 pos) (aag t):=
 ⟨λy=>(Qh<|h.of y).mono <| by rintro τ H Q ⟨σ,S,R,Z,j,c,q,d,g⟩;exact
  ⟨σ,S,_,Z,j,c,q,by rintro ds S1 xs H1 ⟨hl,e⟩ a s1 i;exact⟨by rw[a.len];exact hl,λp hp=>d _ _ _ _ e (iJ aC<|RvAll.ts (.new hp) _ a) (s1.grow hp)<|i.trans<|.new hp⟩,g⟩⟩
def aah:TD:=λ_ S R _=>∀p,S p=ϐ->R (.ref p) (S.set p<|.cM [])
theorem Q6:DE K X (.Dict [] [] pos) aah:=⟨λy=>(IA (X:=y.cx)).mono <| by rintro τ H Q ⟨σ,S,R,Z,e,a,q,c,d⟩ p hp;exact c _ _ _ _ (q p<|a.fresh hp) (jJ p) (a.new hp {[],aC,.nil})<|.new hp⟩
def Lc(K:Φ)(r:δ D->ak->KD->η):δ V->Hp->VK->Prop:=λxs H Q=>∃ds S R,RvAll K H ds xs/\Rs K S H/\r ds S R/\Cn K H R Q
def g8(K:Φ)(f:ξ)(r:δ D->ak->KD->η):Prop:=∀X:Cx,X.K=K->X.calm=ϱ->eU X f (Lc K r)
def Yl(r:δ D->ak->KD->η)(t:iE):TD:=λσ S R Z=>t σ S (λds S1=>r ds S1 R) Z
theorem T.cb{t:iE}(h:T K E (Yl r t) τ H Q):Zy (Lc K r) (Ta K E t) τ H Q:=by obtain⟨σ,S,R,Z,j,a,q,c,i⟩:=h;exact{σ,S,_,Z,j,a,q,λds S1 xs H1 d g s1 e=>{ds,S1,R,g,s1,d,c.kp e},i}
theorem cb{x:ρ}{id:String}{r:δ D->ak->KD->η}{e:Δ}{es:δ Δ}{t:iE}{p pos:Pos}(a:g8 K (.builtin id) r)(hm:X.mg x=ϐ)(c:bootBuiltins x=ϑ (.builtin id))(ha:DA K X (e::es) t)(hg:ψ (Gl X x) qQJ) (hn:ψ (x≠"__name__") qQZ) (g:ψ ((x==("__debug__": ρ))=ϰ) qQZ) (l:ψ (starEach (e::es) X.env=(false,eval e X.env)::starEach es X.env) qQJ) (d:ψ ((backTo pos<|starEach es X.env).any (·.1)=ϰ) qQJ) (i:ψ (X.K=K) qQJ) (j:ψ (X.calm=ϱ) qQJ): DE K X (.Call (.Name x p) (e::es) [] pos) (Yl r t):=⟨λy=>(Ag (X:=y.cx) (a _ i j) hg hm c (ha.of y) hn g l d).mono λ_ _ _ h=>h.cb⟩
theorem ct{x:ρ}{id:String}{r:δ D->ak->KD->η}{e:Δ}{es:δ Δ}{t:iE}{p pos:Pos}(a:g8 K (.type id) r)(hm:X.mg x=ϐ)(c:bootBuiltins x=ϑ (.type id))(ha:DA K X (e::es) t)(hg:ψ (Gl X x) qQJ) (hn:ψ (x≠"__name__") qQZ) (g:ψ ((x==("__debug__": ρ))=ϰ) qQZ) (l:ψ (starEach (e::es) X.env=(false,eval e X.env)::starEach es X.env) qQJ) (d:ψ ((backTo pos<|starEach es X.env).any (·.1)=ϰ) qQJ) (i:ψ (X.K=K) qQJ) (j:ψ (X.calm=ϱ) qQJ): DE K X (.Call (.Name x p) (e::es) [] pos) (Yl r t):=⟨λy=>(uX (X:=y.cx) (a _ i j) hg hm c (ha.of y) hn g l d).mono λ_ _ _ h=>h.cb⟩
end
section
variable{K:Φ}
theorem Cn.now(h:Cn K H R Q)(a:Rs K S H)(r:R d S)(c:Rv K H d v):Q v H:=h d S v H r c a<|.refl _
theorem Cn.new{H:Hp}{R:KD}{Q:VK}{S:ak}{p:ε}{ds:δ D}{xs:δ V}(h:Cn K H R Q)(a:Rs K S H)(hp:H p=ϐ)(r:S p=ϐ->R (.ref p) (S.set p<|.lst ds))(c:RvAll K H ds xs):Q (.ref p) (upd H p<|.lst xs):=h _ _ _ _ (r<|a.fresh hp) (jJ p) (a.new hp {xs,aC,RvAll.ts (.new hp) _ c})<|.new hp
theorem Cn.VN{H:Hp}{R:KD}{Q:VK}{S:ak}{p:ε}{ds:δ D}{xs:δ V}(h:Cn K H R Q)(a:Rs K S H)(hp:H p=ϐ)(r:R (.tup ds) S)(c:RvAll K H ds xs):Q (.ref p) (upd H p<|.tup xs):=h _ _ _ _ r (iJ aC<|RvAll.ts (.new hp) _ c) (a.grow hp)<|.new hp
theorem Cn.put{H:Hp}{R:KD}{Q:VK}{S:ak}{p:ε}{ds es:δ D}{xs:δ V}{d:D}{v:V}(h:Cn K H R Q)(a:Rs K S H)(hp:S p=ϑ (.lst es))(r:R d<|S.set p<|.lst ds)(c:Rv K H d v)(e:RvAll K H ds xs):Q v (upd H p<|.lst xs):=h _ _ _ _ r (Rv.ts (a.iK hp) _ c) (a.put hp {xs,aC,RvAll.ts (a.iK hp) _ e})<|a.iK hp
def qX(S:ak):D->δ D->η|.ref a,ds=>S a=ϑ (.lst ds)|.jH es,ds=>es=ds|_,_=>False
theorem qX.at{H:Hp}{S:ak}{d:D}{ds:δ D}{v:V}(h:qX S d ds)(c:Rs K S H)(r:Rv K H d v):∃a xs,v=.ref a/\iD K H a xs/\RvAll K H ds xs:=by cases d with|ref a=>(obtain⟨xs,e,q⟩:=c.lst h;exact{a,xs,r.ref,.of e,q})|jH es=>(have h:es=ds:=h;subst h;obtain⟨a,xs,e,q,t⟩:=r.jH;exact⟨a,xs,e,q.sq,t⟩)|_=>exact h.elim
def aai:uc:=λx y S R=>match x,y with|.int i,.int j=>R (.int<|i+j) S|.str a,.str b=>a.length+b.length<=Ϙ/\R (.str<|a++b) S|.tup a,.tup b=>a.length+b.length<=Ϙ/\R (.tup<|a++b) S|.ref a,.ref b=>∃xs ys,S a=ϑ (.lst xs)/\S b=ϑ (.lst ys)/\xs.length+ys.length<=Ϙ/\∀p,S p=ϐ->R (.ref p) (S.set p<|.lst<|xs++ys)|_,_=>False
theorem pP:oy K (binaryOp .Add) aai:=by rintro X A hu pins s σ H x y v u Q I o n ⟨d,e,S,R,r,t,c,h,m⟩;subst A;cases d with|int i=>(cases e with|int j=>exact Ie pins s σ H x y v u Q I o n {i,j,r.int,t.int,m.now c h<|aN _}|_=>exact h.elim)|str i=>(cases e with|str j=>exact rQ pins s σ H x y v u Q I o n {i,j,r.str,t.str,h.1,m.now c h.2<|iI _}|_=>exact h.elim)|tup i=>(cases e with|tup j=>(obtain⟨a,xs,rfl,w,g⟩:=r.tup;obtain⟨b,ys,rfl,z,l⟩:=t.tup;refine Ms pins s σ H _ _ v u Q I o n {a,b,xs,ys,rfl,rfl,.of w,.of z,by rw[g.len,l.len];exact h.1,λe=>?_,λ_ e=>?_,λ_ _ p hp=>m.VN c hp h.2<|g.app l};subst e;have:i=[]:=List.length_eq_zero_iff.mp g.len.symm;subst this;exact m.now c h.2<|iJ z l;subst e;have:j=[]:=List.length_eq_zero_iff.mp l.len.symm;subst this;exact m.now c h.2<|by rw[List.append_nil];exact iJ w g)|_=>exact h.elim)|ref a=>(cases e with|ref b=>(obtain⟨xs,ys,e1,e2,hl,q⟩:=h;obtain⟨vs,h1,g⟩:=c.lst e1;obtain⟨ws,h2,l⟩:=c.lst e2;exact Iv pins s σ H x y v u Q I o n {a,b,vs,ws,r.ref,t.ref,h1,h2,by rw[g.len,l.len];exact hl,λp hp=>m.new c hp (q p)<|g.app l})|_=>exact h.elim)|_=>exact h.elim
def aaj:uc:=λx y S R=>match x,y with|.int i,.int j=>R (.int<|i-j) S|_,_=>False
theorem Az:oy K (binaryOp .Sub) aaj:=by rintro X m hu pins s σ H x y v u Q I l j ⟨d,e,S,R,g,i,a,h,c⟩;cases d<;>cases e<;>first|exact False.elim h|exact P9 pins s σ H x y v u Q I l j {_,_,g.int,i.int,c.now a h<|aN _}
def aak:uc:=λx y S R=>match x,y with|.int i,.int j=>LQ i j/\R (.int<|i*j) S|.str z,.int n=>MulOk z n/\R (.str<|PySem.Txt.mul z n) S|_,_=>False
theorem vf:oy K (binaryOp .Mult) aak:=by rintro X m hu pins s σ H x y v u Q I l j ⟨d,e,S,R,g,i,a,h,c⟩;cases d<;>cases e<;>first|exact False.elim h|exact P_ pins s σ H x y v u Q I l j {_,_,g.int,i.int,h.1,c.now a h.2<|aN _}|exact CG pins s σ H x y v u Q I l j {_,_,g.str,i.int,h.1,c.now a h.2<|iI _}
def aal:uc:=λx y S R=>match x,y with|.int i,.int j=>0<j/\R (.int<|i%j) S|_,_=>False
theorem bh:oy K (binaryOp .Mod) aal:=by rintro X m hu pins s σ H x y v u Q I l j ⟨d,e,S,R,g,i,a,h,c⟩;cases d<;>cases e<;>first|exact False.elim h|exact Qa pins s σ H x y v u Q I l j {_,_,g.int,i.int,h.1,c.now a h.2<|aN _}
def VO:uc:=λx y S R=>match x,y with|.int i,.int j=>Oi i j/\R (.int<|i/j) S|_,_=>False
theorem dh:oy K (binaryOp .FloorDiv) VO:=by rintro X m hu pins s σ H x y v u Q I l j ⟨d,e,S,R,g,i,a,h,c⟩;cases d<;>cases e<;>first|exact False.elim h|exact IF pins s σ H x y v u Q I l j {_,_,g.int,i.int,h.1,c.now a h.2<|aN _}
def aam:uc:=λx y S R=>match x,y with|.int i,.int j=>UN i j/\R (.int<|i^j.toNat) S|_,_=>False
theorem mC:oy K (binaryOp .Pow) aam:=by rintro X m hu pins s σ H x y v u Q I l j ⟨d,e,S,R,g,i,a,h,c⟩;cases d<;>cases e<;>first|exact False.elim h|exact Qb pins s σ H x y v u Q I l j {_,_,g.int,i.int,h.1,c.now a h.2<|aN _}
def IW(f:ν->ν->χ)(g:ρ->ρ->χ):uc:=λx y S R=>match x,y with|.int i,.int j=>R (.bl<|f i j) S|.str i,.str j=>R (.bl<|g i j) S|_,_=>False
theorem EI(h1:∀X:Cx,gX X (compareOp op)<|LO λi j=>.bl<|f i j) (h2:∀X:Cx,gX X (compareOp op) λx y H Q=>∃i j,x=.str i/\y=.str j/\Q (.bl<|g i j) H):oy K (compareOp op) (IW f g):=by rintro X p hu pins s σ H x y v u Q I o n ⟨d,e,S,R,l,m,a,h,c⟩;cases d<;>cases e<;>first|exact False.elim h|exact h1 X pins s σ H x y v u Q I o n {_,_,l.int,m.int,c.now a h<|b8 _}|exact h2 X pins s σ H x y v u Q I o n {_,_,l.str,m.str,c.now a h<|b8 _}
theorem oz:oy K (compareOp .Lt) (IW (λi j=>ω<|i<j) λi j=>n6 i j):=EI (λ_=>UP) λ_=>FU
theorem lP:oy K (compareOp .LtE) (IW (λi j=>ω<|i<=j) λi j=>HF i j):=EI (λ_=>UQ) λ_=>Gj
theorem qA:oy K (compareOp .Gt) (IW (λi j=>ω<|j<i) λi j=>n6 j i):=EI (λ_=>UR) λ_=>Gm
theorem aan:oy K (compareOp .GtE) (IW (λi j=>ω<|j<=i) λi j=>HF j i):=EI (λ_=>US) λ_=>Gk
noncomputable def ah:D->χ|.ay=>true|_=>false
theorem AA(r:Rv K H d v):ω (v=.ay)=ah d:=by cases d with|ay=>rw[r.ay];rfl|bl b=>rw[r.bl];rfl|int b=>rw[r.int];rfl|str b=>rw[r.str];rfl|ref b=>rw[r.ref];rfl|ty b=>rw[r.ty];rfl|tup b=>(obtain⟨a,xs,rfl,_⟩:=r.tup;rfl)|jH b=>(obtain⟨a,xs,rfl,_⟩:=r.jH;rfl)|kt b=>obtain⟨a,xs,rfl,_⟩:=r.kt;rfl
def isD:uc:=λx y S R=>match y with|.ay=>R (.bl<|ah x) S|_=>False
def VP:uc:=λx y S R=>match y with|.ay=>R (.bl<|!ah x) S|_=>False
theorem gq:oy K (compareOp .Is) isD:=by rintro X m hu pins s σ H x y v u Q I l j ⟨d,e,S,R,g,i,a,h,c⟩;cases e<;>first|exact False.elim h|exact Qd pins s σ H x y v u Q I l j {i.ay,by rw[AA g];exact c.now a h<|b8 _}
theorem dJ:oy K (compareOp .IsNot) VP:=by rintro X m hu pins s σ H x y v u Q I l j ⟨d,e,S,R,g,i,a,h,c⟩;cases e<;>first|exact False.elim h|exact LR pins s σ H x y v u Q I l j {i.ay,by rw[AA g];exact c.now a h<|b8 _}
mutual
def Dp(S:ak):D->PyData->η|.ay,p=>p=.none|.bl b,p=>p=.bool b|.int i,p=>p=.int i|.str z,p=>p=.str z|.tup ds,p=>∃ps,p=.tuple ps/\DpAll S ds ps|.jH ds,p=>∃ps,p=.list ps/\DpAll S ds ps|.kt _,_=>False|.ref _,_=>False|.ty _,_=>False
def DpAll(S:ak):δ D->δ PyData->η|[],ps=>ps=[]|d::ds,ps=>∃q qs,ps=q::qs/\Dp S d q/\DpAll S ds qs
end
mutual
theorem Dp.dt:∀(d:D){p:PyData}{v:V},Dp S d p->Rv K H d v->Dt K H p v|.ay,p,v,h,r=>by simp only[Dp]at h;subst h;simp only[Dt];exact r.ay|.bl b,p,v,h,r=>by simp only[Dp]at h;subst h;simp only[Dt];exact r.bl|.int b,p,v,h,r=>by simp only[Dp]at h;subst h;simp only[Dt];exact r.int|.str b,p,v,h,r=>by simp only[Dp]at h;subst h;simp only[Dt];exact r.str|.tup ds,p,v,h,r=>(by simp only[Dp]at h;obtain⟨ps,rfl,h⟩:=h;obtain⟨a,xs,rfl,q,t⟩:=r.tup;simp only[Dt];exact{a,xs,rfl,.of q,DpAll.dt ds h t})|.jH ds,p,v,h,r=>(by simp only[Dp]at h;obtain⟨ps,rfl,h⟩:=h;obtain⟨a,xs,rfl,q,t⟩:=r.jH;simp only[Dt];exact{a,xs,rfl,q.sq,DpAll.dt ds h t})|.kt a,p,v,h,r=>by simp only[Dp]at h|.ref a,p,v,h,r=>by simp only[Dp]at h|.ty a,p,v,h,r=>by simp only[Dp]at h
theorem DpAll.dt:∀(ds:δ D){ps:δ PyData}{vs:δ V},DpAll S ds ps->RvAll K H ds vs->DtAll K H ps vs|[],ps,vs,h,r=>by simp only[DpAll]at h;subst h;rw[r.nil];simp only[DtAll]|d::ds,ps,vs,h,r=>by simp only[DpAll]at h;obtain⟨q,qs,rfl,h1,h2⟩:=h;obtain⟨y,ys,rfl,a,c⟩:=r.cons;simp only[DtAll];exact{y,ys,rfl,Dp.dt d h1 a,DpAll.dt ds h2 c}
end
def Dl(S:ak):D->PyData->η|.ref a,p=>∃ds ps,S a=ϑ (.lst ds)/\p=.list ps/\DpAll S ds ps|d,p=>Dp S d p
theorem Dl.dt(h:Dl S d p)(c:Rs K S H)(r:Rv K H d v):Dt K H p v:=by cases d with|ref a=>(obtain⟨ds,ps,e,rfl,h⟩:=h;obtain⟨xs,e1,t⟩:=c.lst e;rw[r.ref];simp only[Dt];exact{a,xs,rfl,.of e1,DpAll.dt ds h t})|_=>exact Dp.dt _ h r
def HJ(a:χ):uc:=λx y S R=>match x,y with|.int i,.int j=>(R (.bl<|if a then !decide (i=j) else ω (i=j)) S)|.str i,.str j=>(R (.bl<|if a then !decide (i=j) else ω (i=j)) S)|x,y=>∃p q,Dl S x p/\Dl S y q/\p.canLay0=ϱ/\q.canLay0=ϱ/\(p.depth<=64\/q.depth<=64)/\R (.bl<|if a then !PyData.eqv p q else PyData.eqv p q) S
theorem IX(h:HJ neg x y S R):(∃i j,x=.int i/\y=.int j/\R (.bl<|if neg then !decide (i=j) else ω (i=j)) S)\/(∃i j,x=.str i/\y=.str j/\R (.bl<|if neg then !decide (i=j) else ω (i=j)) S)\/∃p q,Dl S x p/\Dl S y q/\p.canLay0=ϱ/\q.canLay0=ϱ/\(p.depth<=64\/q.depth<=64)/\R (.bl<|if neg then !PyData.eqv p q else PyData.eqv p q) S:=by cases x<;>cases y<;>first|exact .inl {_,_,rfl,rfl,h}|exact .inr (.inl {_,_,rfl,rfl,h})|exact .inr (.inr h)
theorem aK:oy K (compareOp .Eq) (HJ false):=by
 rintro X t hu pins s σ H x y v u Q I l g ⟨d,e,S,R,m,n,a,h,c⟩;subst t;rcases IX h with⟨i,j,rfl,rfl,h⟩|⟨i,j,rfl,rfl,h⟩|⟨p,q,h1,h2,r,o,dp,h⟩;cases m.int;cases n.int;refine Oa pins s σ H _ _ v u Q I l g {rfl,?_};have e:ω (V.int i=V.int j)=ω (i=j):=by simp
 rw[e];exact c.now a h<|b8 _;cases m.str;cases n.str;refine Oa pins s σ H _ _ v u Q I l g {rfl,?_};have e:ω (V.str i=V.str j)=ω (i=j):=by simp
 rw[e];exact c.now a h<|b8 _;exact QL hu pins s σ H x y v u Q I l g {p,q,h1.dt a m,h2.dt a n,r,o,dp,c.now a h<|b8 _}
theorem g9:oy K (compareOp .NotEq) (HJ true):=by
 rintro X t hu pins s σ H x y v u Q I l g ⟨d,e,S,R,m,n,a,h,c⟩;subst t;rcases IX h with⟨i,j,rfl,rfl,h⟩|⟨i,j,rfl,rfl,h⟩|⟨p,q,h1,h2,r,o,dp,h⟩;cases m.int;cases n.int;refine Ob pins s σ H _ _ v u Q I l g {rfl,?_};have e:ω (V.int i=V.int j)=ω (i=j):=by simp
 rw[e];exact c.now a h<|b8 _;cases m.str;cases n.str;refine Ob pins s σ H _ _ v u Q I l g {rfl,?_};have e:ω (V.str i=V.str j)=ω (i=j):=by simp
 rw[e];exact c.now a h<|b8 _;exact IM hu pins s σ H x y v u Q I l g {p,q,h1.dt a m,h2.dt a n,r,o,dp,c.now a h<|b8 _}
noncomputable def bN(kvs:δ<|Key×D)(k:Key):θ D:=(kvs.find? λa=>ω<|a.1=k).map (·.2)
noncomputable def dput(kvs:δ<|Key×D)(k:Key)(v:D):δ (Key×D):=if (kvs.any λa=>ω<|a.1=k)=ϱ then kvs.map (λa=>if a.1=k then (a.1,v) else a) else kvs++[(k,v)]
noncomputable def AB(kvs:δ<|Key×D)(k:Key):δ (Key×D):=kvs.filter λa=>ω<|a.1≠k
theorem b9.val(h:b9 K H ks vs)(k:Key):(∀d,bN ks k=ϑ d->∃v,gp vs k=ϑ v/\Rv K H d v)/\(bN ks k=ϐ->gp vs k=ϐ):=by induction h with|nil=>(exact{λd e=>(by cases e),λ_=>rfl})|@cons a b l m r t i=>obtain⟨k',d⟩:=a;obtain⟨g,v⟩:=b;obtain⟨c,r⟩:=r;dsimp only at c;subst c;unfold bN gp;simp only[yd];by_cases q:k'=k;rw[zx q];exact{λj e=>{v,rfl,(by cases e;exact r)},λe=>(by cases e)};rw[zw q];exact i
theorem b9.any(h:b9 K H ks vs)(k:Key):(ks.any λkv=>ω<|kv.1=k)=(vs.any λkv=>ω<|kv.1=k):=by induction h with|nil=>rfl|cons r t a=>rw[yX,yX,a,r.1]
theorem b9.len(h:b9 K H ks vs):vs.length=ks.length:=(yH h).symm
theorem b9.app:∀{ks a:δ (κ×D)}{vs ws:δ (κ×V)},b9 K H ks vs->b9 K H a ws->b9 K H (ks++a) (vs++ws)|_,_,_,_,.nil,h=>h|_,_,_,_,.cons r t,h=>.cons r<|b9.app t h
theorem b9.Qw(h:b9 K H ks vs)(k:Key)(c:Rv K H d v):b9 K H (ks.map λkv=>if kv.1=k then (kv.1,d) else kv) (vs.map λkv=>if kv.1=k then (kv.1,v) else kv):=by induction h with|nil=>exact .nil|@cons a b l m r t e=>refine .cons ?_ e;dsimp only;by_cases q:b.1=k;rw[qb q,qb<|r.1.trans q];exact⟨r.1,c⟩;rw[qa q,qa λz=>q<|r.1.symm.trans z];exact r
theorem b9.put(h:b9 K H ks vs)(k:Key)(a:Rv K H d v):b9 K H (dput ks k d) (putK vs k v):=by unfold dput putK;rw[h.any k];split;exact h.Qw k a;exact h.app<|.cons ⟨rfl,a⟩ .nil
theorem b9.drop(h:b9 K H ks vs)(k:Key):b9 K H (AB ks k) (pL vs k):=by unfold AB pL;induction h with|nil=>exact .nil|@cons a b l m r t c=>rw[yT,yT,r.1];by_cases q:b.1=k;rw[qa<|by simp[q],qa<|by simp[q]];exact c;rw[qb<|by simp[q],qb<|by simp[q]];exact .cons r c
noncomputable def CP:D->θ Key|.int i=>some (.inl i)|.str z=>some (.inr z)|_=>none
theorem oA(h:CP d=ϑ k)(r:Rv K H d v):v=kV k:=by cases d with|int i=>(cases h;exact r.int)|str i=>(cases h;exact r.str)|_=>cases h
noncomputable def jK:D->χ|.ay=>true|.bl _=>true|.int _=>true|.str _=>true|_=>false
noncomputable def kX:D->V|.ay=>.ay|.bl b=>.bl b|.int i=>.int i|.str z=>.str z|.ref a=>.ref a|.ty n=>.ty n|_=>.ay
theorem sC(h:jK d=ϱ)(r:Rv K H d v):v=kX d/\gZ v=ϱ:=by cases d with|ay=>(cases r.ay;exact⟨rfl,rfl⟩)|bl b=>(cases r.bl;exact⟨rfl,rfl⟩)|int b=>(cases r.int;exact⟨rfl,rfl⟩)|str b=>(cases r.str;exact⟨rfl,rfl⟩)|_=>cases h
theorem mD:∀{ds:δ D}{vs:δ V},ds.all jK=ϱ->RvAll K H ds vs->vs=ds.map kX/\vs.all gZ=ϱ|[],vs,_,r=>by rw[r.nil];exact⟨rfl,rfl⟩|d::ds,vs,h,r=>by obtain⟨y,ys,rfl,r1,r2⟩:=r.cons;rw[List.all_cons,zJ]at h;obtain⟨e1,a⟩:=sC h.1 r1;obtain⟨e2,c⟩:=mD h.2 r2;refine{by rw[e1,e2];rfl,?_};rw[List.all_cons,a,c];rfl
def inD(c:χ):uc:=λx y S R=>match y with|.str j=>(∃i,x=.str i/\R (.bl<|if c then !(!(Builtin.Str.occurrences j i 0 j.length 1).isEmpty) else !(Builtin.Str.occurrences j i 0 j.length 1).isEmpty) S)|.kt ds=>(jK x=ϱ/\ds.all jK=ϱ/\R (.bl<|if c then !Cd (kX x) (ds.map kX) else Cd (kX x) (ds.map kX)) S)|.tup ds=>(jK x=ϱ/\ds.all jK=ϱ/\R (.bl<|if c then !Cd (kX x) (ds.map kX) else Cd (kX x) (ds.map kX)) S)|.ref a=>((∃ds,S a=ϑ (.lst ds)/\jK x=ϱ/\ds.all jK=ϱ/\R (.bl<|if c then !Cd (kX x) (ds.map kX) else Cd (kX x) (ds.map kX)) S)\/∃kvs k,S a=ϑ (.cM kvs)/\CP x=ϑ k/\R (.bl<|if c then !(bN kvs k).isSome else (bN kvs k).isSome) S)|_=>False
theorem wB(c:Rs K S H)(e:S a=ϑ (.cM kvs)):∃o,qw H a (kV k) o/\o.isSome=(bN kvs k).isSome/\∀d,bN kvs k=ϑ d->∃v,o=ϑ v/\Rv K H d v:=by obtain⟨vs,e1,t⟩:=c.cM e;refine{_,qw.k e1,?_,λd h=>(t.val k).1 d h};cases q:bN kvs k with|none=>rw[(t.val k).2 q];rfl|some d=>obtain⟨v,e2,_⟩:=(t.val k).1 d q;rw[e2];rfl
theorem uy:oy K (compareOp .In) (inD false):=by rintro X C hu pins s σ H x y v u Q I n m ⟨d,e,S,R,A,B,c,h,l⟩;subst C;cases e with|str j=>(obtain⟨i,rfl,h⟩:=h;exact FV pins s σ H x y v u Q I n m {i,j,A.str,B.str,l.now c h<|b8 _})|tup ds=>(obtain⟨r,p,h⟩:=h;obtain⟨a,xs,rfl,q,t⟩:=B.tup;obtain⟨e1,w⟩:=sC r A;obtain⟨e2,z⟩:=mD p t;subst e1 e2;exact ot pins s σ H _ _ v u Q I n m {a,_,rfl,.inr<|.of q,w,z,l.now c h<|b8 _})|kt ds=>(obtain⟨r,p,h⟩:=h;obtain⟨a,xs,rfl,q,t⟩:=B.kt;obtain⟨e1,w⟩:=sC r A;obtain⟨e2,z⟩:=mD p t;subst e1 e2;exact ot pins s σ H _ _ v u Q I n m {a,_,rfl,.inr<|.inr q,w,z,l.now c h<|b8 _})|ref a=>(cases B.ref;rcases h with⟨ds,e,r,p,h⟩|⟨kvs,k,e,hk,h⟩;obtain⟨xs,e1,t⟩:=c.lst e;obtain⟨e2,w⟩:=sC r A;obtain⟨e3,z⟩:=mD p t;subst e2 e3;exact ot pins s σ H _ _ v u Q I n m {a,_,rfl,.inl<|.of e1,w,z,l.now c h<|b8 _};cases oA hk A;cases m;obtain⟨o,g,e1,_⟩:=wB (k:=k) c e;refine ZJ (by lia) I g n λs' E=>{.bl o.isSome,H,E,rfl,?_};rw[e1];exact l.now c h<|b8 _)|_=>exact h.elim
def IxD(K:Φ)(r:uc):Prop:=∀X:Cx,X.K=K->X.A.units+64<cLine->U1 X (Lr K r)
inductive Ym (ds:δ D) (i:ν) (S:ak) (R:KD):η where
 |mk (d:D) (h:gI ds i=ϑ d) (r:R d S)
inductive AtL (a:ε) (i:ν) (S:ak) (R:KD):η where
 |mk (ds:δ D) (d:D) (e:S a=ϑ (.lst ds)) (h:gI ds i=ϑ d) (r:R d S)
def ixD:uc:=λx y S R=>match x,y with|.tup ds,.int i=>Ym ds i S R|.kt ds,.int i=>Ym ds i S R|.jH ds,.int i=>Ym ds i S R|.str z,.int i=>∃c,z.length<=Ϙ/\gI z.cps.toList i=ϑ c/\R (.str ⟨#[c]⟩) S|.ref a,.int i=>AtL a i S R|.ref a,.str z=>∃kvs d,S a=ϑ (.cM kvs)/\bN kvs (.inr z)=ϑ d/\R d S|_,_=>False
theorem RvAll.at{H:Hp}{ds:δ D}{xs:δ V}{i:ν}{d:D}(h:RvAll K H ds xs)(e:gI ds i=ϑ d):∃v,gI xs i=ϑ v/\Rv K H d v:=by unfold gI at e⊢;rw[h.len];cases q:F_ ds.length i with|none=>(rw[q]at e;cases e)|some j=>rw[q]at e;exact h.get e
theorem aaq:IxD K ixD:=by rintro X E hu value slice pins s σ H x y v u Q I n m ⟨d,e,S,R,A,B,j,h,l⟩ p;subst E;cases d with|tup ds=>(cases e with|int i=>(obtain⟨d,e,h⟩:=h;obtain⟨a,xs,rfl,q,t⟩:=A.tup;obtain⟨z,e1,r⟩:=t.at e;exact Im value slice pins s σ H _ _ v u Q I n m {a,xs,i,z,rfl,B.int,.of q,e1,l.now j h r} p)|_=>exact h.elim)|kt ds=>(cases e with|int i=>(obtain⟨d,e,h⟩:=h;obtain⟨a,xs,rfl,q,t⟩:=A.kt;obtain⟨z,e1,r⟩:=t.at e;exact Im value slice pins s σ H _ _ v u Q I n m {a,xs,i,z,rfl,B.int,.inr q,e1,l.now j h r} p)|_=>exact h.elim)|jH ds=>(cases e with|int i=>(obtain⟨d,e,h⟩:=h;obtain⟨a,xs,rfl,q,t⟩:=A.jH;obtain⟨z,e1,r⟩:=t.at e;exact Eu value slice pins s σ H _ _ v u Q I n m {a,xs,i,z,rfl,B.int,q.sq,e1,l.now j h r} p)|_=>exact h.elim)|str w=>(cases e with|int i=>(obtain⟨c,G,e,h⟩:=h;exact Qn value slice pins s σ H _ _ v u Q I n m {w,i,c,A.str,B.int,G,e,l.now j h<|iI _} p)|_=>exact h.elim)|ref a=>(cases e with|int i=>(obtain⟨ds,d,e,e1,h⟩:=h;obtain⟨xs,e2,t⟩:=j.lst e;obtain⟨z,e3,r⟩:=t.at e1;exact Eu value slice pins s σ H _ _ v u Q I n m {a,xs,i,z,A.ref,B.int,.of e2,e3,l.now j h r} p)|str w=>(obtain⟨kvs,d,e,e1,h⟩:=h;cases A.ref;cases B.str;cases n;obtain⟨o,g,_,e2⟩:=wB (k:=.inr w) j e;obtain⟨z,rfl,r⟩:=e2 d e1;exact tail_any (Aj I g) PySem.F.slot_dict_getitem.lookup (Gb (by lia) I g m λL s' J C=>{z,H,J,C,l.now j h r}) p)|_=>exact h.elim)|_=>exact h.elim
theorem ix(hu:X.A.units+64<cLine)(ha:DE K X a ta)(d:DE K X b tb)(c:Et b:=by exact λ_ _=>rfl)(e:ψ (X.K=K) qQJ):DE K X (.Subscript a b pos) (Q4 ixD ta tb):=⟨λy=>(U4 (aaq y.cx e hu) (ha.of y) (d.of y) c).mono λ_ _ _ h=>h.op⟩
end
section
variable{K:Φ}{X:Cx}
abbrev Ox:=SD->ak->(θ ν->ak->η)->KX->η
def To(K:Φ)(E:St->XK)(t:Ox):TO:=λτ H Q=>∃σ S R Z,iL K H σ τ/\Rs K S H/\t σ S R Z/\(∀o S' H',R o S'->Rs K S' H'->Kp K H H'->Q o H')/\GC K H Z (E τ)
structure DO(K:Φ)(X:Cx)(e:θ Δ)(t:Ox):η where
 of:∀{b:χ}(y:Ev X b),PO y.cx e<|To K y.E t
theorem PO.mono{t t':TO}(h:PO X e t)(i:∀τ H Q,t' τ H Q->t τ H Q):PO X e t':=λpins s τ H Q I q=>h pins s τ H Q I<|i τ H Q q
def VQ:Ox:=λ_ S R _=>R none S
inductive VR (d:D) (S:ak) (R:θ ν->ak->η):η where
 |mk (i:ν) (h:d=.int i) (r:R (some i) S)
def VS(t:TD):Ox:=λσ S R Z=>t σ S (λd S1=>VR d S1 R) Z
theorem o0:DO K X none VQ:=⟨λy=>(L3 (X:=y.cx)).mono <| by rintro τ H Q ⟨σ,S,R,Z,e,a,q,c,d⟩;exact c _ S H q a<|.refl _⟩
theorem o1{t:TD}(h:DE K X e t):DO K X (some e) (VS t):=⟨λy=>(L4<|h.of y).mono <| by rintro τ H Q ⟨σ,S,R,Z,n,a,q,c,j⟩;exact{σ,S,_,Z,n,a,q,by rintro d S1 x H1 ⟨i,e,g⟩ m s1 l;exact by subst e;exact{i,m.int,c _ S1 H1 g s1 l},j}⟩
noncomputable def cP{α:Type}(xs:δ α)(lo hi:θ ν):δ α:=(xs.drop<|HT.sIx xs.length 0 lo).take<|HT.sIx xs.length xs.length hi-HT.sIx xs.length 0 lo
theorem RvAll.cut{H:Hp}{ds:δ D}{xs:δ V}(h:RvAll K H ds xs)(lo hi:θ ν):RvAll K H (cP ds lo hi) (F9 xs lo hi):=by unfold cP F9;rw[h.len];exact(h.drop _).take _
def aar(te:TD):TD:=λσ S R Z=>te σ S (λx S1=>∃i,x=.int i/\R (.int (-i)) S1) Z
theorem IY(n:DE K X e te):DE K X (.UnaryOp .USub e pos) (aar te):=⟨λy=>(UL Qc<|n.of y).mono <| by rintro τ H Q ⟨σ,S,R,Z,m,a,q,c,h⟩;exact{σ,S,_,Z,m,a,q,by rintro d S1 x H1 ⟨i,e,g⟩ l s1 j;exact by subst e;exact{i,l.int,c _ S1 _ H1 g (aN _) s1 j},h}⟩
def tyD(T:String)(S:ak):D->η|.str _=>T ="str"|.ref a=>T ="list"/\∃ds,S a=ϑ (.lst ds)|.jH _=>T ="list"|_=>False
theorem Oy{H:Hp}{S:ak}{T:String}{d:D}{v:V}(h:tyD T S d)(c:Rs K S H)(r:Rv K H d v):Yc K T v H:=by cases d with|str z=>rw[r.str];exact h|ref a=>(obtain⟨e,ds,h⟩:=h;obtain⟨xs,e1,_⟩:=c.lst h;rw[r.ref];exact .inl {e,xs,.of e1})|jH ds=>(obtain⟨a,xs,rfl,q,_⟩:=r.jH;exact .inl ⟨h,xs,q.sq⟩)|_=>exact h.elim
abbrev HK:=D->δ D->ak->KD->η
def Lm(K:Φ)(r:HK):V->δ V->Hp->VK->Prop:=λx xs H Q=>∃d ds S R,Rv K H d x/\RvAll K H ds xs/\Rs K S H/\r d ds S R/\Cn K H R Q
def Oz(K:Φ)(id:String)(r:HK):Prop:=∀X:Cx,X.K=K->Tj X id (Lm K r)
def dBM(T:String)(r:HK)(to:TD)(t:iE):TD:=λσ S R Z=>to σ S (λx S1=>tyD T S1 x/\t σ S1 (λds a=>r x ds a R) Z) Z
def aat(T:String)(r:HK)(to:TD):TD:=λσ S R Z=>to σ S (λx S1=>tyD T S1 x/\r x [] S1 R) Z
theorem bm{o e:Δ}{es:δ Δ}{T id:String}{name:ρ}{r:HK}{to:TD}{t:iE}{apos aM:Pos}(w:PlainAttrs T)(slot:Slot T name id)(n:typeOf (.builtin id)=pure (.type "method_descriptor"))(hm:Oz K id r)(ho:DE K X o to)(ha:DA K X (e::es) t) (A:ψ (attributeBase o name X.env (eval o X.env)=eval o X.env) qQJ) (z:ψ (((backTo aM<|starEach (e::es) X.env).all (λx=>!x.1)&&(backToKw aM<|keywordEach [] X.env).all (λx=>x.1.isSome)&&ω ((e::es).length+([]:δ Keyword).length+(if ([]:δ Keyword).isEmpty then 0 else 1)<30))=ϱ) qQJ) (m:ψ ((apos.endLine==aM.line)=ϱ) qQJ) (C:ψ (starEach (e::es) X.env=(false,eval e X.env)::starEach es X.env) qQJ) (p:ψ ((backTo aM<|starEach es X.env).any (·.1)=ϰ) qQJ) (v:ψ (X.K=K) qQJ): DE K X (.Call (.Attribute o name apos) (e::es) [] aM) (dBM T r to t):=by
 subst v
 exact⟨λy=>(U6 (X:=y.cx) w slot n (hm _ rfl) (ho.of y) (ha.of y) A z m C p).mono <| by rintro τ H Q ⟨σ,S,R,Z,c,j,q,s,g⟩;exact
  ⟨σ,S,_,Z,c,j,q,by rintro d S1 x H1 ⟨h1,E⟩ h s1 a;exact⟨Oy h1 s1 h,σ,S1,_,Z,c.ts a,s1,E,λds B xs H2 F l s2 i=>⟨d,ds,B,R,Rv.ts i _ h,l,s2,F,s.kp<|a.trans i⟩,g.kp a⟩,g⟩⟩
theorem bm0{o:Δ}{T id:String}{name:ρ}{r:HK}{to:TD}{apos aM:Pos}(e:PlainAttrs T)(slot:Slot T name id)(h:typeOf (.builtin id)=pure (.type "method_descriptor"))(hm:Oz K id r)(ho:DE K X o to) (i:ψ (attributeBase o name X.env (eval o X.env)=eval o X.env) qQJ) (g:ψ ((apos.endLine==aM.line)=ϱ) qQJ) (p:ψ (X.K=K) qQJ): DE K X (.Call (.Attribute o name apos) [] [] aM) (aat T r to):=by
 subst p
 exact⟨λy=>(Qq (X:=y.cx) e slot h (hm _ rfl) (ho.of y) i g).mono <| by rintro τ H Q ⟨σ,S,R,Z,s,c,q,j,m⟩;exact
  ⟨σ,S,_,Z,s,c,q,by rintro d S1 x H1 ⟨h1,l⟩ a s1 n;exact⟨Oy h1 s1 a,d,[],S1,R,a,bu,s1,l,j.kp n⟩,m⟩⟩
theorem RvAll.one(h:RvAll K H [d] xs):∃v,xs=[v]/\Rv K H d v:=by obtain⟨y,ys,rfl,h1,h2⟩:=h.cons;rw[h2.nil];exact⟨y,rfl,h1⟩
inductive VT (x:D) (ds:δ D) (S:ak) (R:KD):η where
 |mk (a:ε) (es:δ D) (d:D) (e1:x=.ref a) (e2:ds=[d]) (e3:S a=ϑ (.lst es)) (e4:es.length<Ϙ) (r:R .ay<|S.set a<|.lst<|es++[d])
def MI:HK:=λx ds S R=>VT x ds S R
theorem cA:Oz K "list.append" MI:=by rintro X n pins s σ H x xs v us Q I i rs ⟨d,ds,S,R,l,m,c,⟨a,es,y,e1,e2,e3,hl,h⟩,e⟩;subst e1 e2;obtain⟨j,rfl,g⟩:=m.one;obtain⟨zs,e4,t⟩:=c.lst e3;exact Ga pins s σ H x _ v us Q I i rs {a,zs,j,l.ref,rfl,e4,by rw[t.len];exact hl,e.put c e3 h jI<|t.app<|aO g bu}
def aau:HK:=λx ds S R=>∃a es d,x=.ref a/\ds=[]/\S a=ϑ (.lst es)/\es[es.length-1]?=some d/\R d (S.set a<|.lst es.dropLast)
theorem VU:Oz K "list.pop" aau:=by rintro X m pins s σ H x xs v us Q I g rs ⟨d,ds,S,R,j,l,c,⟨a,es,y,e1,e2,e3,hl,h⟩,e⟩;subst e1 e2;obtain⟨zs,e4,t⟩:=c.lst e3;obtain⟨w,i,r⟩:=t.get hl;exact Qu pins s σ H x _ v us Q I g rs {a,zs,w,j.ref,l.nil,e4,by rw[t.len];exact i,e.put c e3 h r t.dropLast}
def Q7:HK:=λx ds S R=>∃a es i k d,x=.ref a/\ds=[.int i]/\S a=ϑ (.lst es)/\-(2^63)<=i/\i<2^63/\seqIndex? i es.length=ϑ k/\es[k]?=some d/\R d (S.set a<|.lst<|es.eraseIdx k)
theorem MJ:Oz K "list.pop" Q7:=by rintro X q pins s σ H x xs v us Q I l rs ⟨d,ds,S,R,o,p,c,⟨a,es,i,k,y,e1,e2,e3,h1,h2,m,g,h⟩,e⟩;subst e1 e2;obtain⟨z,rfl,j⟩:=p.one;obtain⟨zs,e4,t⟩:=c.lst e3;obtain⟨w,n,r⟩:=t.get g;exact Iu pins s σ H x _ v us Q I l rs {a,zs,i,k,w,o.ref,by rw[j.int],e4,h1,h2,by rw[t.len];exact m,n,e.put c e3 h r<|t.erase k}
def MK:HK:=λx ds S R=>∃(es:δ D)(d:D)(j:π),ds=[d]/\qX S x es/\jK d=ϱ/\es.all jK=ϱ/\(∃z,es[j]?=some z/\eqV (kX z) (kX d)=ϱ)/\(∀m u,m<j->es[m]?=some u->eqV (kX u) (kX d)=ϰ)/\R (.int j) S
theorem sD:Oz K "list.index" MK:=by rintro X o pins s σ H x xs v us Q I r rs ⟨d,ds,S,R,G,J,g,⟨es,y,j,e2,e3,B,w,⟨z,e4,C⟩,n,h⟩,i⟩;subst o e2;obtain⟨L,rfl,c⟩:=J.one;obtain⟨a,zs,rfl,q,t⟩:=e3.at g G;obtain⟨E,F⟩:=sC B c;obtain⟨A,l⟩:=mD w t;subst E A;refine Gy pins s σ H _ _ v us Q I r rs {a,_,_,kX z,j,rfl,rfl,q,F,l,by rw[zm,e4];rfl,C,λm u hm e=>?_,i.now g h<|aN _};rw[zm]at e;cases c:es[m]? with|none=>(rw[c]at e;cases e)|some p=>rw[c]at e;cases e;exact n m p hm c
def ML:HK:=λx ds S R=>∃z y,x=.str z/\ds=[.str y]/\R (.bl<|PySem.Txt.startswith z y) S
theorem IZ:Oz K "str.startswith" ML:=by rintro X m pins s σ H x xs v us Q I j rs ⟨d,ds,S,R,e,g,a,⟨z,y,e1,e2,h⟩,c⟩;subst e1 e2;obtain⟨l,rfl,i⟩:=g.one;exact ux pins s σ H _ _ v us Q I j rs {z,y,e.str,by rw[i.str],c.now a h<|b8 _}
def VW(S:ak)(R:KD):D->η|.str z=>z.length<=Ϙ/\R (.int z.length) S|.tup es=>R (.int es.length) S|.kt es=>R (.int es.length) S|.jH es=>R (.int es.length) S|.ref a=>(∃es,S a=ϑ (.lst es)/\R (.int es.length) S)\/∃kvs,S a=ϑ (.cM kvs)/\R (.int kvs.length) S|_=>False
inductive VX (ds:δ D) (S:ak) (R:KD):η where
 |mk (x:D) (h:ds=[x]) (r:VW S R x)
def aav:δ D->ak->KD->Prop:=λds S R=>VX ds S R
theorem ba:g8 K (.builtin "len") aav:=by rintro X j l pins s σ H xs us Q I g ⟨ds,S,R,r,c,⟨x,e,h⟩,d⟩;subst j e;obtain⟨w,rfl,i⟩:=r.one;cases x with|str z=>(cases i.str;exact jC pins s σ H _ us Q I g {_,_,rfl,⟨h.1,rfl⟩,d.now c h.2<|aN _})|tup es=>(obtain⟨a,xs,rfl,q,t⟩:=i.tup;exact jC pins s σ H _ us Q I g {_,_,rfl,.inr {xs,.of q,t.len.symm},d.now c h<|aN _})|kt es=>(obtain⟨a,xs,rfl,q,t⟩:=i.kt;exact jC pins s σ H _ us Q I g {_,_,rfl,.inr {xs,.inr q,t.len.symm},d.now c h<|aN _})|jH es=>(obtain⟨a,xs,rfl,q,t⟩:=i.jH;exact jC pins s σ H _ us Q I g {_,_,rfl,.inl ⟨xs,q.sq,t.len.symm⟩,d.now c h<|aN _})|ref a=>(cases i.ref;rcases h with⟨es,e,h⟩|⟨kvs,e,h⟩;obtain⟨xs,e1,t⟩:=c.lst e;exact jC pins s σ H _ us Q I g {_,_,rfl,.inl {xs,.of e1,t.len.symm},d.now c h<|aN _};obtain⟨xs,e1,t⟩:=c.cM e;exact Gi pins s σ H _ us Q I g {a,xs,rfl,e1,by rw[t.len];exact d.now c h<|aN _})|_=>exact h.elim
def VY(S:ak):D->Kd->η|.ay,k=>k=.ay|.bl _,k=>k=.bl|.int _,k=>k=.int|.str _,k=>k=.str|.ref a,k=>(k=.lst/\∃ds,S a=ϑ (.lst ds))\/(k=.cM/\∃ds,S a=ϑ (.cM ds))|.tup _,k=>k=.tup|_,_=>False
theorem VZ(h:VY S d k)(c:Rs K S H)(r:Rv K H d v):r9 H v k:=by cases d with|ay=>(cases h;rw[r.ay];exact .ay)|bl b=>(cases h;rw[r.bl];exact .bl b)|int b=>(cases h;rw[r.int];exact .int b)|str b=>(cases h;rw[r.str];exact .str b)|tup b=>(cases h;obtain⟨a,xs,rfl,q,_⟩:=r.tup;exact .tup q)|ref a=>(rw[r.ref];rcases h with⟨rfl,ds,h⟩|⟨rfl,ds,h⟩;obtain⟨xs,e,_⟩:=c.lst h;exact .lst e;obtain⟨xs,e,_⟩:=c.cM h;exact .cM e)|_=>exact h.elim
inductive V0 (ds:δ D) (S:ak) (R:KD):η where
 |mk (x:D) (n:String) (k:Kd) (g:Kd->χ) (e:ds=[x,.ty n]) (a:we n=ϑ g) (b:VY S x k) (r:R (.bl<|g k) S)
def aaw:δ D->ak->KD->Prop:=λds S R=>V0 ds S R
theorem RvAll.two(h:RvAll K H [d,e] xs):∃v u,xs=[v,u]/\Rv K H d v/\Rv K H e u:=by obtain⟨y,ys,rfl,h1,h2⟩:=h.cons;obtain⟨u,rfl,a⟩:=h2.one;exact⟨y,u,rfl,h1,a⟩
theorem cB:g8 K (.builtin "isinstance") aaw:=by rintro X l m pins s σ H xs us Q I c ⟨ds,S,R,r,a,⟨x,n,k,g,e,h1,h2,h⟩,d⟩;subst l e;obtain⟨v,u,rfl,i,j⟩:=r.two;rw[j.ty]at c;exact IL pins s σ H _ us Q I c {v,n,k,g,rfl,h1,VZ h2 a i,d.now a h<|b8 _}
inductive V1 (ds:δ D) (S:ak) (f:δ χ->χ) (R:KD):η where
 |mk (x:D) (bs:δ χ) (e:ds=[x]) (h:qX S x<|bs.map D.bl) (r:R (.bl<|f bs) S)
def V2:δ D->ak->KD->Prop:=λds S R=>V1 ds S (λbs=>bs.all id) R
theorem jL:g8 K (.builtin "all") V2:=by rintro X j d pins s σ H xs us Q I l ⟨ds,S,R,r,c,⟨x,bs,e,h1,h⟩,g⟩;subst j e;obtain⟨v,rfl,i⟩:=r.one;obtain⟨a,zs,rfl,q,t⟩:=h1.at c i;rw[t.bools]at q;exact uq d pins s σ H _ us Q I l {a,bs,rfl,q,g.now c h<|b8 _}
def aax:δ D->ak->KD->Prop:=λds S R=>∃(x:D)(bs:δ χ),ds=[x]/\qX S x (bs.map D.bl)/\R (.bl<|bs.any id) S
theorem OA:g8 K (.builtin "any") aax:=by rintro X j d pins s σ H xs us Q I l ⟨ds,S,R,r,c,⟨x,bs,e,h1,h⟩,g⟩;subst j e;obtain⟨v,rfl,i⟩:=r.one;obtain⟨a,zs,rfl,q,t⟩:=h1.at c i;rw[t.bools]at q;exact ur d pins s σ H _ us Q I l {a,bs,rfl,q,g.now c h<|b8 _}
def intD:δ D->ak->KD->Prop:=λds S R=>(∃i,ds=[.int i]/\R (.int i) S)\/∃k,ds=[.bl k]/\R (.int<|if k then 1 else 0) S
theorem EJ:g8 K (.type "int") intD:=by rintro X j g pins s σ H xs us Q I e ⟨ds,S,R,r,c,h,d⟩;rcases h with⟨i,rfl,h⟩|⟨k,rfl,h⟩;obtain⟨v,rfl,a⟩:=r.one;exact uS pins s σ H _ us Q I e<|.inl {i,by rw[a.int],d.now c h<|aN _};obtain⟨v,rfl,a⟩:=r.one;exact uS pins s σ H _ us Q I e<|.inr {k,by rw[a.bl],d.now c h<|aN _}
def V3:δ D->ak->KD->Prop:=λds S R=>∃x es,ds=[x]/\(qX S x es\/x=.tup es)/\∀p,S p=ϐ->R (.ref p) (S.set p<|.lst es)
theorem I9:g8 K (.type "list") V3:=by rintro X j l pins s σ H xs us Q I g ⟨ds,S,R,r,c,⟨x,es,e,h1,h⟩,d⟩;subst j e;obtain⟨v,rfl,i⟩:=r.one;rcases h1 with h1|rfl;obtain⟨a,zs,rfl,q,t⟩:=h1.at c i;exact mr pins s σ H _ us Q I g {a,zs,rfl,.inl q,λp hp=>d.new c hp (h p) t};obtain⟨a,zs,rfl,q,t⟩:=i.tup;exact mr pins s σ H _ us Q I g {a,zs,rfl,.inr<|.of q,λp hp=>d.new c hp (h p) t}
inductive V4 (ds:δ D) (S:ak) (R:KD):η where
 |mk (x:D) (es:δ D) (e:ds=[x]) (h:qX S x es\/x=.tup es) (r:R (.tup es) S)
def Q8:δ D->ak->KD->Prop:=λds S R=>V4 ds S R
theorem iM:g8 K (.type "tuple") Q8:=by rintro X j l pins s σ H xs us Q I g ⟨ds,S,R,r,c,⟨x,es,e,h1,h⟩,d⟩;subst j e;obtain⟨v,rfl,i⟩:=r.one;rcases h1 with h1|rfl;obtain⟨a,zs,rfl,q,t⟩:=h1.at c i;exact lB pins s σ H _ us Q I g {a,zs,rfl,.inl {q,λp hp=>d.VN c hp h t}};obtain⟨a,zs,rfl,q,t⟩:=i.tup;exact lB pins s σ H _ us Q I g {a,zs,rfl,.inr {.of q,d.now c h<|iJ q t}}
def minD(f:ν->ν->χ):δ D->ak->KD->Prop:=λds S R=>∃i j,ds=[.int i,.int j]/\R (.int<|if f j i then j else i) S
theorem V5:g8 K (.builtin "min") (minD λa b=>ω<|a<b):=by rintro X o c pins s σ H xs us Q I n ⟨ds,S,R,r,d,⟨i,j,e,h⟩,g⟩;subst e;obtain⟨v,u,rfl,l,m⟩:=r.two;refine FX c pins s σ H _ us Q I n {i,j,by rw[l.int,m.int],?_};have:=g.now d h<|aN _;simpa using this
end
abbrev qY:=δ D->ak->KD->KX->η
def ud(K:Φ)(sp:qY):Sp:=λvs H Q e=>∃ds S R Z,RvAll K H ds vs/\Rs K S H/\sp ds S R Z/\Cn K H R Q/\GC K H Z e
section
variable{K:Φ}{X:Cx}{k:π}{f C:ε}{fd:FuncData}{ps:δ ρ}{sp:Sp}{qv:δ V}{ds:δ ξ}{x m:ρ}{p pos apos:Pos}{e o:Δ}{es:δ Δ}{b:χ}{y:Ev X b}
theorem wC(F:bS X.prog X.w X.K X.mg X.base (f_ X.prog X.w X.mg) k f fd ps sp)(hr:bX k X.A)(g:Binds X.K fd ps ds)(hd:Vals qv ds) (I:Inv y.cx p2 σ H s) (r:Vals vs us) (h:sp (vs++qv) H Q<|y.E σ):wpAny (model X.prog X.w) X.A (call (.ref f) us) (EP y.cx p2 σ Q) y.xe s:=by
 have d:Vals (vs++qv) (us++ds):=r.append hd;have hl:(us++ds).length=ps.length:=by rw[<-d.length];exact F.len _ _ _ _ h
 refine wpAny_call<|y6 (F.run X.A X.stack s H {us,[]} (us++ds) (vs++qv) Q (y.E σ) hr I.UU (g s us I.n5 hl) d h) λc s' a=>?_;cases c with|error e=>exact y.ok.call p2 σ H s e s' I a|ok fl=>cases fl with|ret u=>exact I.after a|next=>exact False.elim a|brk=>exact False.elim a|cont=>exact False.elim a
theorem I_{t:TA}(F:bS X.prog X.w X.K X.mg X.base (f_ X.prog X.w X.mg) k f fd ps sp)(hr:bX k X.A)(hg:Gl X x)(hm:X.mg x=ϑ (.ref f))(hk:keepIn X.K (.ref f)=ϱ)(d:Binds X.K fd ps ds)(hd:Vals qv ds) (ha:PA y.cx (e::es) t) (g:(x==("__debug__": ρ))=ϰ) (i:starEach (e::es) X.env=(false,eval e X.env)::starEach es X.env) (c:(backTo pos<|starEach es X.env).any (·.1)=ϰ): PE y.cx (.Call (.Name x p) (e::es) [] pos) (λσ H Q=>t σ H λvs H1=>sp (vs++qv) H1 Q<|y.E σ):=by intro p2 s σ H Q I h;refine wpAny_Call_Name_kw<|mj I hg hm ?_ g;refine callWith_K (h₀:=X.base) I.ok.mod.Td hk (bp (ha pos p2 s σ H _ I h) λus s1 ⟨vs,H1,a,r,q⟩=>{a.n5,?_}) i c;exact wC F hr d hd a r q
theorem Ja{pl:Sem χ}{ta:TE}{t:TA}(G:PE y.cx o ta)(c:qS X.K C)(hm:Meth X.K C m f)(F:bS X.prog X.w X.K X.mg X.base (f_ X.prog X.w X.mg) k f fd ps sp)(hr:bX k X.A)(j:Binds X.K fd ps ds)(hd:Vals qv ds)(ha:PA y.cx (e::es) t)
  (p:starEach (e::es) X.env=(false,eval e X.env)::starEach es X.env) (z:(backTo pos<|starEach es X.env).any (·.1)=ϰ)
  (B:eval (.Call (.Attribute o m apos) (e::es) [] pos) X.env=(do
   let ov <-eval o X.env
   standAt apos.atName
   let (f,first) <-holding [ov] (getMethod ov m pl)
   callWith pos f first (backTo pos<|starEach (e::es) X.env) (backToKw pos<|keywordEach [] X.env))):
  PE y.cx (.Call (.Attribute o m apos) (e::es) [] pos) (λσ H Q=>ta σ H λx H1=>∃a dx fs,x=.ref a/\H1 a=ϑ (.ins C dx fs)/\fs.lookup m=ϐ/\t σ H1 λvs H2=>sp (x::(vs++qv)) H2 Q<|y.E σ):=by
 intro p2 s σ H Q I h
 refine methodCall_KW (pl:=pl) (bp (G p2 s σ H _ I h) λu s1 ⟨x,H1,g,n,a,dx,fs,ex,v,l,q⟩=>?_) B
 subst ex
 obtain rfl:u=Value.ref a:=n
 refine rR g v c hm l ?_
 refine callWith_K (first:=[.ref a]) (h₀:=X.base) I.ok.mod.Td hm.kp (bp (ha pos p2 s1 σ H1 _ g q) λus s2 ⟨vs,H2,d,r,i⟩=>{d.n5,?_}) p z
 exact wC (us:=.ref a::us) (vs:=.ref a::vs) F hr j hd d (.cons rfl r) i
theorem GF(i:PE y.cx o ta)(c:qS X.K C)(hm:Meth X.K C m f)(F:bS X.prog X.w X.K X.mg X.base (f_ X.prog X.w X.mg) k f fd ps sp)(hr:bX k X.A)(j:Binds X.K fd ps ds)(hd:Vals qv ds)
  (g:eval (.Call (.Attribute o m apos) [] [] pos) X.env=(do
   let ov <-eval o X.env
   standAt apos.atName
   let (f,first) <-holding [ov] (getMethod ov m pl)
   callWith pos f first (backTo pos<|starEach [] X.env) (backToKw pos<|keywordEach [] X.env))):
  PE y.cx (.Call (.Attribute o m apos) [] [] pos) (λσ H Q=>ta σ H λx H1=>∃a dx fs,x=.ref a/\H1 a=ϑ (.ins C dx fs)/\fs.lookup m=ϐ/\sp (x::qv) H1 Q (y.E σ)):=by
 intro p2 s σ H Q I h
 refine methodCall_KW (pl:=pl) (bp (i p2 s σ H _ I h) λu s1 ⟨x,H1,d,n,a,dx,fs,ex,e,l,q⟩=>?_) g
 subst ex
 obtain rfl:u=Value.ref a:=n
 refine rR d e c hm l ?_
 exact PySem.W.callWith_K0 (first:=[.ref a]) d.n5 hm.kp<|wC (us:=[.ref a]) (vs:=[.ref a]) F hr j hd d (.cons rfl .nil) q
theorem GG(M:Mk X.K C f)(F:bS X.prog X.w X.K X.mg X.base (f_ X.prog X.w X.mg) k f fd ps sp)(hr:bX (k+1) X.A)(m:Binds X.K fd ps ds)(hd:Vals qv ds) (I:Inv y.cx p2 σ H s) (r:Vals vs us) (h:∀x dx,H x=ϐ->H dx=ϐ->dx≠x->sp (.ref x::(vs++qv)) (upd (upd H dx<|.own x) x<|.ins C dx []) (λv H2=>v=.ay/\Q (.ref x) H2) (y.E σ)): wpAny (model X.prog X.w) X.A (call (.ref C) us) (EP y.cx p2 σ Q) y.xe s:=by
 have d:=h (s.heap.objs.size+1) s.heap.objs.size (I.aG.fresh<|yJ _) (I.aG.fresh<|zk _)<|zC<|Nat.lt_succ_self _;have c:=Inv.made (C:=C) I;have g:Vals (V.ref (s.heap.objs.size+1)::(vs++qv)) (Value.ref (s.heap.objs.size+1)::(us++ds)):=.cons rfl<|r.append hd;have hl:(Value.ref (s.heap.objs.size+1)::us++ds).length=ps.length:=by have e:=g.length;rw[F.len _ _ _ _ d]at e;exact e.symm
 refine wpAny_call<|Il (f:=f) I.n5 M.makes M.init (beq_iff_eq.mp M.fn)<|y6 (F.run _ X.stack _ _ {Value.ref (s.heap.objs.size+1)::us,[]} (Value.ref (s.heap.objs.size+1)::(us++ds)) _ _ (y.E σ) (hr.make C us []) (c.UU.make C us []) (m _ (Value.ref (s.heap.objs.size+1)::us) c.n5 hl) g d) λr s' a=>?_;cases r with|error e=>exact y.ok.call p2 σ _ _ e s' c a|ok fl=>cases fl with|ret u=>(obtain⟨v,H',i,l,j,n⟩:=c.after a;subst j;exact{l,{V.ref<|s.heap.objs.size+1,H',i,rfl,n}})|next=>exact False.elim a|brk=>exact False.elim a|cont=>exact False.elim a
theorem Jb{t:TA}(M:Mk X.K C f)(F:bS X.prog X.w X.K X.mg X.base (f_ X.prog X.w X.mg) k f fd ps sp)(hr:bX (k+1) X.A)(hg:Gl X x)(hm:X.mg x=ϑ (.ref C))(d:Binds X.K fd ps ds)(hd:Vals qv ds) (ha:PA y.cx (e::es) t) (g:(x==("__debug__": ρ))=ϰ) (i:starEach (e::es) X.env=(false,eval e X.env)::starEach es X.env) (c:(backTo pos<|starEach es X.env).any (·.1)=ϰ): PE y.cx (.Call (.Name x p) (e::es) [] pos) (λσ H Q=>t σ H λvs H1=>∀x dx,H1 x=ϐ->H1 dx=ϐ->dx≠x->sp (.ref x::(vs++qv)) (upd (upd H1 dx<|.own x) x<|.ins C dx []) (λv H2=>v=.ay/\Q (.ref x) H2) (y.E σ)):=by intro p2 s σ H Q I h;refine wpAny_Call_Name_kw<|mj I hg hm ?_ g;refine callWith_K (h₀:=X.base) I.ok.mod.Td M.kp (bp (ha pos p2 s σ H _ I h) λus s1 ⟨vs,H1,a,r,q⟩=>{a.n5,?_}) i c;exact GG M F hr d hd a r q
end
section
variable{K:Φ}{X:Cx}{k:π}{f C:ε}{fd:FuncData}{ps:δ ρ}{sp:qY}{AD:δ D}{qv:δ V}{ds:δ ξ}{x m:ρ}{p pos apos:Pos}{e o:Δ}{es:δ Δ}
structure TJ(K:Φ)(AD:δ D)(qv:δ V)(ds:δ ξ):η where
 v:Vals qv ds
 d:∀H,RvAll K H AD qv
theorem d0:TJ K [] [] []:={.nil,λ_=>bu}
theorem d1:TJ K [.ay] [.ay] [.none]:={.cons rfl .nil,λ_=>aO jI bu}
def OB(sp:qY)(AD:δ D)(t:iE):TD:=λσ S R Z=>t σ S (λds S1=>sp (ds++AD) S1 R Z) Z
theorem cf{t:iE}(F:bS X.prog X.w K X.mg X.base (f_ X.prog X.w X.mg) k f fd ps<|ud K sp)(hr:bX k X.A)(hm:X.mg x=ϑ (.ref f))(hk:keepIn K (.ref f)=ϱ)(m:Binds K fd ps ds)(hd:TJ K AD qv ds)(ha:DA K X (e::es) t) (hg:ψ (Gl X x) qQJ) (n:ψ ((x==("__debug__": ρ))=ϰ) qQZ) (s:ψ (starEach (e::es) X.env=(false,eval e X.env)::starEach es X.env) qQJ) (h:ψ ((backTo pos<|starEach es X.env).any (·.1)=ϰ) qQJ) (o:ψ (X.K=K) qQJ): DE K X (.Call (.Name x p) (e::es) [] pos) (OB sp AD t):=by
 subst o
 exact⟨λy=>(I_ F hr hg hm hk m hd.v (ha.of y) n s h).mono <| by rintro τ H Q ⟨σ,S,R,Z,r,g,q,i,a⟩;exact
  ⟨σ,S,_,Z,r,g,q,λes S1 xs H1 j l s1 c=>⟨es++AD,S1,R,Z,l.app<|hd.d _,s1,j,i.kp c,a.kp c⟩,a⟩⟩
inductive MeR (C:ε) (m:ρ) (x:D) (S:ak) (p:η):η where
 |mk (a:ε) (fs:δ<|ρ×D) (e1:x=.ref a) (e2:S a=ϑ (.ins C fs)) (e3:fs.lookup m=ϐ) (r:p)
def EL(C:ε)(m:ρ)(sp:qY)(AD:δ D)(ta:TD)(t:iE):TD:=λσ S R Z=>ta σ S (λx S1=>MeR C m x S1<|t σ S1 (λds a=>sp (x::(ds++AD)) a R Z) Z) Z
theorem Yn{t:iE}(N:DE K X o ta)(c:qS K C)(hm:Meth K C m f)(F:bS X.prog X.w K X.mg X.base (f_ X.prog X.w X.mg) k f fd ps<|ud K sp)(hr:bX k X.A)(s:Binds K fd ps ds)(hd:TJ K AD qv ds)(ha:DA K X (e::es) t)
  (B:ψ (starEach (e::es) X.env=(false,eval e X.env)::starEach es X.env) qQJ) (E:ψ ((backTo pos<|starEach es X.env).any (·.1)=ϰ) qQJ)
  (G:ψ (eval (.Call (.Attribute o m apos) (e::es) [] pos) X.env=(do
   let ov <-eval o X.env
   standAt apos.atName
   let (f,first) <-holding [ov] (getMethod ov m pl)
   callWith pos f first (backTo pos<|starEach (e::es) X.env) (backToKw pos<|keywordEach [] X.env))) qQJ) (z:ψ (X.K=K) qQJ):
  DE K X (.Call (.Attribute o m apos) (e::es) [] pos) (EL C m sp AD ta t):=by
 subst z
 exact⟨λy=>(Ja (N.of y) c hm F hr s hd.v (ha.of y) B E G).mono <| by rintro τ H Q ⟨σ,S,R,Z,j,n,q,r,h⟩;exact
  ⟨σ,S,_,Z,j,n,q,by
   rintro d S1 x H1 ⟨a,fs,e1,e2,e3,L⟩ l s1 g
   subst e1
   obtain⟨dx,vs,e4,I⟩:=s1.ins e2
   exact{a,dx,vs,l.ref,e4,(I.look m).2 e3,σ,S1,_,Z,j.ts g,s1,L,λes J xs H2 M p s2 i=>{_,J,R,Z,aO (Rv.ts i _ l)<|p.app<|hd.d _,s2,M,r.kp<|g.trans i,h.kp<|g.trans i},h.kp g},h⟩⟩
theorem aay(z:DE K X o ta)(c:qS K C)(hm:Meth K C m f)(F:bS X.prog X.w K X.mg X.base (f_ X.prog X.w X.mg) k f fd ps<|ud K sp)(hr:bX k X.A)(l:Binds K fd ps ds)(hd:TJ K AD qv ds)
  (r:ψ (eval (.Call (.Attribute o m apos) [] [] pos) X.env=(do
   let ov <-eval o X.env
   standAt apos.atName
   let (f,first) <-holding [ov] (getMethod ov m pl)
   callWith pos f first (backTo pos<|starEach [] X.env) (backToKw pos<|keywordEach [] X.env))) qQJ) (n:ψ (X.K=K) qQJ):
  DE K X (.Call (.Attribute o m apos) [] [] pos) (EL C m sp AD ta MH):=by
 subst n
 exact⟨λy=>(GF (z.of y) c hm F hr l hd.v r).mono <| by rintro τ H Q ⟨σ,S,R,Z,p,i,q,j,e⟩;exact
  ⟨σ,S,_,Z,p,i,q,by
   rintro d S1 x H1 ⟨a,fs,e1,e2,e3,t⟩ h s1 g
   subst e1
   obtain⟨dx,vs,e4,s⟩:=s1.ins e2
   exact{a,dx,vs,h.ref,e4,(s.look m).2 e3,_,S1,R,Z,aO h<|hd.d _,s1,t,j.kp g,e.kp g},e⟩⟩
def V6(C:ε)(sp:qY)(AD:δ D)(t:iE):TD:=λσ S R Z=>t σ S (λds S1=>∀x,S1 x=ϐ->sp (.ref x::(ds++AD)) (S1.set x<|.ins C []) (λd a=>d=.ay/\R (.ref x) a) Z) Z
theorem mk{t:iE}(M:Mk K C f)(F:bS X.prog X.w K X.mg X.base (f_ X.prog X.w X.mg) k f fd ps<|ud K sp)(hr:bX (k+1) X.A)(hm:X.mg x=ϑ (.ref C))(o:Binds K fd ps ds)(hd:TJ K AD qv ds)(ha:DA K X (e::es) t) (hg:ψ (Gl X x) qQJ) (I:ψ ((x==("__debug__": ρ))=ϰ) qQZ) (L:ψ (starEach (e::es) X.env=(false,eval e X.env)::starEach es X.env) qQJ) (z:ψ ((backTo pos<|starEach es X.env).any (·.1)=ϰ) qQJ) (r:ψ (X.K=K) qQJ): DE K X (.Call (.Name x p) (e::es) [] pos) (V6 C sp AD t):=by
 subst r
 exact⟨λy=>(Jb M F hr hg hm o hd.v (ha.of y) I L z).mono <| by rintro τ H Q ⟨σ,S,R,Z,s,l,q,n,i⟩;exact
  ⟨σ,S,_,Z,s,l,q,λes S1 xs H1 E J s1 j x dx hx a ne=>by
   have h:upd H1 dx (.own x) x=ϐ:=by rw[au ne.symm];exact hx
   have g:Kp X.K H1 (upd (upd H1 dx<|.own x) x<|.ins C dx []):=(Kp.new a).trans<|Kp.new h
   exact{_,_,_,Z,aO (jJ x)<|RvAll.ts g _<|J.app<|hd.d _,(s1.grow a).new (c:=.ins C []) h {dx,[],aC,.nil},E x<|s1.fresh hx,by rintro d N v H2 ⟨e,G⟩ m s2 B;exact by subst e;exact{m.ay,n _ _ _ _ G (jJ x) s2<|(j.trans g).trans B},(i.kp j).kp g},i⟩⟩
inductive FlR (C:ε) (f:ρ) (x:D) (S:ak) (R:KD):η where
 |mk (a:ε) (fs:δ<|ρ×D) (d:D) (e1:x=.ref a) (e2:S a=ϑ (.ins C fs)) (e3:fs.lookup f=ϑ d) (r:R d S)
def aaz(C:ε)(f:ρ)(ta:TD):TD:=λσ S R Z=>ta σ S (λx S1=>FlR C f x S1 R) Z
theorem fl{f:ρ}{ta:TD}(c:qS K C)(n:jD K C f)(z:DE K X e ta)(i:ψ (attributeBase e f X.env (eval e X.env)=eval e X.env) qQJ)(j:ψ (X.K=K) qQJ):DE K X (.Attribute e f pos) (aaz C f ta):=by
 subst j
 exact⟨λy=>(Qf (X:=y.cx) (z.of y) i).mono <| by rintro τ H Q ⟨σ,S,R,Z,l,g,q,h,s⟩;exact
  ⟨σ,S,_,Z,l,g,q,by
   rintro d S1 x H1 ⟨a,fs,y,e1,e2,e3,r⟩ w s1 t
   subst e1
   obtain⟨dx,vs,e4,m⟩:=s1.ins e2
   obtain⟨v,p,o⟩:=(m.look f).1 y e3
   exact{a,C,dx,vs,v,w.ref,e4,c,n,p,(h.kp t).now s1 r o},s⟩⟩
end
structure Jc where
 nx:SD->ak->η
 rt:KD
 bk:SD->ak->Prop:=λ_ _=>False
 ct:SD->ak->Prop:=λ_ _=>False
abbrev jy:=Jc->SD->ak->(SD->KX)->η
def OC(K:Φ)(H:Hp)(R:SD->ak->η)(Q:St->Hp->η):Prop:=∀σ S τ H',R σ S->iL K H' σ τ->Rs K S H'->Kp K H H'->Q τ H'
structure Yo(K:Φ)(H:Hp)(De:Jc)(Dv:Ends):η where
 nx:OC K H De.nx Dv.nx
 rt:Cn K H De.rt Dv.rt
 bk:OC K H De.bk Dv.bk
 ct:OC K H De.ct Dv.ct
def AE(K:Φ)(H:Hp)(Z:SD->KX)(E:St->XK):Prop:=∀σ τ C S H',Z σ C S->iL K H' σ τ->Rs K S H'->Kp K H H'->E τ (.ref C) none H'
section
variable{K:Φ}{H H1:Hp}{De:Jc}{Dv:Ends}{Z:SD->KX}{E:St->XK}{σ:SD}{τ:St}{S:ak}
theorem OC.kp(h:OC K H R Q)(k:Kp K H H1):OC K H1 R Q:=λσ S τ H' r a b c=>h σ S τ H' r a b<|k.trans c
theorem Yo.kp(h:Yo K H De Dv)(k:Kp K H H1):Yo K H1 De Dv:={h.nx.kp k,h.rt.kp k,h.bk.kp k,h.ct.kp k}
theorem AE.kp(h:AE K H Z E)(k:Kp K H H1):AE K H1 Z E:=λσ τ C S H' r a b c=>h σ τ C S H' r a b<|k.trans c
theorem AE.at(h:AE K H Z E)(r:iL K H σ τ):GC K H (Z σ) (E τ):=λC S H' z s k=>h σ τ C S H' z (r.ts k) s k
theorem AE.on(h:AE K H Z E)(k:Kp K H H1)(r:iL K H1 σ τ):GC K H1 (Z σ) (E τ):=(h.kp k).at r
end
def Tl(K:Φ)(E:St->XK)(t:jy):TS:=λDv τ H=>∃σ S De Z,iL K H σ τ/\Rs K S H/\t De σ S Z/\Yo K H De Dv/\AE K H Z E
structure DS(K:Φ)(X:Cx)(b:χ)(st:Stmt)(t:jy):η where
 of:∀y:Ev X b,PS y.cx st<|Tl K y.E t
structure BN(K:Φ)(X:Cx)(b:χ)(st:δ Stmt)(t:jy):η where
 of:∀y:Ev X b,BV y.cx st<|Tl K y.E t
theorem PS.mono{t t':TS}(h:PS X e t)(i:∀D τ H,t' D τ H->t D τ H):PS X e t':=λpins s τ H D I q=>h pins s τ H D I<|i D τ H q
theorem BV.mono{t t':TS}(h:BV X e t)(i:∀D τ H,t' D τ H->t D τ H):BV X e t':=λpins s τ H D I q=>h pins s τ H D I<|i D τ H q
section
variable{K:Φ}{X:Cx}{b:χ}{pos:Pos}
def V7:jy:=λDe σ S _=>De.nx σ S
def aaA(t u:jy):jy:=λDe σ S Z=>t {De with nx:=λav S'=>u De av S' Z} σ S Z
theorem s0:BN K X b [] V7:=⟨λy=>(vZ (X:=y.cx)).mono <| by rintro D τ H ⟨σ,S,De,Z,d,a,q,c,e⟩;exact c.nx _ _ _ _ q d a<|.refl _⟩
theorem sc{st:Stmt}{r:δ Stmt}{t u:jy}(h1:DS K X b st t)(h2:BN K X b r u):BN K X b (st::r) (aaA t u):=
 ⟨λy=>(HY (h1.of y)<|h2.of y).mono <| by rintro D τ H ⟨σ,S,De,Z,j,g,q,d,e⟩;exact
  ⟨σ,S,_,Z,j,g,q,⟨λi S1 l H1 h a b c=>⟨i,S1,De,Z,a,b,h,d.kp c,e.kp c⟩,d.rt,d.bk,d.ct⟩,e⟩⟩
theorem s1{st:Stmt}{t:jy}(h:DS K X b st t):BN K X b [st] t:=⟨λy=>LJ<|h.of y⟩
def V8(t:TD):jy:=λDe σ S Z=>t σ S (λ_ S1=>De.nx σ S1)<|Z σ
theorem se{t:TD}(h:DE K X e t)(j:ψ (swapsWith e none pos.line X.env=pure false) qQJ):DS K X b (.Expr e pos) (V8 t):=⟨λy=>(LK (X:=y.cx) (h.of y) j).mono <| by rintro D τ H ⟨σ,S,De,Z,a,g,q,i,m⟩;exact{σ,S,_,_,a,g,q,λd S1 v H1 l _ s1 c=>i.nx _ _ _ _ l (a.ts c) s1 c,m.at a}⟩
def aaB(t:TD):jy:=λDe σ S Z=>t σ S De.rt<|Z σ
theorem sr{t:TD}(h:DE K X e t):DS K X b (.Return (some e) pos) (aaB t):=⟨λy=>(PR<|h.of y).mono <| by rintro D τ H ⟨σ,S,De,Z,a,c,q,d,g⟩;exact{σ,S,_,_,a,c,q,d.rt,g.at a}⟩
def dIf(c:kW)(t u:jy):jy:=λDe σ S Z=>c σ S (λb S1=>if b=ϱ then t De σ S1 Z else u De σ S1 Z)<|Z σ
theorem si{t u:jy}(j:DT K X c tc)(ha:BN K X b a t)(m:BN K X b a' u):DS K X b (.If c a a' pos) (dIf tc t u):=
 ⟨λy=>(UA (j.of y) (ha.of y)<|m.of y).mono <| by rintro D τ H ⟨σ,S,De,Z,g,l,q,i,h⟩;exact
  ⟨σ,S,_,_,g,l,q,λc S1 H1 e s1 d=>by
   cases c with
   |true=>rw[qb rfl]at e⊢;exact{σ,S1,De,Z,g.ts d,s1,e,i.kp d,h.kp d}
   |false=>rw[qa zd]at e⊢;exact{σ,S1,De,Z,g.ts d,s1,e,i.kp d,h.kp d},h.at g⟩⟩
abbrev AF:=D->SD->ak->(SD->ak->η)->η
def Tg(K:Φ)(g:AF):TG:=λv τ H Q=>∃d σ S R,Rv K H d v/\iL K H σ τ/\Rs K S H/\g d σ S R/\OC K H R Q
structure DG(K:Φ)(X:Cx)(e:Δ)(g:AF):η where
 of:∀Y:Cx,Y.K=X.K->Y.N=X.N->Y.env=X.env->Y.fn=X.fn->Y.calm=X.calm->PG Y e (Tg K g)
theorem PG.mono{t t':TG}(h:PG X e t)(i:∀v τ H Q,t' v τ H Q->t v τ H Q):PG X e t':=λpins s τ H v u Q I r q=>h pins s τ H v u Q I r<|i v τ H Q q
def TK(i:π):AF:=λd σ S R=>R (σ.set i<|some d) S
theorem gn(c:X.N.Nodup)(hi:ψ (X.N[i]?=some x) qQJ)(hx:ψ (Loc X.env.scope x) qJ1)(hf:ψ (X.fn x=ϱ\/X.env.scope.names.lookup x=ϑ .local) qJQ):DG K X (.Name x pos) (TK i):=⟨λY _ e2 e3 e4 _=>(qP (X:=Y) (by rw[e2];exact c) (by rw[e2];exact hi) (by rw[e3];exact hx)<|by rw[e3,e4];exact hf).mono <| by rintro v τ H Q ⟨d,σ,S,R,e,h,a,q,g⟩;exact g _ S _ H q (h.set i e) a<|.refl _⟩
abbrev GH:=δ D->SD->ak->(SD->ak->η)->η
def Tgs(K:Φ)(g:GH):N9:=λvs τ H Q=>∃ds σ S R,RvAll K H ds vs/\iL K H σ τ/\Rs K S H/\g ds σ S R/\OC K H R Q
structure Yq(K:Φ)(X:Cx)(es:δ Δ)(g:GH):η where
 of:∀Y:Cx,Y.K=X.K->Y.N=X.N->Y.env=X.env->Y.fn=X.fn->Y.calm=X.calm->N_ Y es (Tgs K g)
theorem N_.mono{t t':N9}(h:N_ X e t)(i:∀v τ H Q,t' v τ H Q->t v τ H Q):N_ X e t':=λpins s τ H v u Q I r q=>h pins s τ H v u Q I r<|i v τ H Q q
def OD:GH:=λds σ S R=>ds=[]/\R σ S
def CQ(g:AF)(u:GH):GH:=λds σ S R=>∃d r,ds=d::r/\g d σ S λa S1=>u r a S1 R
theorem g0:Yq K X [] OD:=⟨λY _ _ _ _ _=>(Em (X:=Y)).mono <| by rintro vs τ H Q ⟨ds,σ,S,R,c,g,a,⟨e,q⟩,d⟩;exact by subst e;exact{c.nil,d _ _ _ _ q g a<|.refl _}⟩
theorem gc(h1:DG K X e g)(h2:Yq K X es u)(m:ψ (∀env:Env,(assignEach (e::es) env).map (·.2)=assign e env::(assignEach es env).map (·.2)) qQ0):Yq K X (e::es) (CQ g u):=⟨λY a b c d f=>(rL (h1.of Y a b c d f) (h2.of Y a b c d f)<|m _).mono <| by rintro vs τ H Q ⟨ds,σ,S,R,j,s,h,⟨d,r,e,q⟩,l⟩;subst e;obtain⟨y,ys,e1,n,o⟩:=j.cons;exact{y,ys,e1,d,σ,S,_,n,s,h,q,λp S1 t H1 i a b c=>{r,p,S1,R,RvAll.ts c _ o,a,b,i,l.kp c}}⟩
def OE(n:π)(g:GH):AF:=λd σ S R=>∃ds,d=.tup ds/\ds.length=n/\g ds σ S R
theorem gt(h:Yq K X es g)(hn:ψ (∀env:Env,(assignEach es env).length=n) qQ0)(i:ψ (∀env:Env,(assignEach es env).findIdx? (·.1)=ϐ) qQ0)(w:ψ (X.K=K) qQJ)(m:ψ (X.calm=ϱ) qQJ):DG K X (.Tuple es j pos) (OE n g):=⟨λY a b c d f=>(HZ (X:=Y) (by rw[f];exact m) (h.of Y a b c d f) (hn _)<|i _).mono <| by rintro v τ H Q ⟨d,σ,S,R,o,s,l,⟨ds,e,hl,q⟩,r⟩;subst e;obtain⟨p,xs,e1,e2,t⟩:=o.tup;exact{p,xs,e1,.of e2,by rw[t.len];exact hl,ds,σ,S,R,t,s,l,q,r}⟩
def Q9(i:π)(t:TD):jy:=λDe σ S Z=>t σ S (λd S1=>De.nx (σ.set i<|some d) S1)<|Z σ
theorem bR{t:TD}(l:X.N.Nodup)(h:DE K X e t)(hi:ψ (X.N[i]?=some x) qQJ)(hx:ψ (Loc X.env.scope x) qJ1)(m:ψ (swapsWith e (some<|.Name x pos') pos.line X.env=pure false) qQJ) (hf:ψ (X.fn x=ϱ\/X.env.scope.names.lookup x=ϑ .local) qJQ):DS K X b (.Assign [.Name x pos'] e pos) (Q9 i t):=⟨λy=>(PZ (X:=y.cx) (i:=i) l hi hx (h.of y) m hf).mono <| by rintro D τ H ⟨σ,S,De,Z,a,g,q,j,o⟩;exact{σ,S,_,_,a,g,q,λd S1 v H1 n p s1 c=>j.nx _ _ _ _ n ((a.ts c).set i p) s1 c,o.at a}⟩
def aaC(t:TD)(g:AF):jy:=λDe σ S Z=>t σ S (λd S1=>g d σ S1 De.nx)<|Z σ
theorem sa{t:TD}(h:DE K X e t)(hg:DG K X tg g)(l:ψ (swapsWithSole [tg] e pos.line X.env=pure false) qQJ)(hw:ψ (swappedStores [tg] e X.env=pure none) qQJ)(h1:ψ ((assignEach [tg] X.env).map (·.2)=[assign tg X.env]) qQJ): DS K X b (.Assign [tg] e pos) (aaC t g):=⟨λy=>(H9 (X:=y.cx) (h.of y) (hg.of _ rfl rfl rfl rfl rfl) l hw h1).mono <| by rintro D τ H ⟨σ,S,De,Z,a,i,q,j,n⟩;exact{σ,S,_,_,a,i,q,λd S1 v H1 m o s1 c=>{d,σ,S1,_,o,a.ts c,s1,m,j.nx.kp c},n.at a}⟩
def aaD(td ty tv:TD):jy:=λDe σ S Z=>tv σ S (λv S1=>td σ S1 (λx d=>ty σ d (λy c=>∃a kvs k,x=.ref a/\c a=ϑ (.cM kvs)/\CP y=ϑ k/\kvs.length<Ϙ/\De.nx σ (c.set a<|.cM<|dput kvs k v))<|Z σ)<|Z σ)<|Z σ
theorem sd{o i value:Δ}{td ty tv:TD}{pos':Pos}(hu:X.A.units+64<cLine)(ho:DE K X o td)(hi:DE K X i ty)(s:DE K X value tv)(C:ψ (swapsWith value (some<|.Subscript o i pos') pos.line X.env=pure false) qQJ):DS K X b (.Assign [.Subscript o i pos'] value pos) (aaD td ty tv):=
 ⟨λy=>(L9 (X:=y.cx) (by show X.A.units+1<cLine;lia) (ho.of y) (hi.of y) (s.of y) C).mono <| by rintro D τ H ⟨σ,S,De,Z,e,m,q,p,l⟩;exact
  ⟨σ,S,_,_,e,m,q,λv S1 n H1 E G s1 d=>⟨σ,S1,_,_,e.ts d,s1,E,λx B L H2 F r s2 g=>⟨σ,B,_,_,e.ts<|d.trans g,s2,F,by
   rintro y I J M ⟨a,kvs,k,e1,e2,e3,hl,w⟩ z j h
   subst e1
   obtain⟨vs,e4,t⟩:=j.cM e2
   have kk:=j.iK (o:=.dK<|putK vs k n) e2
   refine{a,_,(Rv.ts h _ r).ref,by rw[oA e3 z];exact Iy.k e4<|by rw[t.len];exact hl,?_}
   exact p.nx _ _ _ _ w (e.ts<|((d.trans g).trans h).trans kk) (j.put (c:=.cM _) e2 {_,aC,(t.put k<|Rv.ts (g.trans h) _ G).ts kk})<|((d.trans g).trans h).trans kk,l.on (d.trans g)<|e.ts<|d.trans g⟩,l.on d<|e.ts d⟩,l.at e⟩⟩
end
section
variable{X:Cx}{pins:δ (ε×Obj)}{σ:St}{H:Hp}{s:ζ}{A:ϕ}{E:ξ->ζ->η}{a:ε}{kvs:δ (Key×V)}{k:Key}{u:ξ}
theorem Q_(I:Inv X pins σ H s)(e:H a=ϑ (.dK kvs))(t:RelV (kV k) u)(j:RelV z r)(hl:kvs.length<Ϙ) (h1:∀v d s',gp kvs k=ϑ v->Inv X pins σ H s'->RelV v d->Q d s') (h2:gp kvs k=ϐ->∀s',Inv X pins σ (upd H a<|.dK<|putK kvs k z) s'->Q r s'): wpAny (model X.prog X.w) A (call (.builtin "dict.setdefault") [.ref a,u,r]) Q E s:=by
 obtain⟨n,hd,vs,rel,i⟩:=Ey I.aG e;have hp:=pM kvs k z;refine call_meetsIn PySem.F.slot_dict_setdefault i.typeIs PySem.F.entry_dict_setdefault (PySem.F.args_dict_setdefault_3 _ _ _) (PySem.kt_meets_setdefault (aD X.prog X.w) a (lC t) hd r) {vs,i,by rw[<-rel.length];exact n,λd hw=>?_,λhn h' h m=>?_};cases q:gp kvs k with|none=>(have:=gb.none_of (o:=valueAt vs k) (by rw[<-q];exact rel.val k);rw[this]at hw;cases hw)|some v=>obtain⟨p,g,c⟩:=gb.some_of (v:=v) (o:=valueAt vs k) (by rw[<-q];exact rel.val k);rw[g]at hw;cases hw;exact h1 v _ _ q (I.tok _) c
 cases q:gp kvs k with|some v=>(obtain⟨p,g,c⟩:=gb.some_of (v:=v) (o:=valueAt vs k) (by rw[<-q];exact rel.val k);rw[g]at hn;cases hn)|none=>have x:∃q,h'.get? a=ϑ q:=(by obtain⟨q,_,_,l,_⟩:=h;exact⟨q,l⟩);exact h2 q _<|wa I (by rw[e];exact True.intro) m x<|Ck (by lia) hd (rel.put k j) h
end
section
variable{X:Cx}{o e f:Δ}{apos aM:Pos}{td ty tx:TE}
def V_(td ty tx:TE):TE:=λσ H Q=>td σ H λx H1=>∃a,x=.ref a/\Tp H1 a/\ty σ H1 λy H2=>tx σ H2 λz c=>∃kvs k,c a=ϑ (.dK kvs)/\y=kV k/\kvs.length<Ϙ/\(∀v,gp kvs k=ϑ v->Q v c)/\(gp kvs k=ϐ->Q z (upd c a<|.dK<|putK kvs k z))
theorem Jd(ho:PE X o td)(M:PE X e ty)(hf:PE X f tx)(m:M2 X o "setdefault" apos e f aM):PE X (.Call (.Attribute o "setdefault" apos) [e,f] [] aM) (V_ td ty tx):=by intro pins s σ H Q I h;refine wpAny_Call_method m.base m.HE m.line PySem.F.plainAttrs_dict PySem.F.slot_dict_setdefault PySem.F.type_dict_setdefault<|bp (ho pins s σ H _ I h) λu s1 ⟨x,H1,g,E,a,ex,d,n⟩=>?_;subst ex;obtain rfl:u=Value.ref a:=E;obtain⟨p,t,_⟩:=wb g d;refine{p,t,?_};rw[m.trees];refine Calls.callWith_builtin rfl<|Calls.evalArgs_plain<|yO<|bp (M pins s1 σ H1 _ g n) λP s2 ⟨y,H2,w,B,A⟩=>yO<|bp (hf pins s2 σ H2 _ w A) λR O ⟨z,J,j,i,kvs,k,G,K,hl,C,q⟩=>Calls.spliced_nil ?_;subst K;exact Q_ j G B i hl (λv N L l c r=>{v,J,c,r,C v l}) λl L c=>{z,_,c,i,q l}
end
section
variable{K:Φ}{X:Cx}{b:χ}{o e f:Δ}{apos aM pos:Pos}{td ty tx:TD}
theorem wD(c:Rs K S H)(e:S a=ϑ (.cM kvs)):Tp H a:=by obtain⟨vs,e1,_⟩:=c.cM e;exact .inl {vs,.inl e1}
def Wa(td ty:TD):TD:=λσ S R Z=>td σ S (λx S1=>∃a kvs,x=.ref a/\S1 a=ϑ (.cM kvs)/\ty σ S1 (λy c=>∃kvs k,c a=ϑ (.cM kvs)/\CP y=ϑ k/\R ((bN kvs k).getD .ay) c) Z) Z
theorem Je(c:Rs K S H)(e:S a=ϑ (.cM kvs))(r:Rv K H d v):∃o,qw H a (kV k) o/\Rv K H ((bN kvs k).getD d) (o.getD v):=by obtain⟨o,g,h1,h2⟩:=wB (k:=k) c e;refine{o,g,?_};cases q:bN kvs k with|none=>(rw[q]at h1;cases o with|none=>exact r|some _=>cases h1)|some h=>obtain⟨j,rfl,i⟩:=h2 h q;exact i
theorem mg1(hu:X.A.units+64<cLine)(ho:DE K X o td)(v:DE K X e ty)(m:ψ (M1 X o "get" apos e aM) qQ4):DE K X (.Call (.Attribute o "get" apos) [e] [] aM) (Wa td ty):=
 ⟨λy=>(IC (X:=y.cx) (by show X.A.units+1<cLine;lia) (ho.of y) (v.of y) ⟨m.base,m.HE,m.line,m.trees⟩).mono <| by rintro τ H Q ⟨σ,S,R,Z,d,i,q,l,h⟩;exact
  ⟨σ,S,_,Z,d,i,q,by
   rintro x S1 z H1 ⟨a,kvs,e1,e2,n⟩ s s1 c
   subst e1
   exact⟨a,s.ref,wD s1 e2,σ,S1,_,Z,d.ts c,s1,n,by
    rintro y B w H2 ⟨kvs,k,e3,e4,p⟩ j s2 t
    obtain⟨o,g,r⟩:=Je (k:=k) s2 e3 jI
    exact{o,by rw[oA e4 j];exact g,(l.kp<|c.trans t).now s2 p r},h.kp c⟩,h⟩⟩
def Wb(td ty tx:TD):TD:=λσ S R Z=>td σ S (λx S1=>∃a kvs,x=.ref a/\S1 a=ϑ (.cM kvs)/\ty σ S1 (λy d=>tx σ d (λz c=>∃kvs k,c a=ϑ (.cM kvs)/\CP y=ϑ k/\R ((bN kvs k).getD z) c) Z) Z) Z
theorem mg2(hu:X.A.units+64<cLine)(ho:DE K X o td)(F:DE K X e ty)(hf:DE K X f tx)(m:ψ (M2 X o "get" apos e f aM) qQ4):DE K X (.Call (.Attribute o "get" apos) [e,f] [] aM) (Wb td ty tx):=
 ⟨λy=>(ID (X:=y.cx) (by show X.A.units+1<cLine;lia) (ho.of y) (F.of y) (hf.of y) ⟨m.base,m.HE,m.line,m.trees⟩).mono <| by rintro τ H Q ⟨σ,S,R,Z,d,l,q,p,h⟩;exact
  ⟨σ,S,_,Z,d,l,q,by
   rintro x S1 J H1 ⟨a,kvs,e1,e2,B⟩ E s1 c
   subst e1
   exact⟨a,E.ref,wD s1 e2,σ,S1,_,Z,d.ts c,s1,B,λy w I H2 C n s2 i=>⟨σ,w,_,Z,d.ts<|c.trans i,s2,C,by
    rintro z G M L ⟨kvs,k,e3,e4,s⟩ t j v
    obtain⟨o,g,r⟩:=Je (k:=k) j e3 t
    exact{o,by rw[oA e4 n];exact g,(p.kp<|(c.trans i).trans v).now j s r},h.kp<|c.trans i⟩,h.kp c⟩,h⟩⟩
def Wc(td ty:TD):TD:=λσ S R Z=>td σ S (λx S1=>∃a kvs,x=.ref a/\S1 a=ϑ (.cM kvs)/\ty σ S1 (λy c=>∃kvs k d,c a=ϑ (.cM kvs)/\CP y=ϑ k/\bN kvs k=ϑ d/\R d (c.set a<|.cM<|AB kvs k)) Z) Z
theorem mp1(ho:DE K X o td)(E:DE K X e ty)(m:ψ (M1 X o "pop" apos e aM) qQ4):DE K X (.Call (.Attribute o "pop" apos) [e] [] aM) (Wc td ty):=
 ⟨λy=>(IE (X:=y.cx) (ho.of y) (E.of y) ⟨m.base,m.HE,m.line,m.trees⟩).mono <| by rintro τ H Q ⟨σ,S,R,Z,h,j,q,n,i⟩;exact
  ⟨σ,S,_,Z,h,j,q,by
   rintro x S1 G H1 ⟨a,kvs,e1,e2,z⟩ B s1 g
   subst e1
   exact⟨a,B.ref,wD s1 e2,σ,S1,_,Z,h.ts g,s1,z,by
    rintro y I F H2 ⟨kvs,k,d,e3,e4,w,A⟩ l s2 C
    obtain⟨vs,p,t⟩:=s2.cM e3
    obtain⟨v,s,r⟩:=(t.val k).1 d w
    have kk:=s2.iK (o:=.dK<|pL vs k) e3
    exact{vs,k,v,p,oA e4 l,s,n _ _ _ _ A (Rv.ts kk _ r) (s2.put (c:=.cM _) e3 {_,aC,(t.drop k).ts kk})<|(g.trans C).trans kk},i.kp g⟩,i⟩⟩
def We(td ty tx:TD):TD:=λσ S R Z=>td σ S (λx S1=>∃a kvs,x=.ref a/\S1 a=ϑ (.cM kvs)/\ty σ S1 (λy e=>tx σ e (λz c=>∃kvs k,c a=ϑ (.cM kvs)/\CP y=ϑ k/\kvs.length<Ϙ/\(∀d,bN kvs k=ϑ d->R d c)/\(bN kvs k=ϐ->R z (c.set a<|.cM<|dput kvs k z))) Z) Z) Z
theorem ms2(ho:DE K X o td)(U:DE K X e ty)(hf:DE K X f tx)(m:ψ (M2 X o "setdefault" apos e f aM) qQ4):DE K X (.Call (.Attribute o "setdefault" apos) [e,f] [] aM) (We td ty tx):=
 ⟨λy=>(Jd (X:=y.cx) (ho.of y) (U.of y) (hf.of y) ⟨m.base,m.HE,m.line,m.trees⟩).mono <| by rintro τ H Q ⟨σ,S,R,Z,l,B,q,E,p⟩;exact
  ⟨σ,S,_,Z,l,B,q,by
   rintro x S1 xv H1 ⟨a,kvs,e1,e2,N⟩ P s1 h
   subst e1
   exact⟨a,P.ref,wD s1 e2,σ,S1,_,Z,l.ts h,s1,N,λy M yv H2 O C s2 r=>⟨σ,M,_,Z,l.ts<|h.trans r,s2,O,by
    rintro z Y L H3 ⟨kvs,k,e3,e4,hl,J,F⟩ w i A
    obtain⟨vs,G,t⟩:=i.cM e3
    have kk:=i.iK (o:=.dK<|putK vs k L) e3
    have g:=E.kp<|(h.trans r).trans A
    refine{vs,k,G,oA e4<|Rv.ts A _ C,by rw[t.len];exact hl,λv j=>?_,λhn=>?_}
    ·cases q:bN kvs k with
     |none=>rw[(t.val k).2 q]at j;cases j
     |some d =>
      obtain⟨I,n,s⟩:=(t.val k).1 d q
      rw[n]at j;cases j
      exact g.now i (J d q) s
    ·cases q:bN kvs k with
     |some d=>obtain⟨I,n,s⟩:=(t.val k).1 d q;rw[n]at hn;cases hn
     |none=>exact g _ _ _ _ (F q) (Rv.ts kk _ w) (i.put (c:=.cM _) e3 {_,aC,(t.put k w).ts kk}) kk,p.kp<|h.trans r⟩,p.kp h⟩,p⟩⟩
noncomputable def CT(f:ρ)(d:D):δ (ρ×D)->δ (ρ×D)|[]=>[(f,d)]| (g,x)::r=>if g=f then (g,d)::r else (g,x)::CT f d r
theorem b9.CT{H:Hp}{f:ρ}{d:D}{v:V}(a:Rv K H d v):∀{ks:δ (ρ×D)}{vs:δ (ρ×V)},b9 K H ks vs->b9 K H (CT f d ks) (putF f v vs)|_,_,.nil=>.cons ⟨rfl,a⟩ .nil| (g,x)::r,(g',y)::r',.cons h t=>by obtain⟨e,h⟩:=h;dsimp only at e;subst e;show b9 K H (if g=f then (g,d)::r else (g,x)::L2.CT f d r) (if g=f then (g,v)::r' else (g,y)::putF f v r');by_cases q:g=f;rw[qb q,qb q];exact .cons ⟨rfl,a⟩ t;rw[qa q,qa q];exact .cons ⟨rfl,h⟩<|b9.CT a t
def Wf(C:ε)(f:ρ)(ta tv:TD):jy:=λDe σ S Z=>tv σ S (λy S1=>ta σ S1 (λx c=>∃a fs,x=.ref a/\c a=ϑ (.ins C fs)/\fs.length<1000/\De.nx σ (c.set a<|.ins C<|CT f y fs))<|Z σ)<|Z σ
theorem sf{C:ε}{f:ρ}{value:Δ}{ta tv:TD}{pos':Pos}(c:qS K C)(n:jD K C f)(ha:DE K X o ta)(s:DE K X value tv)(t:ψ (swapsWith value (some<|.Attribute o f pos') pos.line X.env=pure false) qQJ)(r:ψ (X.K=K) qQJ): DS K X b (.Assign [.Attribute o f pos'] value pos) (Wf C f ta tv):=by
 subst r
 exact⟨λy=>(Qg (X:=y.cx) (ha.of y) (s.of y) t).mono <| by rintro D τ H ⟨σ,S,De,Z,d,j,q,l,i⟩;exact
  ⟨σ,S,_,_,d,j,q,λy S1 p H1 v z s1 e=>⟨σ,S1,_,_,d.ts e,s1,v,by
   rintro x B A H2 ⟨a,fs,e1,e2,hl,w⟩ m s2 g
   subst e1
   obtain⟨dx,vs,e4,h⟩:=s2.ins e2
   have kk:=s2.iK (o:=.ins C dx<|putF f p vs) e2
   exact{a,C,dx,vs,m.ref,e4,c,n,by rw[h.len];exact hl,l.nx _ _ _ _ w (d.ts<|(e.trans g).trans kk) (s2.put (c:=.ins C _) e2 {dx,_,aC,(b9.CT (Rv.ts g _ z) h).ts kk})<|(e.trans g).trans kk},i.on e<|d.ts e⟩,i.at d⟩⟩
def Rb(C:ε)(t:iE):jy:=λ_ σ S Z=>t σ S (λds S1=>ds.length<=Ϙ/\Z σ C S1)<|Z σ
end
section
variable{K:Φ}{X:Cx}{C:ε}{x:ρ}{e:Δ}{es:δ Δ}{np aM pos:Pos}
theorem GI{t:TA}{y:Ev X true}(J:X.calm=ϱ)(c:XC X.K C)(hg:Gl X x)(hm:X.mg x=ϑ (.ref C))(ha:PA y.cx (e::es) t)(U:(x==("__debug__": ρ))=ϰ) (G:starEach (e::es) X.env=(false,eval e X.env)::starEach es X.env) (Q:(backTo aM<|starEach es X.env).any (·.1)=ϰ): PS y.cx (.Raise (some<|.Call (.Name x np) (e::es) [] aM) none pos) (λ_ σ H=>t σ H λvs H1=>vs.length<=Ϙ/\y.E σ (.ref C) none H1):=by intro pins s σ H D I h;obtain⟨bm,N,B,q,bs,d,v,sub,l,g,m,o,w,A,p,j,n,L,S,P,T⟩:=c.at I.mod.Td;have R:bm.contains (.type "BaseException")=ϱ:=T.hasType (by decide);refine wpAny_Raise_call_subT (C:=C) (nm:=B) (q:=q) (N:=N) (bs:=bs) (bm:=bm) (hdct:=d) (sn:=v) (sub:=sub) (ab:=l) (col:=g) (dd:=m) (k0:=o) (k1:=w) (k2:=A) (k3:=p) (k5:=j) PySem.F.excBase_ValueError (mN:=n) R (I.ok.hd J) (by show((backTo aM<|starEach (e::es) X.env).any (·.1))=ϰ;rw[G];show(false||(backTo aM<|starEach es X.env).any (·.1))=ϰ;rw[Q];rfl) P<|mj I hg hm {rfl,?_} U;have h1:=ha aM pins s σ H _ I h;have M:starEach (e::es) y.cx.env=(false,eval e X.env)::starEach es X.env:=G;rw[M]at h1⊢;exact Calls.evalArgs_plain<|bp h1 <| by rintro us s2 ⟨vs,H2,i,r,z,O⟩;exact{rfl,by show us.length<=Ϙ;rw[<-r.length];exact z,i.bk _ _ L,S.keeps i.bk,T.keeps i.bk,λh' a hx=>y.ok.own rfl pins σ H2 s2 h' a _ _ i hx O}
theorem sra{t:iE}(c:XC K C)(hm:X.mg x=ϑ (.ref C))(ha:DA K X (e::es) t)(hg:ψ (Gl X x) qQJ)(n:ψ ((x==("__debug__": ρ))=ϰ) qQZ) (p:ψ (starEach (e::es) X.env=(false,eval e X.env)::starEach es X.env) qQJ) (i:ψ ((backTo aM<|starEach es X.env).any (·.1)=ϰ) qQJ) (g:ψ (X.calm=ϱ) qQJ) (o:ψ (X.K=K) qQJ): DS K X true (.Raise (some<|.Call (.Name x np) (e::es) [] aM) none pos) (Rb C t):=by subst o;exact⟨λy=>(GI (y:=y) g c hg hm (ha.of y) n p i).mono λD τ H ⟨σ,S,De,Z,a,h,q,r,d⟩=>{σ,S,_,_,a,h,q,λds S1 vs H1 ⟨hl,j⟩ l s1 m=>{by rw[l.len];exact hl,d.at a C S1 H1 j s1 m},d.at a}⟩
end
structure n8 where
 xs:δ D
 ok:ak->η
def Wh(K:Φ)(a:Hp)(J:It)(I:n8):Prop:=∀i S H,Kp K a H->Rs K S H->I.ok S->(∀d,I.xs[i]?=some d->J.go i H/\∀x H',J.UC i H x H'->Rv K H' d x/\Kp K H H'/\Rs K S H')/\(I.xs.length<=i->J.stop i H)
abbrev xY:=SD->ak->(n8->ak->η)->KX->η
def Ti(K:Φ)(E:St->XK)(t:xY):TI:=λτ H R=>∃σ S RI Z,iL K H σ τ/\Rs K S H/\t σ S RI Z/\(∀I S' J H',RI I S'->Wh K H' J I->Rs K S' H'->Kp K H H'->R J H')/\GC K H Z (E τ)
structure DI(K:Φ)(X:Cx)(tg it:Δ)(t:xY):η where
 of:∀{b:χ}(y:Ev X b),PI y.cx tg it<|Ti K y.E t
theorem PI.mono{t t':TI}(h:PI X tg it t)(i:∀τ H R,t' τ H R->t τ H R):PI X tg it t':=λpins s τ H R I q=>h pins s τ H R I<|i τ H R q
section
variable{K:Φ}{X:Cx}{tg l:Δ}
def aaE(t:TD):xY:=λσ S R Z=>t σ S (λx S1=>∃ds,qX S1 x ds/\R {ds,λS=>qX S x ds} S1) Z
theorem il{t:TD}(h:DE K X l t)(p:ψ (X.K=K) qQJ):DI K X tg l (aaE t):=by subst p;exact⟨λy=>(LN (X:=y.cx)<|h.of y).mono <| by rintro τ H R ⟨σ,S,RI,Z,s,j,q,o,z⟩;exact{σ,S,_,Z,s,j,q,by rintro x S1 v H1 ⟨ds,h1,w⟩ g s1 A;obtain⟨a,xs,rfl,m,t⟩:=h1.at s1 g;refine{a,rfl,⟨xs,m⟩,o _ S1 _ H1 w (λi F H2 B s2 n=>?_) s1 A};obtain⟨E,GJ,e',c,e⟩:=qX.at n s2<|Rv.ts B _ g;cases e';refine{λd hd=>?_,λhl=>{GJ,c,by rw[e.len];exact hl}};obtain⟨v,e1,r⟩:=e.get hd;refine{⟨GJ,v,c,e1⟩,λC H' ⟨e2,e3⟩=>?_};subst e2;have:=e3 GJ c;rw[e1]at this;cases this;exact{r,.refl _,s2},z}⟩
def Wi(t:TD):xY:=λσ S R Z=>t σ S (λx S1=>∃ds,(x=.tup ds\/x=.kt ds)/\R {ds,λ_=>True} S1) Z
theorem Rf{H:Hp}{x:D}{ds:δ D}{v:V}(h:x=.tup ds\/x=.kt ds)(r:Rv K H x v):∃a xs,v=.ref a/\(∀H',Kp K H H'->gW K H' a xs)/\RvAll K H ds xs:=by rcases h with rfl|rfl;obtain⟨a,xs,rfl,q,t⟩:=r.tup;exact{a,xs,rfl,λH' k=>.of<|k.t _ _ q,t};obtain⟨a,xs,rfl,q,t⟩:=r.kt;exact{a,xs,rfl,λH' k=>.inr q,t}
theorem HM{t:TD}(h:DE K X l t)(n:ψ (X.K=K) qQJ):DI K X tg l (Wi t):=by subst n;exact⟨λy=>(P5 (X:=y.cx)<|h.of y).mono <| by rintro τ H R ⟨σ,S,RI,Z,o,j,q,m,s⟩;exact{σ,S,_,Z,o,j,q,by rintro x S1 v H1 ⟨ds,h1,p⟩ z s1 w;obtain⟨a,xs,rfl,e,t⟩:=Rf h1 z;refine{a,rfl,{xs,e _<|.refl _},m _ S1 _ H1 p (λi B H2 g s2 _=>?_) s1 w};have c:=e H2 g;refine{λd hd=>?_,λhl=>{xs,c,by rw[t.len];exact hl}};obtain⟨v,e1,r⟩:=(RvAll.ts g _ t).get hd;refine{⟨xs,v,c,e1⟩,λA H' ⟨e2,e3⟩=>?_};subst e2;have:=e3 xs c;rw[e1]at this;cases this;exact{r,.refl _,s2},s}⟩
noncomputable def eV(lo:ν)(n:π):δ D:=(List.range n).map λi=>D.int<|lo+(i:π)
theorem cQ{lo:ν}{n:π} : (eV lo n).length=n:=by unfold eV;rw[zb,List.length_range]
theorem dw{lo:ν}{n i:π}{d:D}(h:(eV lo n)[i]?=some d):i<n/\d=.int (lo+i):=by unfold eV at h;rw[zm]at h;by_cases q:i<n;rw[List.getElem?_range q]at h;exact{q,(zT h).symm};rw[List.getElem?_eq_none<|by rw[List.length_range];omega]at h;cases h
theorem Rh{a:Hp}{lo:ν}{n:π} : Wh K a (X9 lo n) {eV lo n,λ_=>True}:=λi S H k s _=>{λd hd=>by obtain⟨h1,rfl⟩:=dw hd;exact{h1,by rintro x H' ⟨e1,e2⟩;exact by subst e1 e2;exact{aN _,.refl _,s}},λhl=>by rw[cQ]at hl;exact hl}
def aaF(t:iE):xY:=λσ S R Z=>t σ S (λds S1=>∃j:ν,ds=[.int j]/\-(2^62)<=j/\j<2^62/\R {eV 0 j.toNat,λ_=>True} S1) Z
theorem MN{t:iE}(hm:X.mg "range"= none)(ha:DA K X [a] t)(hg:ψ (Gl X "range") qQJ)(h:ψ (starEach [a] X.env=[(false,eval a X.env)]) qQJ):DI K X tg (.Call (.Name "range" p) [a] [] pos) (aaF t):=⟨λy=>(FR (X:=y.cx) hg hm (ha.of y) h).mono <| by rintro τ H R ⟨σ,S,RI,Z,n,c,q,d,l⟩;exact{σ,S,_,Z,n,c,q,by rintro ds S1 vs H1 ⟨j,e,h1,h2,g⟩ i s1 m;subst e;obtain⟨v,rfl,r⟩:=i.one;exact{j,by rw[r.int],h1,h2,d _ S1 _ H1 g Rh s1 m},l}⟩
end
section
variable{K:Φ}{X:Cx}{tg iter:Δ}{pos:Pos}
def aaG(ti:xY)(g:AF)(tb:jy):jy:=λDe σ S Z=>ti σ S (λI S1=>∃P:π->SD->ak->η,P 0 σ S1/\(∀i σ S,P i σ S->I.ok S)/\(∀i d σ S,I.xs[i]?=some d->P i σ S->g d σ S λc a=>tb {De with nx:=P<|i+1,ct:=P<|i+1,bk:=De.nx} c a Z)/\∀σ S,P I.xs.length σ S->De.nx σ S)<|Z σ
theorem AG(hi:DI K X tg iter ti)(hg:DG K X tg g)(M:BN K X true body tb)(R:ψ (∀x,foldedSetIterable iter X.env x=pure x) qQ0)(Y:ψ (X.calm=ϱ) qQJ):DS K X true (.For tg iter body [] pos) (aaG ti g tb):=
 ⟨λy=>(P6 (X:=y.cx) (y.ok.loop rfl) Y (hi.of y) (hg.of _ rfl rfl rfl rfl rfl) (M.of y) R).mono <| by rintro D τ H ⟨σ,S,De,Z,h,E,q,p,B⟩;exact
  ⟨σ,S,_,_,h,E,q,by
   rintro I S1 J H1 ⟨P,L,w,s,pend⟩ G s1 a
   refine{λi m τ H=>m=I.xs.length-i/\i<=I.xs.length/\∃σ S,iL K H σ τ/\Rs K S H/\P i σ S/\Kp K H1 H,!{yb _,σ,S1,h.ts a,s1,L,.refl _},?_}
   rintro i m τ2 H2 ⟨rfl,Wj,C,n,z,s2,p2,o⟩
   have ok:=G i n H2 o s2<|w _ _ _ p2
   by_cases c:i<I.xs.length
   ·obtain⟨go,yl⟩:=ok.1 _ (zf c)
    refine .inr {go,λTF H'=>i+1<=I.xs.length/\∃σ S,iL K H' σ TF/\Rs K S H'/\P (i+1) σ S/\Kp K H1 H',λav H' h'=>{_,by omega,rfl,h'},λx H' F=>?_}
    obtain⟨rx,A,s3⟩:=yl x H' F
    refine{_,C,n,_,rx,z.ts A,s3,s i _ C n (zf c) p2,λYs O τ4 H4 N a4 U Q=>?_}
    have kk:=(o.trans A).trans Q
    exact{Ys,O,_,Z,a4,U,N,{λt j τ5 H5 v l r d=>{c,t,j,l,r,v,kk.trans d},p.rt.kp<|a.trans kk,(p.nx.kp<|a.trans kk),λt j τ5 H5 v l r d=>{c,t,j,l,r,v,kk.trans d}},B.kp<|a.trans kk}
   ·have e:i=I.xs.length:=by omega
    subst e
    exact .inl {ok.2<|zk _,p.nx _ _ _ _ (pend _ _ p2) z s2<|a.trans o},B.at h⟩⟩
end
noncomputable def mE(σ:SD)(src:δ<|θ π):SD:=src.map λo=>match o with|some j=>(σ[j]?).join|none=>none
theorem iL.pick{K:Φ}{H:Hp}{σ:SD}{τ:St}(h:iL K H σ τ):∀src:δ (θ π),iL K H (mE σ src) (pick τ src)|[]=>.nil|o::r=>.cons (λd e=>by cases o with|none=>(cases e)|some j=>dsimp only at e⊢;cases q:σ[j]? with|none=>(rw[q]at e;cases e)|some o'=>rw[q]at e;obtain rfl:o'=ϑ d:=e;obtain⟨v,e1,a⟩:=h.get q;exact{v,by rw[e1];rfl,a})<|iL.pick h r
def Zf:KX:=λ_ _=>False
def AH(σ:SD)(src:δ<|θ π)(g:AF)(tc:kW)(te:TD)(R:KD)(I:n8)(S1:ak):Prop:=∃P:π->δ D->ak->η,P 0 [] S1/\(∀i out S,P i out S->I.ok S)/\(∀i d out S,I.xs[i]?=some d->P i out S->out.length<Ϙ/\g d (mE σ src) S λc h=>tc c h (λb a=>if b=ϱ then te c a (λv e=>P (i+1) (out++[v]) e) Zf else P (i+1) out a) Zf)/\∀out S2,P I.xs.length out S2->∀p,S2 p=ϐ->R (.ref p) (S2.set p<|.lst out)
def vg(ti:xY)(src:δ<|θ π)(g:AF)(tc:kW)(te:TD):TD:=λσ S R Z=>ti σ S (λI S1=>AH σ src g tc te R I S1) Z
theorem GC.f{K:Φ}{H:Hp}{e:XK} : GC K H Zf e:=λ_ _ _ z=>z.elim
theorem T.comp{K:Φ}{E E':St->XK}{ti:xY}{src:δ<|θ π}{g:TG}{gd:AF}{tc:kW}{te:TD}{τ:St}{H:Hp}{Q:VK}(hg:∀v τ H Q,Tg K gd v τ H Q->g v τ H Q) (h:T K E (vg ti src gd tc te) τ H Q):IG (Ti K E ti) src g (Tt K E' tc) (T K E' te) τ H Q:=by
 obtain⟨σ,S,R,Z,A,M,q,hR,hZ⟩:=h;refine{σ,S,_,Z,A,M,q,λI S1 J H1 ⟨P,U,y,w,pend⟩ O s1 L=>?_,hZ};refine{λi m out H=>m=I.xs.length-i/\i<=I.xs.length/\∃ds S,RvAll K H ds out/\Rs K S H/\P i ds S/\Kp K H1 H,!{yb _,[],S1,bu,s1,U,.refl _},?_};rintro i m out H2 ⟨rfl,Wj,ds,t,n,s2,p2,j⟩;have ok:=O i t H2 j s2<|y _ _ _ p2;by_cases r:i<I.xs.length;obtain⟨go,yl⟩:=ok.1 _<|zf r;obtain⟨hz,st⟩:=w i _ ds t (zf r) p2;refine .inr {go,by rw[n.len];exact hz,λx H' N=>?_};obtain⟨rx,l,s3⟩:=yl x H' N;refine hg _ _ _ _ {_,_,t,_,rx,(((A.ts L).ts j).ts l).pick src,s3,st,λC S4 τ4 H4 X G s4 o=>?_};refine{C,S4,_,Zf,G,s4,X,λc B H5 s F a=>?_,.f};cases c with|true=>rw[qb rfl]at s⊢;exact{C,B,_,Zf,G.ts a,F,s,λd S6 v H6 Y v6 s6 z=>{_,by omega,rfl,r,ds++[d],S6,(RvAll.ts (((l.trans o).trans a).trans z) _ n).app<|aO v6 bu,s6,Y,(((j.trans l).trans o).trans a).trans z},.f}|false=>rw[qa zd]at s⊢;exact{_,by omega,rfl,r,ds,B,RvAll.ts ((l.trans o).trans a) _ n,F,s,((j.trans l).trans o).trans a}
 have e:i=I.xs.length:=by omega
 subst e;exact .inl {ok.2<|zk _,λp hp=>(hR.kp<|L.trans j).new s2 hp (pend _ _ p2 p) n}
noncomputable def Ev.none(X:Cx)(h:X.xe=λ_ _=>False):Ev X false:={X.pn,X.xe,λ_=>E0,{by rintro p2 τ H s e s' _ ⟨_,_,_,_,_,_,_,_,_,z⟩;exact z.elim,λe=>(by cases e),λe=>(by cases e)}}
section
variable{K:Φ}{X:Cx}{b:χ}{N:δ ρ}{src:δ (θ π)}{scope:Scope}{tg iter elt:Δ}{ifs:δ Δ}{pos:Pos}{ti:xY}{g:TG}{gd:AF}{tc:kW}{te:TD}
structure TM(K:Φ)(X:Cx)(ifs:δ Δ)(t:kW):η where
 of:∀{b:χ}(y:Ev X b),Tq y.cx ifs<|Tt K y.E t
def mF:kW:=λ_ S R _=>R true S
theorem qZ:TM K X [] mF:=⟨λy pins s τ H Q I ⟨σ,S,R,Z,e,a,q,c,d⟩=>Mc pins s τ H Q I<|c true S H q a<|.refl _⟩
theorem if1{t:kW}(h:DT K X c t):TM K X [c] t:=⟨λy=>Md<|h.of y⟩
theorem TN(S:bj X N src scope)(a:DI K X tg iter ti)(hg:∀C s H ex pn,PG (gw X N scope C s H ex pn) tg g)(hx:Co g src)(c:∀v τ H Q,Tg K gd v τ H Q->g v τ H Q) (hi:∀C s H ex pn,TM K (gw X N scope C s H ex pn) ifs tc) (i:∀C s H ex pn,DE K (gw X N scope C s H ex pn) elt te) (e:ψ (∀x,foldedSetIterable iter X.env x=pure x) qQ0) (d:ψ (X.calm=ϱ) qQJ):DE K X (.ListComp elt [{tg,iter,ifs,0}] scope pos) (vg ti src gd tc te):=⟨λy=>(Mf (X:=y.cx) (tc:=Tt K (λ_=>E0) tc) (te:=T K (λ_=>E0) te) ⟨S.kind,S.gL,S.loc,S.BL,S.len,S.src⟩ d (a.of y) hg hx (λC s H ex pn=>(hi C s H ex pn).of<|.none _ rfl) (λC s H ex pn=>(i C s H ex pn).of<|.none _ rfl) e).mono λ_ _ _ h=>h.comp c⟩
theorem stc(r:X.N.Nodup)(S:bj X N src scope)(a:DI K X tg iter ti)(hg:∀C s H ex pn,PG (gw X N scope C s H ex pn) tg g)(hx:Co g src)(e:∀v τ H Q,Tg K gd v τ H Q->g v τ H Q) (hi:∀C s H ex pn,TM K (gw X N scope C s H ex pn) ifs tc) (B:∀C s H ex pn,DE K (gw X N scope C s H ex pn) elt te) (p:ψ (X.N[i]?=some x) qQJ) (o:ψ (X.env.scope.names.lookup x=ϑ .local) qQJ) (m:ψ (swapsWith (.ListComp elt [{tg,iter,ifs,0}] scope pos) (some<|.Name x pos') Gq.line X.env=pure true) qQJ) (t:ψ (∀x,foldedSetIterable iter X.env x=pure x) qQ0) (j:ψ (X.calm=ϱ) qQJ):DS K X b (.Assign [.Name x pos'] (.ListComp elt [{tg,iter,ifs,0}] scope pos) Gq) (Q9 i<|vg ti src gd tc te):=⟨λy=>(Cp (X:=y.cx) (i:=i) (tc:=Tt K (λ_=>E0) tc) (te:=T K (λ_=>E0) te) r p o ⟨S.kind,S.gL,S.loc,S.BL,S.len,S.src⟩ j (a.of y) hg hx (λC s H ex pn=>(hi C s H ex pn).of<|.none _ rfl) (λC s H ex pn=>(B C s H ex pn).of<|.none _ rfl) m t).mono <| by rintro D τ H ⟨σ,S,De,Z,c,l,q,n,z⟩;exact T.comp e {σ,S,_,_,c,l,q,λd S1 v H1 w A s1 h=>n.nx _ _ _ _ w ((c.ts h).set i A) s1 h,z.at c}⟩
theorem EM:∀v τ H Q,Tg K (TK i) v τ H Q->jd i v τ H Q:=by rintro v τ H Q ⟨d,σ,S,R,c,g,a,q,e⟩;exact e _ S _ H q (g.set i c) a<|.refl _
end
structure wF(K:Φ)(x qual:ρ)(st:Stmt)(f:ε)(fd:FuncData):η where
 ex:∃(oc:ξ)(od:θ ε)(dV kV doc pm:ξ)(an:θ ε)(gv ct:ξ)(Ql:Array (θ ξ)),
  fd=fnOf x qual (bG st) (bx st) (aj st) dV kV doc pm an gv ct/\K.lookup f=ϑ {oc,od,.func fd,Ql}/\codeIn K gv qual=ϱ
noncomputable def jM(N:δ ρ)(ds:δ D):SD:=ds.map some++List.replicate (N.length-ds.length) none
section
variable{P:Ψ}{w:Ω}{K:Φ}{mg:ρ->θ ξ}{base:Γ}
theorem wF.okD{x qual:ρ}{st:Stmt}{f:ε}{fd:FuncData}{N ps:δ ρ}{k:π}{sp:qY}(F:wF K x qual st f fd)(S:gu N ps<|aj st)(len:∀ds S R Z,sp ds S R Z->ds.length=ps.length) (l:∀(gv:ξ)(A:ϕ)(outer:δ Env)(s:ζ)(H:Hp)(E:XK)(ds:δ D)(S:ak)(R:KD)(Z:KX),bX k (A.deeper<|envOfC qual (aj st) s.heap.objs.size f gv)->sp ds S R Z->∃t,BN K (kT (f_ P w mg) P w K mg base N qual (aj st) f gv A outer s H E) true (bx st) t/\t {nx:=λ_ S'=>R .ay S',rt:=R} (jM N ds) S λ_=>Z):bS P w K mg base (f_ P w mg) (k+1) f fd ps (ud K sp):=by
 obtain⟨oc,od,dV,kV,doc,pm,an,gv,ct,Ql,rfl,lk,j⟩:=F.ex;have o:ps.length<=N.length:=by have:=congrArg List.length S.pre;rw[zE]at this;lia
 refine Of lk j S (by rintro vs H Q E ⟨ds,S',R,Z,v,_,h,_⟩;exact by rw[v.len];exact len _ _ _ _ h) λA outer s H vs Q E hr ⟨ds,S',R,Z,v,g,h,d,m⟩=>?_;obtain⟨t,i,q⟩:=l gv A outer s H E ds S' R Z hr h;have L:df (kT (f_ P w mg) P w K mg base N qual (aj st) f gv A outer s H E) E:=vd;let y:Ev (kT (f_ P w mg) P w K mg base N qual (aj st) f gv A outer s H E) true:={_,(kT (f_ P w mg) P w K mg base N qual (aj st) f gv A outer s H E).xe,λ_=>E,{λp2 τ H1 s1 e s' I h=>Oo L p2 τ H1 s1 e s' I h,λ_ p2 τ H1 s1 h' a cls args I hx n=>pO L I hx n,λ_=>PassesOwn.leaving}};refine{Tl K (λ_=>E) t,i.of y,jM N ds,S',_,λ_=>Z,?_,g,q,{λσ S1 τ H1 r a b c=>d.kp c |>.now b r jI,d,λ_ _ _ _ z=>z.elim,λ_ _ _ _ z=>z.elim},λσ τ C S1 H1 z a b c=>m C S1 H1 z b c};unfold jM start;refine(sA v).app ?_;rw[v.len];exact sy _ _<|by rw[List.length_replicate]
theorem bS.Wk(F:bS P w K mg base (f_ P w mg) k f fd ps<|ud K sp)(h:∀ds S R Z,Ya ds S R Z->sp ds S R Z):bS P w K mg base (f_ P w mg) k f fd ps (ud K Ya):=F.imp <| by rintro vs H Q E ⟨ds,S,R,Z,a,b,c,d⟩;exact{ds,S,R,Z,a,b,h _ _ _ _ c,d}
theorem bS.calm(F:bS P w K mg base (f_ P w mg) k f fd ps sp):bS P w K mg base Ye k f fd ps λvs H Q _=>sp vs H Q E0:=by refine{λvs H Q E h=>F.len vs H Q E0 h,λA outer s H args us vs Q E hr c d r h=>y6 (F.run A outer s H args us vs Q E0 hr c d r h) λa s' q=>?_};cases a with|error e=>(obtain⟨_,_,_,_,_,_,_,_,_,z⟩:=q;exact z.elim)|ok fl=>cases fl<;>exact q
end
section
variable{K:Φ}{X:Cx}{body:δ Stmt}
theorem Jf{t:jy}(h:BN K X false body t):Vv X body (λE=>Tl K E t):=by intro pins s σ H D E I q;let y:Ev X false:={X.pn++pins,XE X pins E,E,{λp2 τ H1 s1 e s' a d=>{τ,H1,s1,{⟨a.ok.mod,a.ok.kind,a.ok.glob,a.ok.blt,a.ok.above,a.ok.inj,a.ok.has,a.ok.Px,a.ok.hd,a.ok.frames,a.ok.Te,a.ok.X4,a.ok.bs,a.ok.FL,a.ok.BR,a.ok.FN,a.ok.kR,a.ok.HV⟩,a.os,a.bare,a.base,a.loc,a.cell,a.free,a.dS,λp hp=>a.pin p<|yi _ hp,a.aG,a.len},d},λe=>(by cases e),λe=>(by cases e)}};have back:∀{av:St}{H':Hp}{s':ζ},Inv y.cx [] av H' s'->Inv X pins av H' s':=λa=>{⟨a.ok.mod,a.ok.kind,a.ok.glob,a.ok.blt,a.ok.above,a.ok.inj,a.ok.has,a.ok.Px,a.ok.hd,a.ok.frames,a.ok.Te,a.ok.X4,a.ok.bs,a.ok.FL,a.ok.BR,a.ok.FN,a.ok.kR,a.ok.HV⟩,a.os,a.bare,a.base,a.loc,a.cell,a.free,a.dS,λp hp=>a.pin p<|yi _ hp,a.aG,a.len};have g:Inv y.cx [] σ H s:={⟨I.ok.mod,I.ok.kind,I.ok.glob,I.ok.blt,I.ok.above,I.ok.inj,I.ok.has,I.ok.Px,I.ok.hd,I.ok.frames,I.ok.Te,I.ok.X4,I.ok.bs,I.ok.FL,I.ok.BR,I.ok.FN,I.ok.kR,I.ok.HV⟩,I.os,I.bare,I.base,I.loc,I.cell,I.free,I.dS,λp hp=>I.pin p<|by rw[List.append_nil]at hp;exact hp,I.aG,I.len};refine yz (h.of y [] s σ H D g q) (λf s' r=>?_) λ_ _ r=>r;cases f with|next=>(obtain⟨av,H',c,q⟩:=r;exact{av,H',back c,q})|brk=>(obtain⟨av,H',c,q⟩:=r;exact{av,H',back c,q})|cont=>(obtain⟨av,H',c,q⟩:=r;exact{av,H',back c,q})|ret u=>obtain⟨v,av,H',c,i,q⟩:=r;exact{v,av,H',back c,i,q}
end
theorem vh{P:Ψ}{w:Ω} : ∀{ss:δ ρ}{vs:δ ξ},vs.length=ss.length->(∀(j:π)(v:ξ),vs[j]?=some v->∃x,ss[j]?=some x/\keyIs (.inr x) v=ϱ)->StrsAre vs ss|[],[],_,_=>.nil|[],_::_,h,_=>by simp at h|_::_,[],h,_=>by simp at h|x::ss,v::vs,h,k=>by obtain⟨x',e,q⟩:=k 0 v rfl;cases e;rcases bA q with⟨i,t,e,_⟩|⟨y,t,e,rfl⟩;cases e;cases e;exact .cons x t<|vh (P:=P) (w:=w) (by simpa using h) λj v e=>k (j+1) v<|by simpa using e
theorem vi:∀{vs:δ ξ}{ss:δ ρ},StrsAre vs ss->Vals (ss.map V.str) vs|_,_,.nil=>.nil|_,_,.cons y t h=>.cons ⟨t,rfl⟩<|vi h
theorem KV.aaL{κ:Type}{kvs:δ<|κ×V}{vs:δ<|κ×ξ}(h:KV kvs vs):vs.map (·.1)=kvs.map (·.1):=by unfold KV at h;induction h with|nil=>rfl|cons r t a=>rw[zA,zA,a,r.1]
theorem Jg{prog:Ψ}{w:Ω}{A:ϕ}{E:ξ->ζ->η}{s:ζ}{T:String}{r d:ε}{n:π}{P:π->ξ->η}{p:Γ->η}{R:δ ξ->ζ->η}(K:PySem.W.KdlSrc prog w T r d n P p)(z:A.handled=ϐ)(aG:p s.heap)(hn:n<=Ϙ) (h:∀(h':Γ) (tk:π) (i:Array ξ),(∀b o,s.heap.get? b=ϑ o->h'.get? b=ϑ o)->s.heap.objs.size<=h'.objs.size->ItemsOf P i n->R i.toList {s with heap:=h',toks:=tk}): wpAny (model prog w) A (collect<|.ref r) R E s:=by have t:=K.there _ aG;unfold collect;refine zc<|wpAny_runValue<|yW entry_proto_collect' ?_;rw[Around.under_plainId PySem.F.plain_proto_collect _];show wpAny _ A.in1 (newList [] >>=λl=>again<|.builtin "list.__iadd__" {[l,.ref r],[]}) _ _ s;refine zc<|yK ?_;refine zB {plainId_quiet PySem.F.plain_list_iadd _,yW entry_list_iadd' ?_};rw[Around.under_plainId PySem.F.plain_list_iadd _];have v:(s.heap.push {cls:=.type "list",data:=.seq ([]:δ ξ).toArray}).get? s.heap.objs.size=ϑ {cls:=.type "list",data:=.seq #[]}:=zp _ rfl;show wpAny _ A.in1 (Builtin.List.listExtendWith (.ref s.heap.objs.size) (.ref r)<|.ref s.heap.objs.size) _ _ _;have key:=PySem.W.kdl_extend (A:=A) (s:={s with heap:=s.heap.push {cls:=.type "list",data:=.seq ([]:δ ξ).toArray}}) (R:=λ(q:Result) (s':ζ)=>∃(h':Γ) (tk:π) (a:Array ξ) (g:π),q=.ok (.ret<|.ref s.heap.objs.size)/\s'={s with heap:=h',toks:=tk}/\(∀b o,s.heap.get? b=ϑ o->h'.get? b=ϑ o)/\h'.get? s.heap.objs.size=ϑ {cls:=.type "list",dict:=none,data:=.seq a g,slots:=#[]}/\ItemsOf P a n) K z (K.keep _ _ aG λb _ o e=>za _ e) s.heap.objs.size (yw t.1) (yw t.2) (.ref s.heap.objs.size) 0 v (λh' tk a g hk c j=>{h',tk,a,g,rfl,rfl,λb o e=>hk b o (zC<|zu e)<|za _ e,c,j}) hn;refine yz key (λm s' x=>?_) λe s' x=>?_;{cases m with|done f=>(obtain⟨h',tk,a,g,e,rfl,hk,c,j⟩:=x;cases e;show wpAny _ A (load s.heap.objs.size >>=_) _ _ _;exact zc<|wpAny_load c<|zB<|h h' tk a hk (yR<|zu c) j)|again B=>refine{x.1,y6 x.2 λq C y=>?_};obtain⟨h',tk,a,g,rfl,rfl,hk,c,j⟩:=y;show wpAny _ A (load s.heap.objs.size >>=_) _ _ _;exact zc<|wpAny_load c<|zB<|h h' tk a hk (yR<|zu c) j};obtain⟨_,_,_,_,e',_⟩:=x;cases e'
theorem wG{X:Cx}(U:X.calm=ϱ):eU X (.builtin "sorted") (λxs H Q=>∃(a:ε)(kvs:δ (Key×V))(ss:δ ρ),xs=[.ref a]/\H a=ϑ (.dK kvs)/\kvs.map (·.1)=ss.map Sum.inr/\kvs.length<64/\∀d,d.Perm ss->sortedS d=ϱ->∀l,H l=ϐ->Q (.ref l) (upd H l<|.lst<|d.map V.str)):=by
 intro pins s σ H xs us Q I r h;obtain⟨a,kvs,ss,rfl,e,hk,hl,q⟩:=h;obtain⟨u,rfl,Z⟩:=vals1 r;cases Z;obtain⟨z,hd,vs,rel,N⟩:=Ey I.aG e;obtain⟨ep,M⟩:=N.dictAt;have hlen:vs.length<64:=by rw[<-rel.length];exact hl
 have S:=I.ok.hd U;refine PySem.Calls.call_function_entry kind_sorted plain_sorted entry_sorted (args_sorted1 _) ?_;unfold Builtin.«sorted»;refine zc (m:=checkCount "sorted" 1 1 _)<|zB ?_;refine zc<|Jg (A:=X.A.in1) (PySem.W.kdl_dict (knd:=aD X.prog X.w) (kvs:=vs) (ep:=ep) hd) S M (by rw[yf];omega) λh' tk c g G J=>?_;have t:c.toList.length=vs.length:=by rw[yh];exact J.1
 refine zc<|wpAny_newList ?_ (by rw[t,yf];omega);have i:StrsAre c.toList ss:=by have C:=rel.aaL;refine vh (P:=X.prog) (w:=X.w) (by rw[t,<-rel.length];have:=congrArg List.length hk;simpa using this) λj v L=>?_;obtain⟨k,x,e1,e2⟩:=J.2 j v (by rw[<-Array.getElem?_toList];exact L);have e3:(vs.map (·.1))[j]?=some k:=(by rw[zm,e1];rfl);rw[C,hk,zm]at e3;cases E:ss[j]? with|none=>(rw[E]at e3;cases e3)|some y=>rw[E]at e3;cases e3;exact⟨y,rfl,e2⟩
 have p:(h'.push<|seqObj "list" c.toList.toArray 0).get? h'.objs.size=ϑ (seqObj "list" c.toList.toArray 0):=zp _ rfl;show wpAny _ _ _ _ _ {s with heap:=h'.push<|seqObj "list" c.toList.toArray 0,toks:=tk};refine zc<|yS<|yU slot_list_sort {_,p,rfl} entry_list_sort (list_sort_treeK (s:={s with heap:=h'.push<|seqObj "list" c.toList.toArray 0,toks:=tk}) strKind_oneLt p i.keysOf (λoB oE rest e=>keyKind_strs<|by rw[<-e];exact i) (by rw[t];exact hlen) λe_ hp R=>!⟨?_⟩)<|args_list_sort _;refine zB !⟨?_⟩;obtain⟨d,h1,h2,O⟩:=sorted_out_str i hp R;obtain⟨e1,B⟩:=sortedHeap_at (vs:=c.toList) (n:=0) (out:=(arrOf e_).map (·.2)) p;have Y:d.length<=sizeLine:=by rw[h2.length_eq,yf];have:=congrArg List.length hk;rw[zb,zb]at this;omega
 refine{.ref h'.objs.size,_,I.laid (a:=h'.objs.size) (o:=.lst<|d.map V.str) (λb u F=>?_) G {by rw[zb];exact Y,_,e1,vi h1,B},rfl,q d h2 O _<|I.aG.fresh G};have K:=zu<|g b u F;rw[sortedHeap_old (zC K)<|by rw[yg];exact Nat.lt_succ_of_lt K,za _<|g b u F]
section
variable{K:Φ}
def MO:δ D->ak->KD->Prop:=λds S R=>∃(a:ε)(kvs:δ (Key×D))(ss:δ ρ),ds=[.ref a]/\S a=ϑ (.cM kvs)/\kvs.map (·.1)=ss.map Sum.inr/\kvs.length<64/\∀EN,EN.Perm ss->sortedS EN=ϱ->∀p,S p=ϐ->R (.ref p) (S.set p<|.lst<|EN.map D.str)
theorem b9.keys{κ:Type}{H:Hp}{ks:δ<|κ×D}{vs:δ<|κ×V}(h:b9 K H ks vs):vs.map (·.1)=ks.map (·.1):=by unfold b9 at h;induction h with|nil=>rfl|cons r t a=>rw[zA,zA,a,r.1]
theorem AJ:g8 K (.builtin "sorted") MO:=by rintro X o g pins s σ H xs us Q I j ⟨ds,S,R,r,c,⟨a,kvs,ss,e,e1,hk,hl,h⟩,i⟩;subst e;obtain⟨v,rfl,n⟩:=r.one;obtain⟨vs,e2,t⟩:=c.cM e1;exact wG g pins s σ H _ us Q I j {a,vs,ss,by rw[n.ref],e2,by rw[t.keys];exact hk,by rw[t.len];exact hl,λd m p2 l hl=>i.new c hl (h d m p2 l)<|wA d}
end
def OF(K:Φ)(a:ε)(n:π):It:={λi H=>∃xs x,iD K H a xs/\xs.length=n/\i<n/\xs[n-1-i]?=some x,λi H x H'=>H'=H/\∀xs,iD K H a xs->xs.length=n->xs[n-1-i]?=some x,λi _=>n<=i}
theorem Jh{P:Ψ}{w:Ω}{K:Φ}{tg:Δ}(a it:ε)(n:π):Turn P w K tg (OF K a n) [it] it (λi h=>i<=n/\h.IsRevIter it a ((n:ν)-1-(i:ν))) where
 mem:=by simp
 obj:=λi h st b hb=>by
  have e:b=it:=by simpa using hb
  subst e
  obtain⟨_,o,e,c,d⟩:=st
  exact{o,e,λv z=>by rw[d]at z;cases z}
 keep:=λi h h' st k=>{st.1,st.2.at λo e=>k it (by simp) o e}
 item:=by
  intro X hP hw hK hc i pins s σ H E I hf st hg
  subst hP hw hK
  obtain⟨xs,x,hq,hn,hi,hx⟩:=hg
  obtain⟨ax,rv,p,hz⟩:=I.list hq
  obtain⟨u,hu,ru⟩:=rv.get hx
  obtain⟨f0,f1,f2,f3,f4,f5⟩:=hf it<|by simp
  have e:(n:ν)-1-(i:ν)=((n-1-i:π):ν):=by lia
  have hit:=st.2
  rw[e]at hit
  refine wpAny_pyNext_rev_item hit p.isList (x:=u) (by simpa using hu) λh' e_ sb=>?_
  have I1:Inv X pins σ H {s with heap:=h'}:=I.turned (t':=s.toks) (λb o hb e=>(sb.2 b hb).trans e) f0 f1 f3 f4 f5
  obtain⟨o,e1,c,d⟩:=id e_
  refine{u,rfl,uR (s:={s with heap:=h'}) e1 c d (by decide) {x,H,I1,ru,{rfl,λys hy _=>by rw[I.rJ hy hq];exact hx},{hi,?_},λb hb=>(hf b hb).1}}
  have e2:(n:ν)-1-((i+1:π):ν)=((n-1-i:π):ν)-1:=by lia
  rw[e2];exact e_
 done:=by
  intro X hP hw hK hc i pins s σ H E I hf st hg
  subst hP hw hK
  obtain⟨f0,f1,f2,f3,f4,f5⟩:=hf it<|by simp
  have hg:n<=i:=hg
  have e:(n:ν)-1-(i:ν) = -1:=by have:=st.1;lia
  have hit:=st.2
  rw[e]at hit
  exact wpAny_pyNext_rev_end (I.ok.hd hc) hit λh' eb=>{rfl,I.turned (t':=s.toks) (λb o hb e=>eb b o hb e) f0 f1 f3 f4 f5}
 self:=λ_ _ _ _ _ st h=>wpAny_pyIter_revIter st.2 h
def aaM(K:Φ)(ta:TA):TI:=λσ H R=>ta σ H λvs H1=>∃a xs,vs=[.ref a]/\iD K H1 a xs/\R (OF K a xs.length) H1
theorem Rj{X:Cx}{tg a:Δ}{ta:TA}{p pos:Pos}(hg:Gl X "reversed")(hm:X.mg "reversed"= none)(ha:PA X [a] ta)(t:starEach [a] X.env=[(false,eval a X.env)]):PI X tg (.Call (.Name "reversed" p) [a] [] pos) (aaM X.K ta):=by
 intro pins s σ H R I h;refine Call_<|fE I hg hm boot_reversed<|PyProof.Rows.callWith_type1 (bp (ha pos pins s σ H _ I h) λus s1 ⟨vs,H1,c,v,g⟩=>?_) t rfl;obtain⟨l,xs,e,q,m⟩:=g;subst e;obtain⟨u,rfl,n⟩:=vals1 v;cases n;obtain⟨w,r,i,hz⟩:=c.list q;have hn:w.toArray.size=xs.length:=by rw[zr,r.length]
 refine call_reversed_list i.isList ?_;rw[hn];have st:(s1.heap.push<|revObj l<|(xs.length:ν)-1).IsRevIter s1.heap.objs.size l ((xs.length:ν)-1-((0:π):ν)):={_,zp _ rfl,rfl,by show Data.fields _=Data.fields _;simp};have j:Inv X pins σ H1 {s1 with heap:=s1.heap.push<|revObj l<|(xs.length:ν)-1}:=c.kept (t':=s1.toks) λb o e=>za _ e;refine wpAny_pyIter_revIter st {_,_,_,_,H1,rfl,j,Jh l s1.heap.objs.size xs.length,{yb _,st},λb d=>?_,m};have d:b=s1.heap.objs.size:=by simpa using d
 subst d;exact c.oj (zk _)<|c.aG.fresh<|zk _
section
variable{K:Φ}{X:Cx}{tg:Δ}
def Wn(t:iE):xY:=λσ S R Z=>t σ S (λds S1=>∃x es,ds=[x]/\qX S1 x es/\R {es.reverse,λS=>qX S x es} S1) Z
theorem irv{t:iE}(hm:X.mg "reversed"= none)(ha:DA K X [a] t)(hg:ψ (Gl X "reversed") qQJ)(z:ψ (starEach [a] X.env=[(false,eval a X.env)]) qQJ)(o:ψ (X.K=K) qQJ):DI K X tg (.Call (.Name "reversed" p) [a] [] pos) (Wn t):=by subst o;exact⟨λy=>(Rj (X:=y.cx) hg hm (ha.of y) z).mono <| by rintro τ H R ⟨σ,S,RI,Z,s,j,q,n,B⟩;exact{σ,S,_,Z,s,j,q,by rintro ds S1 vs H1 ⟨x,es,e,h1,A⟩ E s1 C;subst e;obtain⟨v,rfl,r⟩:=E.one;obtain⟨a,xs,rfl,l,t⟩:=h1.at s1 r;refine{a,xs,rfl,l,n _ S1 _ H1 A (λi J H2 F s2 m=>?_) s1 C};obtain⟨I,GJ,e',c,g⟩:=qX.at m s2<|Rv.ts F _ r;cases e';have hl:xs.length=es.length:=t.len;have w:GJ.length=es.length:=g.len;refine{λd hd=>?_,λh=>by rw[yM]at h;show xs.length<=i;lia};have hi:i<es.length:=(by have:=(ze.mp hd).1;rwa [yM]at this);rw[List.getElem?_reverse hi]at hd;obtain⟨v,e1,r⟩:=g.get hd;rw[<-hl]at e1;refine{{GJ,v,c,by lia,by lia,e1},λG H' ⟨e2,e3⟩=>?_};subst e2;have:=e3 GJ c (by lia);rw[e1]at this;cases this;exact{r,.refl _,s2},B}⟩
noncomputable def iN(xs ys:δ D):δ D:=List.zipWith (λa b=>D.tup [a,b]) xs ys
def Wo(t:iE):xY:=λσ S R Z=>t σ S (λds S1=>∃xs ys,ds=[.tup xs,.tup ys]/\xs.length=ys.length/\R {iN xs ys,λ_=>True} S1) Z
theorem mG:∀v τ H Q,Tg K (OE 2<|CQ (TK i)<|CQ (TK j) OD) v τ H Q->LM K 2 (rK (jd i)<|rK (jd j) LL) v τ H Q:=by rintro v τ H Q ⟨d,σ,S,R,m,l,g,⟨ds,e,hl,a,r,e1,b,w,e2,e3,q⟩,h⟩;subst e e1 e2 e3;obtain⟨p,xs,rfl,hp,t⟩:=m.tup;obtain⟨s,c,rfl,n,o⟩:=t.two;exact{p,_,rfl,.of hp,rfl,s,[c],rfl,c,[],rfl,rfl,h _ S _ H q ((l.set i n).set j o) g<|.refl _}
end
section
variable{K:Φ}{X:Cx}{b:χ}{pos:Pos}
def Wq(tl ti tv:TD):jy:=λDe σ S Z=>tv σ S (λv S1=>tl σ S1 (λx d=>ti σ d (λy c=>∃a es i j,x=.ref a/\y=.int i/\c a=ϑ (.lst es)/\F_ es.length i=ϑ j/\De.nx σ (c.set a<|.lst<|es.set j v))<|Z σ)<|Z σ)<|Z σ
theorem sls{o i value:Δ}{tl ti tv:TD}{pos':Pos}(ho:DE K X o tl)(hi:DE K X i ti)(w:DE K X value tv)
  (ha:ψ (∀v,assign (.Subscript o i pos') X.env v=(do
   let ov <-holding [v] (eval o X.env)
   let iv <-holding [v,ov] (eval i X.env)
   standAt pos'
   holding [v,ov,iv] (setItem ov iv v)
   release [v,ov,iv] [])) qQ0)
  (E:ψ (swapsWithSole [.Subscript o i pos'] value pos.line X.env=pure false) qQJ) (hw:ψ (swappedStores [.Subscript o i pos'] value X.env=pure none) qQJ) (h1:ψ ((assignEach [.Subscript o i pos'] X.env).map (·.2)=[assign (.Subscript o i pos') X.env]) qQJ):
  DS K X b (.Assign [.Subscript o i pos'] value pos) (Wq tl ti tv):=
 ⟨λy=>(H9 (X:=y.cx) (w.of y) (PX (ho.of y) (hi.of y) set_list ha) E hw h1).mono <| by rintro D τ H ⟨σ,S,De,Z,e,n,q,r,m⟩;exact
  ⟨σ,S,_,_,e,n,q,λv S1 p H1 F I s1 d=>⟨σ,S1,_,_,e.ts d,s1,F,λx B M H2 G s s2 g=>⟨σ,B,_,_,e.ts<|d.trans g,s2,G,by
   rintro y J L N ⟨a,es,i,j,e1,e2,e3,e4,z⟩ A l h
   subst e1 e2
   obtain⟨xs,C,t⟩:=l.lst e3
   have kk:=l.iK (o:=.lst<|xs.set j p) e3
   refine{a,xs,i,j,(Rv.ts h _ s).ref,A.int,C,by rw[t.len];exact e4,?_}
   exact r.nx _ _ _ _ z (e.ts<|((d.trans g).trans h).trans kk) (l.put (c:=.lst _) e3 {_,aC,RvAll.ts kk _<|t.set j<|Rv.ts (g.trans h) _ I})<|((d.trans g).trans h).trans kk,m.on (d.trans g)<|e.ts<|d.trans g⟩,m.on d<|e.ts d⟩,m.at e⟩⟩
noncomputable def fG(z:ρ):δ D:=z.cps.toList.map λc=>D.str ⟨#[c]⟩
def OG(t:TD):xY:=λσ S R Z=>t σ S (λx S1=>∃z,x=.str z/\R {fG z,λ_=>True} S1) Z
theorem Rk{t:TD}(h:DE K X l t):DI K X tg l (OG t):=⟨λy=>(QF (X:=y.cx)<|h.of y).mono <| by rintro τ H R ⟨σ,S,RI,Z,j,a,q,g,n⟩;exact⟨σ,S,_,Z,j,a,q,by
 rintro x S1 v H1 ⟨z,e,m⟩ p s1 o;subst e;refine{z,p.str,g _ S1 _ H1 m (λi w H2 A s2 _=>{λd hd=>?_,λhl=>?_}) s1 o};unfold fG at hd;rw[zm,Array.getElem?_toList]at hd;cases q:z.cps[i]? with|none=>(rw[q]at hd;cases hd)|some c=>rw[q]at hd;cases hd;refine{(Array.getElem?_eq_some_iff.mp q).1,λr H' ⟨e1,s,e2,e3⟩=>?_};rw[q]at e2;cases e2;subst e1 e3;exact{iI _,.refl _,s2}
 unfold fG at hl;rw[zb,yh]at hl;exact hl,n⟩⟩
def MP(t:TD):TD:=λσ S R Z=>t σ S (λx S1=>∃ss:δ ρ,qX S1 x (ss.map D.str)/\ss.length<4000/\R (.int (jG ss).length) S1) Z
theorem lse{t:TD}(h:DE K X e t)(hm:X.mg "len"= none)(g:X.mg "set"= none)(hp:ψ (isPlain e=ϱ) qQJ)(hg:ψ (Gl X "len") qQJ)(d:ψ (Gl X "set") qQJ)(B:ψ (starEach [e] X.env=[(false,eval e X.env)]) qQJ) (c:ψ (starEach [Expr.Call (.Name "set" p') [e] [] pos'] X.env=[(false,eval (.Call (.Name "set" p') [e] [] pos') X.env)]) qQJ) (o:ψ (X.K=K) qQJ) (j:ψ (X.calm=ϱ) qQJ): DE K X (.Call (.Name "len" p) [.Call (.Name "set" p') [e] [] pos'] [] pos) (MP t):=by subst o;refine⟨λy=>(Ag (X:=y.cx) (Gu (X:=y.cx) rfl rfl) hg hm aI (ZY (uX (X:=y.cx) (Gs (X:=y.cx) rfl rfl rfl j) d g QK (ZY (h.of y) B9 hp) (by decide) (by decide) B rfl) B9 rfl) (by decide) (by decide) c rfl).mono λτ H Q ⟨σ,S,R,Z,r,m,q,n,w⟩=>?_⟩;refine{σ,S,_,Z,r,m,q,λx S1 v H1 ⟨ss,h1,hl,s⟩ A s1 z=>?_,w};obtain⟨a,xs,rfl,i,t⟩:=h1.at s1 A;rw[t.strs]at i;exact{a,ss,rfl,i,hl,λl hl=>{l,ss,rfl,aC,n _ _ _ _ s (aN _) (s1.grow hl)<|z.trans<|.new hl}}
end
theorem fw:bootBuiltins "sorted"= some (.builtin "sorted"):=by trivial
def Sub(S S':ak):Prop:=∀b c,S b=ϑ c->S' b=ϑ c
theorem Sub.refl(S:ak):Sub S S:=λ_ _ h=>h
theorem Sub.trans(a:Sub S S1)(b:Sub S1 S2):Sub S S2:=λp c h=>b p c<|a p c h
theorem Sub.new(h:S p=ϐ):Sub S (S.set p c):=λb d a=>by rw[ae<|gM a h];exact a
theorem Rs.sub{K:Φ}{S S':ak}{H:Hp}(h:Rs K S' H)(s:Sub S S'):Rs K S H:=λa c e=>h a c<|s a c e
inductive Fo (S':ak) (p:ak->η):η where
 |mk (S:ak) (h:Sub S S') (r:p S):Fo S' p
theorem fo(h:p S):Fo S p:={S,.refl S,h}
section
variable{P:Ψ}{w:Ω}{K:Φ}{mg:ρ->θ ξ}{base:Γ}
theorem wF.ok{x qual:ρ}{st:Stmt}{f:ε}{fd:FuncData}{N ps:δ ρ}{k:π}{sp:qY}(F:wF K x qual st f fd)(S:gu N ps<|aj st)(len:∀ds S R Z,sp ds S R Z->ds.length=ps.length) (n:∀(gv:ξ)(A:ϕ)(outer:δ Env)(s:ζ)(H:Hp)(E:XK)(ds:δ D)(S:ak)(R:KD)(Z:KX),bX k (A.deeper<|envOfC qual (aj st) s.heap.objs.size f gv)->sp ds S R Z->∃t,BN K (kT (f_ P w mg) P w K mg base N qual (aj st) f gv A outer s H E) true (bx st) t/\t {nx:=λ_ S'=>Fo S'<|R .ay,rt:=λd S'=>Fo S'<|R d} (jM N ds) S λ_ C S'=>Fo S'<|Z C):bS P w K mg base (f_ P w mg) (k+1) f fd ps (ud K sp):=by
 have o:bS P w K mg base (f_ P w mg) (k+1) f fd ps (ud K λds S l j=>∃R Z,sp ds S R Z/\l=(λd S'=>Fo S'<|R d)/\j=λC S'=>Fo S'<|Z C):=by refine F.okD S (by rintro ds S R Z ⟨e,c,h,_⟩;exact len _ _ _ _ h) λgv A outer s H E ds S R Z hr ⟨e,c,h,e1,e2⟩=>?_;subst e1 e2;exact n gv A outer s H E ds S e c hr h
 refine o.imp <| by rintro vs H Q E ⟨ds,S,R,Z,v,g,h,i,p⟩;exact{ds,S,_,_,v,g,⟨R,Z,h,rfl,rfl⟩,by rintro d S' u H' ⟨a,sb,r⟩ m rs kp;exact i d a u H' r m (rs.sub sb) kp,by rintro C S' H' ⟨a,sb,r⟩ rs kp;exact p C a H' r (rs.sub sb) kp}
end
section
variable{K:Φ}{X:Cx}{b:χ}
def Wr(t:jy):jy:=λDe σ S Z=>∃P:SD->ak->η,t {De with nx:=λav S'=>Fo S'<|P av} σ S Z/\∀av S',P av S'->De.nx av S'
theorem qB{st:Stmt}{t:jy}(h:DS K X b st t):DS K X b st (Wr t):=⟨λy=>(h.of y).mono <| by rintro D τ H ⟨σ,S,De,Z,l,e,⟨P,q,g⟩,d,j⟩;exact{σ,S,_,Z,l,e,q,{by rintro o S1 n H1 ⟨m,sb,i⟩ a b c;exact d.nx _ _ _ _ (g _ _ i) a (b.sub sb) c,d.rt,d.bk,d.ct},j}⟩
def dFo(t:TD):TD:=λσ S R Z=>t σ S (λd S'=>Fo S'<|R d) Z
theorem xZ{t:TD}(h:DE K X e t):DE K X e (dFo t):=⟨λy=>(h.of y).mono <| by rintro τ H Q ⟨σ,S,R,Z,l,a,q,i,j⟩;exact{σ,S,_,Z,l,a,q,by rintro d S' v H' ⟨c,sb,r⟩ g rs kp;exact i d c v H' r g (rs.sub sb) kp,j}⟩
theorem cg1(nd:N.Nodup)(h0:ψ (N[0]?=some a) qQJ)(hx:ψ (∀C s H ex pn,Loc (gw X N scope C s H ex pn).env.scope a/\(gw X N scope C s H ex pn).env.scope.names.lookup a=ϑ .local) qJX): ∀C s H ex pn,PG (gw X N scope C s H ex pn) (.Name a p) (jd 0):=λC s H ex pn=>qP (i:=0) nd h0 (hx C s H ex pn).1<|.inr (hx C s H ex pn).2
theorem Ws(nd:N.Nodup)(h0:ψ (N[0]?=some a) qQJ)(h1:ψ (N[1]?=some c) qQJ) (hx:ψ (∀C s H ex pn,Loc (gw X N scope C s H ex pn).env.scope a/\(gw X N scope C s H ex pn).env.scope.names.lookup a=ϑ .local) qJX) (d:ψ (∀C s H ex pn,Loc (gw X N scope C s H ex pn).env.scope c/\(gw X N scope C s H ex pn).env.scope.names.lookup c=ϑ .local) qJX) (hl:∀env:Env,(assignEach [.Name a p,.Name c p'] env).length=2/\(assignEach [.Name a p,.Name c p'] env).findIdx? (·.1)=ϐ/\(assignEach [.Name a p,.Name c p'] env).map (·.2)=assign (.Name a p) env::(assignEach [.Name c p'] env).map (·.2)/\(assignEach [.Name c p'] env).map (·.2)=assign (.Name c p') env::(assignEach [] env).map (·.2):=by intro _;exact⟨rfl,rfl,rfl,rfl⟩) (h:ψ (X.K=K) qQJ) (g:ψ (X.calm=ϱ) qQJ): ∀C s H ex pn,PG (gw X N scope C s H ex pn) (.Tuple [.Name a p,.Name c p'] j p2) (LM K 2<|rK (jd 0)<|rK (jd 1) LL):=λC s H ex pn=>by subst h;have e:=hl (gw X N scope C s H ex pn).env;exact HZ (X:=gw X N scope C s H ex pn) g (rL (qP (i:=0) nd h0 (hx C s H ex pn).1<|.inr (hx C s H ex pn).2) (rL (qP (i:=1) nd h1 (d C s H ex pn).1<|.inr (d C s H ex pn).2) Em e.2.2.2) e.2.2.1) e.1 e.2.1
end
theorem sE:∀{ss:δ ρ}{a:δ ξ},Vals (ss.map V.str) a->StrsAre a ss|[],_,.nil=>.nil|z::ss,_,.cons r t=>by obtain⟨tk,rfl⟩:=r;exact .cons z tk<|sE t
section
variable{K:Φ}
noncomputable def Ji(xs:δ D):δ D:=(List.range xs.length).zipWith (λi x=>.tup [.int (i:π),x]) xs
theorem wH(xs:δ D):(Ji xs).length=xs.length:=by unfold Ji;simp
theorem wI{xs:δ D}{i:π}{d:D}(h:(Ji xs)[i]?=some d):∃x,xs[i]?=some x/\d=.tup [.int (i:π),x]:=by unfold Ji at h;obtain⟨a,y,e1,e2,e3⟩:=List.getElem?_zipWith_eq_some.mp h;have hi:i<xs.length:=(ze.mp e2).1;rw[List.getElem?_range hi]at e1;cases e1;exact⟨y,e2,e3.symm⟩
def aaO(t:iE):xY:=λσ S R Z=>t σ S (λds S1=>∃x xs,ds=[x]/\qX S1 x xs/\R {Ji xs,λS=>qX S x xs} S1) Z
theorem ien{X:Cx}{a:Δ}{t:iE}{p pos tp:Pos}{es:δ Δ}{kk:π}(hm:X.mg "enumerate"= none)(ha:DA K X [a] t)(hg:ψ (Gl X "enumerate") qQJ)(I:ψ (starEach [a] X.env=[(false,eval a X.env)]) qQJ)(z:ψ (X.K=K) qQJ): DI K X (.Tuple es kk tp) (.Call (.Name "enumerate" p) [a] [] pos) (aaO t):=by subst z;exact⟨λy=>(MG (X:=y.cx) hg hm (ha.of y) I).mono <| by rintro τ H R ⟨σ,S,RI,Z,A,r,q,s,L⟩;exact{σ,S,_,Z,A,r,q,by rintro ds S1 vs H1 ⟨x,xs,e,hx,J⟩ w s1 M;subst e;obtain⟨v,rfl,ra⟩:=w.one;obtain⟨l,F,e1,B,ta⟩:=hx.at s1 ra;subst e1;refine{l,rfl,⟨F,B⟩,s _ S1 _ H1 J (λi U H2 N s2 aG=>?_) s1 M};have m:=Rv.ts N _ ra;obtain⟨Q,j,e2,c,tb⟩:=qX.at (d:=x) aG s2 m;cases e2;refine{λd hd=>?_,λh=>{j,c,by rw[wH]at h;rw[tb.len];exact h}};obtain⟨P,C,rfl⟩:=wI hd;obtain⟨g,n,G⟩:=tb.get C;refine{⟨j,g,c,n⟩,λO H' ⟨T,o,e4,E⟩=>?_};have:=E j g c n;subst this e4;have kk:Kp X.K H2 (upd H2 T<|.tup [.int (i:π),g]):=.new o;exact{iJ aC<|RvAll.ts kk _<|aO (aN _)<|aO G bu,kk,s2.grow o},L}⟩
end
end L2
namespace HT
open PySem PySem.Spec PyProof.Rows
end HT
namespace L2
open PySem PySem.Spec PyProof.Rows
section
variable{K:Φ}
theorem Jj(r:Rv K H d v):∀n:π,RvAll K H (List.replicate n d) (List.replicate n v)|0=>bu|n+1=>aO r<|Jj r n
end
inductive Jl (S:ak):δ D->δ PyData->η where
 |nil:Jl S [] []
 |cons {d:D}{p:PyData}{ds:δ D}{ps:δ PyData} : Dl S d p->Jl S ds ps->Jl S (d::ds) (p::ps)
section
variable{K:Φ}
noncomputable def Jm(p:ρ×D):D:=.tup [.str p.1,p.2]
noncomputable def sF(l:δ<|ρ×D):δ (Key×D):=l.foldl (λc p=>dput c (.inr p.1) p.2) []
theorem EO:∀{kvs:δ (ρ×D)}{ys:δ V},RvAll K H (kvs.map Jm) ys->∃d:δ (ρ×V),Prs H ys d/\∀c a,b9 K H c a->b9 K H (kvs.foldl (λc p=>dput c (.inr p.1) p.2) c) (d.foldl (λc p=>putK c (.inr p.1) p.2) a)|[],ys,h=>(by rw[h.nil];exact{[],{rfl,λi x p e=>(by cases i<;>cases e)},λc a h=>h})|p::kvs,ys,h=>by obtain⟨y,ys,rfl,r1,r2⟩:=h.cons;obtain⟨b,zs,rfl,n,m⟩:=Rv.tup<|show Rv K H (.tup [.str p.1,p.2]) y from r1;obtain⟨v,u,rfl,l,g⟩:=m.two;have j:=l.str;subst j;obtain⟨d,⟨hl,hp⟩,hf⟩:=EO r2;refine{(p.1,u)::d,{by rw[zR,zR,hl],λi x q e1 e2=>?_},λc a h=>hf _ _<|h.put (.inr p.1) g};cases i with|zero=>(cases e1;cases e2;exact⟨b,rfl,n⟩)|succ i=>exact hp i x q e1 e2
def Wt:δ D->ak->KD->Prop:=λds S R=>∃kvs:δ (ρ×D),ds=[.tup<|kvs.map Jm]/\∀p,S p=ϐ->R (.ref p) (S.set p<|.cM<|sF kvs)
theorem Rl:g8 K (.type "dict") Wt:=by rintro X m i pins s σ H xs us Q I n ⟨ds,S,R,r,d,⟨kvs,e,h⟩,j⟩;subst m e;obtain⟨v,rfl,o⟩:=r.one;obtain⟨a,ys,rfl,q,t⟩:=o.tup;obtain⟨g,hp,hf⟩:=EO t;refine Cy i pins s σ H _ us Q I n {a,ys,g,rfl,q,hp,λl hl=>?_};have kn:Kp X.K H (upd H l<|.dK<|EA g):=.new hl;exact j _ _ _ _ (h l<|d.fresh hl) (jJ l) (d.new (c:=.cM<|sF kvs) hl {_,aC,(hf [] [] .nil).ts kn}) kn
theorem AK(kvs:δ<|Key×D)(k k':Key)(d:D):bN (dput kvs k d) k'=if k'=k then some d else bN kvs k':=by
 unfold dput;by_cases hk:(kvs.any λa=>ω<|a.1=k)=ϱ;rw[qb hk];unfold bN;induction kvs with|nil=>(cases hk)|cons r kvs g=>rw[zA,yd,yd];by_cases e:r.1=k;rw[qb e];by_cases e2:k'=k;rw[qb e2,show ω (r.1=k')=ϱ from zx (e.trans e2.symm)];rfl;rw[qa e2,show ω (r.1=k')=ϰ from zw λq=>e2<|q.symm.trans e];by_cases c:(kvs.any λa=>ω<|a.1=k)=ϱ;have:=g c;rw[qa e2]at this;exact this;have h:kvs.map (λa=>if a.1=k then (a.1,d) else a)=kvs:=(by(conv=>rhs;rw[<-List.map_id kvs]);refine zX λx hx=>?_;rw[qa λq=>c<|yx.mpr {x,hx,zx q}];rfl);rw[h];rw[qa e];have c:(kvs.any λa=>ω<|a.1=k)=ϱ:=(by rw[yX,zw e,Bool.false_or]at hk;exact hk);by_cases e3:r.1=k';rw[zx e3,qa λq=>e<|e3.trans q];rw[zw e3];exact g c
 rw[qa hk];unfold bN;rw[List.find?_append];have hn:∀x∈kvs,x.1≠k:=λx hx q=>hk<|yx.mpr {x,hx,zx q};by_cases e:k'=k;subst e;rw[qb rfl,List.find?_eq_none.mpr λx hx=>by simp[hn x hx]];simp;rw[qa e];have:([(k,d)].find? λa=>ω<|a.1=k')=ϐ:=by rw[yd,show ω (k=k')=ϰ from zw λq=>e q.symm];rfl
 rw[this,Option.or_none]
theorem GK(l:δ<|ρ×D)(z:ρ):(bN (sF l)<|.inr z).isSome=l.any λp=>ω (p.1=z):=by
 have all:∀(l:δ (ρ×D))(c:δ (Key×D)),(bN (l.foldl (λc p=>dput c (.inr p.1) p.2) c)<|.inr z).isSome=((bN c<|.inr z).isSome||l.any λp=>ω<|p.1=z):=by intro l;induction l with|nil=>intro c;simp|cons p l a=>intro c;rw[yQ,a,AK,yX];by_cases e:p.1=z;rw[qb<|by rw[e],zx e];simp;rw[qa λq=>e (yV q).symm,zw e];simp
 exact(all l []).trans<|by rfl
def Wu(a:ε)(kvs:δ<|ρ×V):uc:=λx y S R=>∃z,x=.str z/\y=.ref a/\R (.bl (kvs.lookup z).isSome) S
theorem cmk{X:Cx}{a b:Δ}{ta tb:TD}{pos:Pos}{w:Ω}{ad:ε}{kvs:δ<|ρ×V}(d:Lq w K ad kvs)(ha:DE K X a ta)(m:DE K X b tb)(hw:ψ (X.w=w) qQJ)(hm:ψ (behindInMarks .In b=ϰ) qQ2)(o:ψ (X.K=K) qQJ): DE K X (.Compare a [.In] [b] pos) (Q4 (Wu ad kvs) ta tb):=by refine⟨λy=>(Er (X:=y.cx) (r:=Lr K<|Wu ad kvs) ?_ (ha.of y) (m.of y) hm).mono λ_ _ _ h=>h.op⟩;rintro pins s σ H x g v u Q I p n ⟨q,e,S,R,j,l,c,⟨z,e1,e2,h⟩,i⟩;subst e1 e2;exact IS (X:=y.cx) hw o pins s σ H x g v u Q I p n {z,ad,kvs,j.str,l.ref,d,i.now c h<|b8 _}
end
structure Ww(k:π)(A:ϕ):η where
 dp:A.depth+3*k+5<recursionLimit
 un:A.units+16*k+200<cLine
structure FnH(P:Ψ)(w:Ω)(K:Φ)(mg:ρ->θ ξ)(base:Γ)(k:π)(f:ε)(fd:FuncData)(ps:δ ρ)(sp:qY):η where
 len:∀ds S R Z,sp ds S R Z->ds.length=ps.length
 run:∀(A:ϕ)(outer:δ Env)(s:ζ)(H:Hp)(args:Args)(us:δ ξ)(vs:δ V)(Q:VK),Ww k A->Ae P w K mg base A outer s H->BindsTo s fd args (ps.zip us)->Vals vs us->ud K sp vs H Q E0 ->
  codeAny (model P w) A (.call (.ref f) args) (CR (f_ P w mg) outer P w H s Q E0) s
def PEg(pre:π)(X:Cx)(e:Δ)(t:TE):Prop:=∀(pins:δ (ε×Obj))(s:ζ)(σ:St)(H:Hp)(Q:VK),Inv X pins σ H s->pre<=s.toks->t σ H Q->wpAny (model X.prog X.w) X.A (eval e X.env) (λu s'=>EP X pins σ Q u s'/\1<=s'.toks) X.xe s
structure DEg(pre:π)(K:Φ)(X:Cx)(e:Δ)(t:TD):η where
 of:∀{b:χ}(y:Ev X b),PEg pre y.cx e<|T K y.E t
section
variable{K:Φ}{X:Cx}{e:Δ}
def Wx(tb:jy):jy:=λDe σ S _=>tb De σ S λ_=>Zf
theorem Wy(g:BN K X false body tb)(h:ψ (X.K=K) qQJ):DS K X b (.Try body (h₀::hs) [] [] pos) (Wx tb):=by subst h;refine⟨λy=>?_⟩;rintro pins s τ H D I ⟨σ,S,De,Z,i,a,q,c,j⟩;have hx:=(Jf (X:=y.cx) (K:=X.K) (t:=tb) ⟨λz=>g.of ⟨z.pn,z.xe,z.E,z.ok⟩⟩) pins s τ H D (λ_=>E0) I {σ,S,De,_,i,a,q,c,λ_ _ _ _ _ z=>z.elim};refine wpAny_Try_except<|yz hx (λf s1 q=>?_) λe s1 q=>?_;{cases f with|next=>(obtain⟨av,H',d,q⟩:=q;exact vZ pins s1 av H' D d q)|ret v=>exact q|brk=>exact q|cont=>exact q};obtain⟨_,_,_,_,_,_,_,_,_,_,_,_,_,z⟩:=q;exact z.elim
end
theorem aaP{a b:ρ}(h:a.cps.toList=b.cps.toList):a=b:=by obtain⟨⟨x⟩⟩:=a;obtain⟨⟨y⟩⟩:=b;cases h;rfl
end L2
namespace HT
open PySem PySem.Spec PyProof.Rows
end HT
namespace L2
open PySem PySem.Spec PyProof.Rows
section
variable{K:Φ}{X:Cx}
def Wz:HK:=λx ds S R=>∃a es fs,x=.ref a/\ds=[.tup fs]/\S a=ϑ (.lst es)/\es.length+fs.length<=Ϙ/\R .ay (S.set a<|.lst<|es++fs)
theorem GL:Oz K "list.extend" Wz:=by rintro X o pins s σ H x xs v us Q I j rs ⟨d,ds,S,R,m,n,c,⟨a,es,fs,e1,e2,e3,hl,h⟩,g⟩;subst e1 e2;obtain⟨r,rfl,i⟩:=n.one;obtain⟨zs,l,t⟩:=c.lst e3;obtain⟨p,ys,rfl,q,e⟩:=i.tup;exact CM pins s σ H x _ v us Q I j rs {a,p,zs,ys,m.ref,rfl,l,q,by rw[t.len,e.len];exact hl,g.put c e3 h jI<|t.app e}
end
section
variable{K:Φ}{X:Cx}{E:XK}
structure DEx(K:Φ)(X:Cx)(E:XK)(e:Δ)(t:TD):η where
 of:∀(y:Ev X true),y.E=(λ_=>E)->df y.cx E->PE y.cx e (T K y.E t)
structure DAx(K:Φ)(X:Cx)(E:XK)(es:δ Δ)(t:iE):η where
 of:∀(y:Ev X true),y.E=(λ_=>E)->df y.cx E->PA y.cx es (Ta K y.E t)
structure DSx(K:Φ)(X:Cx)(E:XK)(b:δ Stmt)(t:jy):η where
 of:∀(y:Ev X true),y.E=(λ_=>E)->df y.cx E->BV y.cx b (Tl K y.E t)
variable{N:δ ρ}{src:δ (θ π)}{scope:Scope}{tg iter elt:Δ}{ifs:δ Δ}{ti:xY}{g:TG}{gd:AF}{tc:kW}{te:TD}
end
open PySem.Builtin PySem.Builtin.Str
structure M3(X:Cx)(o:Δ)(m:ρ)(apos:Pos)(e f g:Δ)(aM:Pos):η where
 base:attributeBase o m X.env (eval o X.env)=eval o X.env
 HE:((backTo aM<|starEach [e,f,g] X.env).all (λx=>!x.1)&&(backToKw aM<|keywordEach [] X.env).all (λx=>x.1.isSome)
  && ω (([e,f,g]:δ Δ).length+([]:δ Keyword).length+(if ([]:δ Keyword).isEmpty then 0 else 1)<30))=ϱ
 line:(apos.endLine==aM.line)=ϱ
 trees:backTo aM (starEach [e,f,g] X.env)=[(false,eval e X.env),(false,eval f X.env),(false,eval g X.env)]
section
variable{X:Cx}{t:TE}
def PAg(pre:π)(X:Cx)(es:δ Δ)(t:TA):Prop:=∀(pos:Pos)(pins:δ (ε×Obj))(s:ζ)(σ:St)(H:Hp)(Q:δ V->Hp->η),Inv X pins σ H s->pre<=s.toks->t σ H Q->wpAny (model X.prog X.w) X.A (spliced<|backTo pos<|starEach es X.env) (AP X pins σ Q) X.xe s
end
section
variable{K:Φ}{X:Cx}
structure DAg(pre:π)(K:Φ)(X:Cx)(es:δ Δ)(t:iE):η where
 of:∀{b:χ}(y:Ev X b),PAg pre y.cx es<|Ta K y.E t
end
structure Gh(a₀:Array Keyed)(g:π->π)(xs:Array Keyed):η where
 at_:∀k,k<a₀.size->xs[k]?=a₀[g k]?
 lt:∀k,k<a₀.size->g k<a₀.size
 inj:∀i j,i<a₀.size->j<a₀.size->g i=g j->i=j
def Log(κ:KeyKind)(a₀:Array Keyed)(i j:π):Prop:=κ.klt (KK κ a₀ i) (KK κ a₀ j)\/(KK κ a₀ i=KK κ a₀ j/\i<j)
def CU(κ:KeyKind)(a₀:Array Keyed)(g:π->π)(k:π):Prop:=∀i j,i<j->j<k->Log κ a₀ (g i) (g j)
def Yu(κ:KeyKind)(a₀:Array Keyed)(g:π->π)(k:π):Prop:=∀i j,i<j->j<k->Log κ a₀ (g j) (g i)
def GN(g:π->π)(m n:π):Prop:=∀k,m<=k->k<n->g k=k
noncomputable def Jn(g:π->π)(i j k:π):Nat:=if i<=k/\k<j then g (i+j-1-k) else g k
noncomputable def MQ(g:π->π)(src l k:π):Nat:=if k=l then g src else if l<k/\k<=src then g (k-1) else g k
section
variable{κ:KeyKind}{a₀ xs:Array Keyed}{g:π->π}
theorem Log.kle(h:Log κ a₀ i j):κ.kle (KK κ a₀ i) (KK κ a₀ j):=by rcases h with h|⟨h,_⟩;exact KeyOrd.kle_of_klt h;rw[h];exact KeyOrd.kle_refl _
theorem OH(h:κ.kle (KK κ a₀ i)<|KK κ a₀ j)(hl:i<j):Log κ a₀ i j:=by cases q:κ.blt (KK κ a₀ i) (KK κ a₀ j) with|true=>exact .inl q|false=>exact .inr {KeyOrd.kle_antisymm h q,hl}
theorem Gh.low(h:Gh a₀ g xs)(t:GN g m a₀.size)(hm:m<=a₀.size)(hi:i<m):g i<m:=by refine Nat.lt_of_not_le λq=>?_;have h1:=h.lt i (by lia);have h2:=h.inj (g i) i h1 (by lia)<|t (g i) q h1;lia
theorem Gh.key(h:Gh a₀ g xs)(hk:k<a₀.size):KK κ xs k=KK κ a₀ (g k):=KK_congr<|h.at_ k hk
theorem Gh.mirror(h:Gh a₀ g xs)(hs:xs.size=a₀.size)(hj:j<=a₀.size):Gh a₀ (Jn g i j) (mirror xs i j<|(j-i)/2) where
 at_:=λk hk=>by
  rw[getElem?_mirror_all<|by lia]
  unfold Jn
  by_cases q:i<=k/\k<j
  ·rw[qb q,qb q];exact h.at_ _<|by lia
  ·rw[qa q,qa q];exact h.at_ _ hk
 lt:=λk hk=>by
  unfold Jn
  by_cases q:i<=k/\k<j
  ·rw[qb q];exact h.lt _<|by lia
  ·rw[qa q];exact h.lt _ hk
 inj:=λa b ha hb e=>by
  unfold Jn at e
  by_cases q:i<=a/\a<j<;>by_cases r:i<=b/\b<j
  ·rw[qb q,qb r]at e;have:=h.inj _ _ (by lia) (by lia) e;lia
  ·rw[qb q,qa r]at e;have:=h.inj _ _ (by lia) (by lia) e;lia
  ·rw[qa q,qb r]at e;have:=h.inj _ _ (by lia) (by lia) e;lia
  ·rw[qa q,qa r]at e;exact h.inj _ _ ha hb e
theorem Gh.bubble(h:Gh a₀ g xs)(hs:xs.size=a₀.size)(hl:l<=src)(hj:src<a₀.size):Gh a₀ (MQ g src l) (bubble xs src<|src-l) where
 at_:=λk hk=>by
  rw[getElem?_bubble (by lia) _<|by lia,show src-(src-l)=l by lia]
  unfold MQ
  by_cases q:k=l
  ·rw[qb q,qb q];exact h.at_ _ hj
  ·rw[qa q,qa q]
   by_cases r:l<k/\k<=src
   ·rw[qb r,qb r];exact h.at_ _<|by lia
   ·rw[qa r,qa r];exact h.at_ _ hk
 lt:=λk hk=>by
  unfold MQ
  by_cases q:k=l
  ·rw[qb q];exact h.lt _ hj
  ·rw[qa q]
   by_cases r:l<k/\k<=src
   ·rw[qb r];exact h.lt _<|by lia
   ·rw[qa r];exact h.lt _ hk
 inj:=λa b ha hb e=>by
  unfold MQ at e
  repeat' split at e
  all_goals (have:=h.inj _ _ (by lia) (by lia) e;lia)
theorem iO(h:i<=k/\k<j):Jn g i j k=g (i+j-1-k):=by unfold Jn;rw[qb h]
theorem gx(h:¬(i<=k/\k<j)):Jn g i j k=g k:=by unfold Jn;rw[qa h]
end
section
variable{prog:Ψ}{w:Ω}{A:ϕ}{E:ξ->ζ->η}{s:ζ}{a₀:Array Keyed}{κ:KeyKind}
theorem OI{st:SortSt}{g:π->π}{a top:π}{Q:AscSt->SortSt->η}(p:κ.OneLt)(h0:KeysOf κ a₀)(r:top<=a₀.size)(h1:1<=a)(h2:a<=top)(B:SBase a₀ st)(G:Gh a₀ g<|arrOf st)(T:GN g a a₀.size)(U:CU κ a₀ g a) (h:∀n,a<=n->n<=top->CU κ a₀ g n->(n=top\/κ.klt (KK κ a₀<|g n) (KK κ a₀<|g<|n-1))->Q (none,n) st):wpS (model prog w) A E s (ascLoop a top) Q st:=by
 unfold ascLoop;refine wpS_forRange (I:=λx c t=>t=st/\c=(none,x)/\CU κ a₀ g x) ?_ ?_ ⟨rfl,rfl,U⟩;rintro x c t e C ⟨rfl,rfl,V⟩;dsimp only;refine wpS_bind<|wpS_ltKK p B h0 (by lia) (by lia) ?_;rw[G.key<|by lia,G.key<|by lia];cases q:κ.blt (KK κ a₀<|g x) (KK κ a₀<|g<|x-1) with|true=>exact wpS_pure (h x e (by lia) V<|.inr q)|false=>refine wpS_pure {rfl,rfl,λi j d v=>?_};rcases y9 j x with z|z;exact V i j d z;obtain rfl:j=x:=(by lia);have l:=G.low (m:=j) (λk hk o=>T k (by lia) o) (by lia) d;rw[T j e<|by lia]at q⊢;refine OH ?_ l;rcases y9 i (j-1) with y|y;exact KeyOrd.kle_trans (V i (j-1) y<|by lia).kle q;obtain rfl:i=j-1:=(by lia);exact q
 rintro c t ⟨rfl,rfl,V⟩;rw[show max a top=top by lia]at V⊢;exact h top h2 (zk _) V<|.inl rfl
theorem Jo{st:SortSt}{g:π->π}{n top:π}{Q:θ π->SortSt->η}(r:κ.OneLt)(h0:KeysOf κ a₀)(p:top<=a₀.size)(h1:1<=n)(h2:n<=top)(B:SBase a₀ st)(G:Gh a₀ g<|arrOf st)(T:GN g n a₀.size)(D:Yu κ a₀ g n) (h:∀m g' c,SBase a₀ c->Gh a₀ g' (arrOf c)->GN g' m a₀.size->1<=m->m<=top->CU κ a₀ g' m->Q (some m) c):wpS (model prog w) A E s (tail3 n top) Q st:=by
 unfold tail3;refine wpS_bind<|wpS_reverse ?_;have l:SBase a₀ (setArr st<|mirror (arrOf st) 0 n<|(n-0)/2):=B.setArr<|mirror_perm _ _ _ _;have e:Gh a₀ (Jn g 0 n) (arrOf<|setArr st<|mirror (arrOf st) 0 n<|(n-0)/2):=G.mirror B.size (by lia);have d:GN (Jn g 0 n) n a₀.size:=λk hk a=>by rw[gx<|by lia];exact T k hk a
 refine wpS_bind<|OI r h0 p h1 h2 l e d (λi j t v=>?_) λm o q V _=>wpS_pure<|h m _ _ l e (λk hk a=>d k (by lia) a) (by lia) q V;rw[iO<|by lia,iO<|by lia];exact D _ _ (by lia)<|by lia
structure Ls(κ:KeyKind)(a₀:Array Keyed)(g:π->π)(x q:π):η where
 le:q+1<=x
 tl:GN g (x-(q+1)) a₀.size
 dn:∀i j,i<j->j<x->i<x-(q+1)->Log κ a₀ (g j) (g i)
 eq:∀i,x-(q+1)<=i->i<x->KK κ a₀ (g i)=KK κ a₀ (g<|x-1)
theorem Ls.full(F:Ls κ a₀ g x q)(hx:x<=a₀.size):Yu κ a₀ (Jn g (x-(q+1)) x) x:=λi j a c=>by have le:=F.le;by_cases hi:i<x-(q+1);rw[gx (k:=i)<|by lia];by_cases d:j<x-(q+1);rw[gx<|by lia];exact F.dn i j a c hi;rw[iO<|by lia];exact F.dn i _ (by lia) (by lia) hi;rw[iO<|by lia,iO<|by lia];refine .inr {(F.eq _ (by lia)<|by lia).trans (F.eq _ (by lia)<|by lia).symm,?_};rw[F.tl _ (by lia)<|by lia,F.tl _ (by lia)<|by lia];lia
theorem Ls.OJ(F:Ls κ a₀ g x 0):Yu κ a₀ g x:=λi j a c=>F.dn i j a c<|by lia
theorem Ls.next(D:Yu κ a₀ g x)(T:GN g x a₀.size)(hx:x<a₀.size)(h1:1<=x)(hl:κ.klt (KK κ a₀<|g x)<|KK κ a₀<|g<|x-1):Ls κ a₀ g (x+1) 0 where
 le:=by lia
 tl:=λk hk dE=>T k (by lia) dE
 dn:=λi j jB hj hi=>by
  by_cases Yv:j<x
  ·exact D i j jB Yv
  ·obtain rfl:j=x:=by lia
   refine .inl ?_
   by_cases q:i=j-1
   ·rw[q];exact hl
   ·exact KeyOrd.klt_of_klt_of_kle hl (D i (j-1) (by lia)<|by lia).kle
 eq:=λi hi hj=>by rw[show i=x+1-1 by lia]
set_option tactic.hygienic true in
theorem Rm{st:SortSt}{g:π->π}{n top:π}{Q:DescSt->SortSt->η}(r:κ.OneLt)(h0:KeysOf κ a₀)(L:top<=a₀.size)(h1:1<=n)(h2:n<=top)(B:SBase a₀ st)(G:Gh a₀ g<|arrOf st)(F:Ls κ a₀ g n 0) (h:∀m q g' o,SBase a₀ o->Gh a₀ g' (arrOf o)->n<=m->m<=top->Ls κ a₀ g' m q->Q (none,m,q) o):wpS (model prog w) A E s (descLoop n top) Q st:=by
 unfold descLoop;refine wpS_forRange (I:=λx c t=>∃q g',c=(none,x,q)/\SBase a₀ t/\Gh a₀ g' (arrOf t)/\Ls κ a₀ g' x q) ?_ ?_ {0,g,rfl,B,G,F};rintro x c t y K ⟨q,g',rfl,d,a,F'⟩;have le:=F'.le;dsimp only;refine wpS_bind<|wpS_ltKK r d h0 (by lia) (by lia) ?_;rw[a.key<|by lia,a.key<|by lia];cases hl:κ.blt (KK κ a₀<|g' x) (KK κ a₀<|g'<|x-1) with|true=>(simp only[if_true];by_cases p:q>0;rw[qb p];refine wpS_bind<|wpS_reverse<|wpS_pure {0,_,rfl,d.setArr<|mirror_perm _ _ _ _,a.mirror d.size<|by lia,?_};refine .next (F'.full<|by lia) (λk hk l=>?_) (by lia) (by lia) ?_;rw[gx<|by lia];exact F'.tl k (by lia) l;rw[gx<|by lia,iO<|by lia,F'.eq (x-(q+1)+x-1-(x-1)) (by lia)<|by lia];exact hl;rw[qa p];obtain rfl:q=0:=(by lia);exact wpS_pure {0,g',rfl,d,a,.next F'.OJ (λk hk l=>F'.tl k (by lia) l) (by lia) (by lia) hl})|false=>simp only[Bool.false_eq_true,if_false];refine wpS_bind<|wpS_ltKK r d h0 (by lia) (by lia) ?_;rw[a.key<|by lia,a.key<|by lia];cases hg:κ.blt (KK κ a₀<|g'<|x-1) (KK κ a₀<|g' x) with|true=>exact wpS_pure (h x q g' t d a y (by lia) F')|false=>have e:KK κ a₀ (g' x)=KK κ a₀ (g'<|x-1):=KeyOrd.kle_antisymm hg hl;refine wpS_pure {q+1,g',rfl,d,a,{by lia,λk hk l=>F'.tl k (by lia) l,λi j v J hi=>?_,λi hi J=>?_}};by_cases C:j<x;exact F'.dn i j v C (by lia);obtain rfl:j=x:=(by lia);have:=F'.dn i (j-1) (by lia) (by lia) (by lia);rcases this with z|⟨_,z⟩;exact .inl (by rw[e];exact z);rw[F'.tl (j-1) (by lia)<|by lia]at z;have:=a.low (m:=j-(q+1)) F'.tl (by lia) (i:=i) (by lia);lia;rw[show x+1-1=x by lia];by_cases H:i=x;rw[H];rw[e];exact F'.eq i (by lia)<|by lia
 rintro c t ⟨q,g',rfl,d,a,F'⟩;rw[show max n top=top by lia]at F'⊢;exact h top q g' t d a h2 (zk _) F'
theorem Jp{st:SortSt}{g:π->π}{n top:π}{Q:θ π->SortSt->η}(i:κ.OneLt)(h0:KeysOf κ a₀)(c:top<=a₀.size)(h2:n+1<=top)(B:SBase a₀ st)(G:Gh a₀ g<|arrOf st)(F:Ls κ a₀ g (n+1) 0) (h:∀m g' a,SBase a₀ a->Gh a₀ g' (arrOf a)->GN g' m a₀.size->1<=m->m<=top->CU κ a₀ g' m->Q (some m) a):wpS (model prog w) A E s (descPart n top) Q st:=by
 unfold descPart;refine wpS_bind<|wpS_lift<|y7 {rfl,?_};refine wpS_bind<|Rm i h0 c (by lia) h2 B G F λm q g' a e j p o F'=>?_;have le:=F'.le;dsimp only;by_cases l:q>0;rw[qb l];refine wpS_bind<|wpS_reverse<|Jo i h0 c (by lia) o (e.setArr<|mirror_perm _ _ _ _) (j.mirror e.size<|by lia) (λk hk d=>?_) (F'.full<|by lia) h;rw[gx<|by lia];exact F'.tl k (by lia) d;rw[qa l];obtain rfl:q=0:=by lia
 exact Jo i h0 c (by lia) o e j (λk hk d=>F'.tl k (by lia) d) F'.OJ h
set_option tactic.hygienic true in
theorem WA{st:SortSt}{g:π->π}{top:π}{Q:θ π->SortSt->η}(c:κ.OneLt)(h0:KeysOf κ a₀)(d:top<=a₀.size)(h1:1<=top)(B:SBase a₀ st)(G:Gh a₀ g<|arrOf st)(T:GN g 0 a₀.size) (h:∀m g' e,SBase a₀ e->Gh a₀ g' (arrOf e)->GN g' m a₀.size->1<=m->m<=top->CU κ a₀ g' m->Q (some m) e):wpS (model prog w) A E s (countRun' 0 top) Q st:=by
 rw[countRun0_eq];refine wpS_bind<|OI c h0 d (zk 1) h1 B G (λk hk a=>T k (by lia) a) (λi j q t=>by lia) λn r x U o=>?_;dsimp only;have p:∀m,GN g m a₀.size:=λm k hk a=>T k (by lia) a;by_cases l:n=top;rw[qb<|by simpa using l];exact wpS_pure<|h n g st B G (p n) r x U;rw[qa<|by simpa using l];have y:=o.resolve_left l;by_cases v:n>1;rw[qb v];refine wpS_bind<|wpS_ltKK c B h0 (by lia) (by lia) ?_;rw[G.key<|by lia,G.key<|by lia];cases hr:κ.blt (KK κ a₀<|g 0) (KK κ a₀<|g<|n-1) with|true=>exact wpS_pure (h n g st B G (p n) r x U)|false=>simp only[Bool.false_eq_true,if_false];have all:∀k,k<n->KK κ a₀ (g k)=KK κ a₀ (g<|n-1):=λk hk=>(by have F:κ.kle (KK κ a₀<|g 0) (KK κ a₀<|g k):=(by by_cases z:k=0;rw[z];exact KeyOrd.kle_refl _;exact(U 0 k (by lia) hk).kle);have C:κ.kle (KK κ a₀<|g k) (KK κ a₀<|g<|n-1):=(by by_cases z:k=n-1;rw[z];exact KeyOrd.kle_refl _;exact(U k (n-1) (by lia)<|by lia).kle);exact KeyOrd.kle_antisymm C<|KeyOrd.kle_trans hr F);refine wpS_bind<|wpS_reverse<|Jp c h0 d (by lia) (B.setArr<|mirror_perm _ _ _ _) (G.mirror B.size<|by lia) ?_ h;refine .next (λi j q t=>?_) (λk hk a=>by rw[gx<|by lia];exact T k (by lia) a) (by lia) (by lia) ?_;rw[iO<|by lia,iO<|by lia];refine .inr {(all _<|by lia).trans (all _<|by lia).symm,?_};rw[T _ (by lia)<|by lia,T _ (by lia)<|by lia];lia;rw[gx<|by lia,iO<|by lia,all (0+n-1-(n-1))<|by lia];exact y
 rw[qa v];obtain rfl:n=1:=by lia
 exact Jp c h0 d (by lia) B G (.next (λi j q t=>by lia) (p 1) (by lia) (by lia) y) h
theorem WB{st:SortSt}{g:π->π}{n ok:π}{Q:χ->SortSt->η}(S:κ.OneLt)(h0:KeysOf κ a₀)(hn:n<=a₀.size)(aG:ok<=n)(B:SBase a₀ st)(G:Gh a₀ g<|arrOf st)(T:GN g ok a₀.size)(U:CU κ a₀ g ok) (h:∀g' C,SBase a₀ C->Gh a₀ g' (arrOf C)->CU κ a₀ g' n->Q true C):wpS (model prog w) A E s (binarySort' 0 n ok) Q st:=by
 rw[binarySort'_eq];simp only[Nat.zero_add];refine wpS_bind<|wpS_mono (wpS_forRange (I:=λk c t=>c=(none,())/\∃g',SBase a₀ t/\Gh a₀ g' (arrOf t)/\GN g' k a₀.size/\CU κ a₀ g' (min k n)) (Q:=λc t=>c=(none,())/\∃g',SBase a₀ t/\Gh a₀ g' (arrOf t)/\CU κ a₀ g' n) ?_ ?_ ?_) ?_;rintro k c t Yx L ⟨rfl,g',e,d,o,V⟩;rw[show min k n=k by lia]at V;have hk:k<a₀.size:=by lia
 refine wpS_bind<|wpS_mono (wpS_forRange (I:=λx c m=>m=t/\∃l r,c=(none,l,r)/\l<=r/\r<=k/\r-l<=k-x/\(∀i,i<l->κ.kle (KK κ a₀<|g' i) (KK κ a₀<|g' k))/\(∀i,r<=i->i<k->κ.klt (KK κ a₀<|g' k) (KK κ a₀<|g' i))) (Q:=λc m=>m=t/\∃l r,c=(none,l,r)/\l<=k/\(∀i,i<l->κ.kle (KK κ a₀<|g' i) (KK κ a₀<|g' k))/\(∀i,l<=i->i<k->κ.klt (KK κ a₀<|g' k) (KK κ a₀<|g' i))) ?_ ?_ ?_) ?_;rintro x c m _ O ⟨rfl,l,r,rfl,N,y,hm,lo,hi⟩;dsimp only;by_cases J:l>=r;rw[qb J];obtain rfl:l=r:=by lia
 exact wpS_pure ⟨rfl,l,l,rfl,y,lo,hi⟩;rw[qa J];refine wpS_bind<|wpS_ltKK S e h0 hk (by lia) ?_;rw[d.key hk,d.key<|by lia];cases hl:κ.blt (KK κ a₀<|g' k) (KK κ a₀<|g'<|(l+r)/2) with|true=>refine wpS_pure {rfl,l,(l+r)/2,rfl,by lia,by lia,by lia,lo,λi a b=>?_};by_cases z:i=(l+r)/2;rw[z];exact hl;exact KeyOrd.klt_of_klt_of_kle hl (V _ _ (by lia) b).kle|false=>refine wpS_pure {rfl,(l+r)/2+1,r,rfl,by lia,by lia,by lia,λi a=>?_,hi};by_cases z:i=(l+r)/2;rw[z];exact hl;exact KeyOrd.kle_trans (V i ((l+r)/2) (by lia)<|by lia).kle hl
 rintro c m ⟨rfl,l,r,rfl,N,y,hm,lo,hi⟩;obtain rfl:l=r:=by lia
 exact⟨rfl,l,l,rfl,y,lo,hi⟩;exact{rfl,0,k,rfl,by lia,by lia,by lia,λi hi=>by lia,λi a b=>by lia};rintro c m ⟨rfl,l,r,rfl,Y,lo,hi⟩;show wpS _ _ _ _ (do moveDown' k l;pure (ForInStep.yield (none,()))) _ _;rw[moveDown'_eq];refine wpS_bind<|wpS_modify<|wpS_pure {rfl,_,e.setArr<|bubble_perm _ _ _,d.bubble e.size Y hk,λx HN P=>?_,?_};show MQ g' k l x=x;unfold MQ;rw[qa<|by lia,qa<|by lia];exact o x (by lia) P;rw[show min (k+1) n=k+1 by lia];have X:∀i,i<k->g' i<k:=λi q=>d.low o (by lia) q;have R:=o k (zk _) hk;intro i j H Z;show Log κ a₀ (MQ g' k l i) (MQ g' k l j);unfold MQ;by_cases F:i=l;rw[qb F,qa<|by lia,qb<|by lia];exact .inl<|hi _ (by lia) (by lia);rw[qa F];by_cases K:j=l;rw[qb K,qa<|by lia];have h1:=lo i (by lia);have h2:=X i (by lia);rw[R]at h1⊢;exact OH h1 h2;rw[qa K];by_cases v:l<i/\i<=k<;>by_cases p:l<j/\j<=k;rw[qb v,qb p];exact V _ _ (by lia) (by lia);lia;rw[qa v,qb p];exact V _ _ (by lia) (by lia);rw[qa v,qa p];exact V _ _ (by lia) (by lia);rintro c t ⟨M,g',e,d,o,V⟩;refine{M,g',e,d,?_};rwa [show min (max (max ok 1) n) n=n by lia]at V;refine{rfl,g,B,G,λk hk L=>T k (by lia) L,λi j H Z=>?_};exact U i j H (by lia);rintro c t ⟨rfl,g',e,d,V⟩;exact wpS_pure<|h g' t e d V
def Rn(κ:KeyKind)(a₀:Array Keyed)(st:SortSt):Prop:=failedOf st=ϐ/\pendingOf st=#[(0,a₀.size,0)]/\∃g,(arrOf st).size=a₀.size/\Gh a₀ g (arrOf st)/\CU κ a₀ g a₀.size
theorem Rp{st:SortSt}{Q:Unit->SortSt->η}(p:κ.OneLt)(h0:KeysOf κ a₀)(B:SBase a₀ st)(P:arrOf st=a₀)(h2:2<=a₀.size)(X:a₀.size<64) (h:∀i g,failedOf i=ϐ->(arrOf i).size=a₀.size->Gh a₀ g (arrOf i)->CU κ a₀ g a₀.size->Q () i):wpS (model prog w) A E s sortRuns' Q st:=by
 have G:Gh a₀ (λk=>k) (arrOf st):={λk _=>by rw[P],λk hk=>hk,λ_ _ _ _ e=>e};have d:∀(t:SortSt)(g:π->π),SBase a₀ t->Gh a₀ g (arrOf t)->CU κ a₀ g a₀.size->Rn κ a₀ (setPending t<|(pendingOf t).push (0,a₀.size,0)):=λt g j F U=>{j.failed,by show(pendingOf t).push _=_;rw[j.pend];rfl,g,j.size,F,U};rw[sortRuns'_eq];refine wpS_bind<|wpS_get ?_;dsimp only;have hm:minRun' a₀.size a₀.size 0=a₀.size:=by obtain⟨f,hf⟩:∃f,a₀.size=f+1:={a₀.size-1,by lia};have:minRun' (f+1) a₀.size 0=a₀.size:=(by rw[minRun'_succ,qb X];rfl);rwa [<-hf]at this
 simp only[B.size,hm];refine wpS_bind<|wpS_mono (wpS_forRange (I:=λx c t=>(x=0/\c=(none,0)/\t=st)\/(1<=x/\c=(none,a₀.size)/\Rn κ a₀ t)) (Q:=λc t=>c=(none,a₀.size)/\Rn κ a₀ t) ?_ ?_<|.inl ⟨rfl,rfl,rfl⟩) ?_;rintro x c t _ hx (⟨rfl,rfl,rfl⟩|⟨Z,rfl,D⟩);dsimp only;rw[qa<|by lia];simp only[Nat.sub_zero,Nat.min_self,Nat.zero_add];refine wpS_bind<|WA p h0 (zk _) (by lia) B G (λ_ _ _=>rfl) λm H a l r J M K n=>?_;dsimp only;by_cases o:m<a₀.size;rw[qb o];refine wpS_bind<|wpS_lift<|y7 {rfl,?_};refine wpS_bind<|WB p h0 (zk _) K l r J n λN q v L C=>?_;simp only[Bool.not_true,Bool.false_eq_true,if_false];refine wpS_bind<|wpS_get ?_;rw[show(pendingOf q).back?=none by rw[v.pend];rfl];dsimp only;exact wpS_bind<|wpS_modify<|wpS_pure<|.inr {by lia,rfl,d q N v L C};rw[qa o];obtain rfl:m=a₀.size:=by lia
 refine wpS_bind<|wpS_get ?_;rw[show(pendingOf a).back?=none by rw[l.pend];rfl];dsimp only;exact wpS_bind<|wpS_modify<|wpS_pure<|.inr {by lia,rfl,d a H l r n};dsimp only;rw[qb<|zk _];exact wpS_pure ⟨rfl,D⟩;rintro c t (⟨hx,_,_⟩|⟨_,y,D⟩);lia;exact⟨y,D⟩;rintro c t ⟨rfl,D⟩;dsimp only;obtain⟨d1,S,g,Y,R,O⟩:=D;refine wpS_bind<|wpS_mono (wpS_forRange (I:=λ_ c a=>a=t/\c=(none,())) (Q:=λc a=>a=t/\c=(none,())) ?_ (λ_ _ z=>z) ⟨rfl,rfl⟩) ?_;rintro x c a _ _ ⟨rfl,rfl⟩;refine wpS_bind<|wpS_get ?_;rw[qb<|by rw[S];exact zk 1];exact wpS_pure ⟨rfl,rfl⟩;rintro c a ⟨rfl,rfl⟩;exact wpS_pure<|h _ g d1 Y R O
end
noncomputable abbrev MS(X:Cx)(qual:ρ)(scope:Scope)(L f:ε)(cv:ξ):Env:=envX qual scope L f cv<|clOf X.env.cells scope.names
noncomputable def TR(X:Cx)(N:δ ρ)(qual:ρ)(scope:Scope)(f:ε)(cv:ξ)(A:ϕ)(s:ζ)(H:Hp):Cx:={X with A:=A.deeper<|MS X qual scope s.heap.objs.size f cv,N:=N,dI:=s,vY:=H,env:=MS X qual scope s.heap.objs.size f cv,outer:=X.stack,stack:=MS X qual scope s.heap.objs.size f cv::X.stack,ex:=[],fn:=λ_=>false,calm:=true,pn:=[],xe:=λ_ _=>False}
noncomputable abbrev AM(X:Cx)(qual:ρ)(params:Arguments)(body:Δ)(scope:Scope)(pm cv mf:ξ):Obj:={cls:=.type "function",data:=.func<|kla_fn "<lambda>" qual params body scope (clOf X.env.cells scope.names) pm cv mf}
section
variable{X:Cx}{pins:δ (ε×Obj)}{σ:St}{H:Hp}{s:ζ}{N:δ ρ}{src:δ (θ π)}{scope:Scope}{params:Arguments}{body:Δ}{qual p:ρ}{pm cv mf u:ξ}{f:ε}{A:ϕ}{v:V}{te:TE}{Q:VK}
theorem MT(I:Inv X pins σ H s)(S:bj X N src scope)(F:N[0]?=some p)(hp:scope.names.lookup p=ϑ .local)(h0:src[0]?=some none)(B:A.frames=ϑ X.stack)(K:A.handled=ϐ)(r:RelV v u) (J:h₁.Ns s.heap.objs.size λx=>[(p,u)].reverse.lookup x) (a:∀b o,s.heap.get? b=ϑ o->h₁.get? b=ϑ o): Inv (TR X N qual scope f cv A s H) [] ((pick σ src).set 0<|some v) H {s with heap:=h₁,toks:=tk}:=by
 have d:∀x c,(clOf X.env.cells scope.names).lookup x=ϑ c->X.env.cells.lookup x=ϑ c:=rW X.env.cells scope.names [] (by intro x c h;simp at h);have g:∀b:ε,b∉(TR X N qual scope f cv A s H).ex:=λb z=>absurd (show b∈([]:δ ε) from z) (by simp);have BL:∀x,scope.names.lookup x=ϑ .free->∃c,(clOf X.env.cells scope.names).lookup x=ϑ c:=λx hl=>by have hm:=yt hl;obtain⟨c,m⟩:=I.ok.has x<|S.BL _ hm rfl;exact{c,jE X.env.cells scope.names [] x c (by intro x c h;simp at h) hm m}
 refine{{I.ok.mod,S.kind,rfl,rfl,zk _,λx y c h1 h2=>I.ok.inj x y c (d _ _ h1)<|d _ _ h2,λx hk=>?_,λx c h=>(nomatch h),λ_=>K,Around.frames_deeper B,.inr ⟨rfl,rfl⟩,λb z=>absurd z<|g b,I.bs,zH I.ok.FL I.sz,λb _ _=>g b,λb z=>absurd z<|g b,I.stack,I.qO},rfl,I.bare,Un.kept a,{_,J,λi x w e1 e2 e3=>?_},λx c e=>?_,I.aG.fresh<|zk _,λx c e=>I.dS x c<|d x c e,λq E=>absurd (show q∈([]:δ (ε×Obj)) from E)<|by simp,I.aG.kept a,?_};have hk:scope.names.lookup x=ϑ .cell\/scope.names.lookup x=ϑ .free:=hk;rcases hk with hk|hk;exact absurd rfl<|S.gL _<|yt hk;exact BL x hk;have e1:N[i]?=some x:=e1;by_cases hi:i=0;subst hi;rw[F]at e1;cases e1;have hl:0<(pick σ src).length:=by unfold pick;rw[zb];exact(ze.mp h0).1
 rw[List.getElem?_set_self hl]at e2;cases e2;exact{u,r,.inl {hp,by simp[yk]}};rw[List.getElem?_set_ne<|Ne.symm hi]at e2;unfold pick at e2;rw[zm]at e2;cases es:src[i]? with|none=>(rw[es]at e2;cases e2)|some o=>rw[es]at e2;cases o with|none=>(cases e2)|some j=>have e3:(σ[j]?).join=ϑ w:=zT e2;have e4:σ[j]?=some (some w):=(by cases q:σ[j]? with|none=>(rw[q]at e3;cases e3)|some z=>rw[q]at e3;exact congrArg some e3);obtain⟨L,n,t⟩:=S.src i j x es e1;obtain⟨M,_,hl⟩:=I.loc;obtain⟨G,C,l⟩:=hl j x w L e4 t;have hm:=yt n;have hk:=S.BL _ hm rfl;rcases l with⟨k,_⟩|⟨_,c,m,⟨o,ho,hd⟩⟩;rcases hk with hk|hk<;>(rw[k]at hk;cases hk);exact{G,C,.inr {.inr n,c,jE X.env.cells scope.names [] x c (by intro x c h;simp at h) hm m,o,a _ _ ho,hd}}
 obtain⟨w,o,ho,hd⟩:=I.cell x c<|d x c e;exact{w,o,a _ _ ho,hd};show((pick σ src).set 0<|some v).length=N.length;unfold pick;rw[List.length_set,zb,S.len]
theorem Jq(I:Inv X pins σ H s)(S:bj X N src scope)(y:N[0]?=some p)(hp:scope.names.lookup p=ϑ .local)(h0:src[0]?=some none)(i:A.frames=ϑ X.stack)(C:A.handled=ϐ)(t:A.depth<recursionLimit)(r:RelV v u) (ho:s.heap.get? f=ϑ (AM X qual params body scope pm cv mf)) (j:s.heap.CodeRec cv qual) (l:scope.isCoroutine=ϰ) (d:scope.isGenerator=ϰ) (B:bindArgs (kla_fn "<lambda>" qual params body scope (clOf X.env.cells scope.names) pm cv mf) {[u],[]}=pure [(p,u)]) (E:PE (TR X N qual scope f cv A s H) body te) (h:te ((pick σ src).set 0<|some v) H Q): codeAny (model X.prog X.w) A (.call (.ref f) {[u],[]}) (λq s'=>∃w,q=.ok (.ret w)/\CE X.stack X.prog X.w H s Q w s') s:=by refine PySem.W.kla_callFunE t ho rfl l d rfl j ?_;show wpAny _ _ (bindArgs (kla_fn "<lambda>" qual params body scope (clOf X.env.cells scope.names) pm cv mf) {[u],[]}) _ _ _;rw[B];refine zB<|wpAny_newFunctionEnv S.gL (λx hx=>?_) (λg m c=>{I.nolimit.fresh _ c,?_}) S.kind;rw[zL.mp hx];exact hp;have a:∀b o,s.heap.get? b=ϑ o->g.get? b=ϑ o:=λb o e=>c.extBut b o (zC<|zu e)<|za _ e;show codeAny _ _ (.expr body<|MS X qual scope s.heap.objs.size f cv) _ _;refine PySem.W.kla_codeExpr<|yz (E [] _ _ H Q (MT I S y hp h0 i C r m a) h) (by rintro w s' ⟨x,H',J,n,q⟩;exact⟨w,rfl,x,H',J.os,J.bare,J.base,J.aG,n,q⟩) λ_ _ z=>z.elim
end
@[reducible] def intK:KeyKind where
 α:=ν
 blt a b:=ω<|a<b
 irrefl a:=by simp
 trans a b c h1 h2:=by simp only[zP]at *;lia
 negTrans a b c h:=by simp only[zP]at *;lia
 total a b h1 h2:=by simp only[yy]at *;lia
 keyOf v:=match v with|.int x _=>some x|_=>none
 dflt:=0
theorem Jr:intK.OneLt:=by intro prog w A E s x y a b Q ha c h;cases x<;>simp only[intK,reduceCtorEq,Option.some.injEq]at ha;cases y<;>simp only[intK,reduceCtorEq,Option.some.injEq]at c;cases ha;cases c;exact oneLt_int h
structure Yz(κ:KeyKind)(b:χ)(key:π->κ.α)(n:π)(g:π->π):η where
 lt:∀k,k<n->g k<n
 inj:∀i j,i<n->j<n->g i=g j->i=j
 ord:∀i j,i<j->j<n->(if b=ϱ then κ.klt (key<|g j) (key<|g i) else κ.klt (key<|g i) (key<|g j))\/(key (g i)=key (g j)/\g i<g j)
noncomputable def jg(κ:KeyKind)(us:δ ξ)(j:π):κ.α:=(κ.keyOf<|us.getD j .none).getD κ.dflt
theorem Js{us vs:δ ξ}(hl:us.length=vs.length){j:π}(a:j<vs.length):(us.toArray.zip vs.toArray)[j]?=some (us.getD j .none,vs.getD j .none):=by have e:(us.zip vs)[j]?=some (us.getD j .none,vs.getD j .none):=List.getElem?_zip_eq_some.mpr {by show us[j]?=some (us.getD j .none);rw[zM,zf<|by lia];rfl,by show vs[j]?=some (vs.getD j .none);rw[zM,zf a];rfl};rw[<-Array.getElem?_toList,ksk_zip,List.toList_toArray];exact e
theorem wJ{κ:KeyKind}{us vs:δ ξ}(hl:us.length=vs.length){j:π}(a:j<vs.length):KK κ (us.toArray.zip vs.toArray) j=jg κ us j:=by unfold KK jg;rw[Js hl a]
theorem AN{l m:δ ξ}{n:π}(h1:l.length=n)(h2:m.length=n)(h:∀k,k<n->l[k]?=m[k]?):l=m:=by apply List.ext_getElem?;intro k;by_cases hk:k<n;exact h k hk;rw[List.getElem?_eq_none<|by lia,List.getElem?_eq_none<|by lia]
section
variable{prog:Ψ}{w:Ω}{A:ϕ}{E:ξ->ζ->η}{s:ζ}{a kS:ε}{b:χ}{us vs:δ ξ}{e e1:π}{P:PySem.Fin->ζ->η}{κ:KeyKind}
theorem ER{st:SortSt}{keys:Array ξ}(hk:s.heap.get? kS=ϑ (seqObj "list" keys e))(ha:s.heap.get? a=ϑ (seqObj "list" #[] e1))(l:kS≠a)(hz:keys.size<64)(j:(arrOf st).size<64)(n:failedOf st=ϐ) (h:∀h' c,(∀b o,b≠a->b≠kS->s.heap.get? b=ϑ o->h'.get? b=ϑ o)->h'.get? a=ϑ (seqObj "list" (if b then ((arrOf st).map (·.2)).reverse else (arrOf st).map (·.2)) c)->P (.done<|.ret .none) {s with heap:=h'}): wpAny (model prog w) A (ksk_tail a b e1 (.ref kS) st) P E s:=by
 have s1:=yL s.heap kS<|Obj.mapSeq λ_=>(#[]:Array ξ);have d:(s.heap.update kS<|Obj.mapSeq λ_=>(#[]:Array ξ)).get? a=ϑ (seqObj "list" #[] e1):=(s1.2 a l.symm).trans ha;have g:∀o:Array ξ,o=(if b then ((arrOf st).map (·.2)).reverse else (arrOf st).map (·.2))->o.size<64:=by rintro o rfl;cases b with|false=>rw[qa zd,Array.size_map];exact j|true=>rw[qb rfl,Array.size_reverse,Array.size_map];exact j
 generalize ho:(if b then ((arrOf st).map (·.2)).reverse else (arrOf st).map (·.2))=out at h g;have g:=g out rfl;have s2:=yL (s.heap.update kS<|Obj.mapSeq λ_=>(#[]:Array ξ)) a<|Obj.mapSeq λ_=>out;obtain⟨i,m⟩:∃i,((s.heap.update kS<|Obj.mapSeq λ_=>(#[]:Array ξ)).update a<|Obj.mapSeq λ_=>out).get? a=ϑ (seqObj "list" out i):={_,get?_update_seq d λ_=>out};unfold ksk_tail;try dsimp only
 refine zc<|listUpdate_at hk rfl ?_ (by rw[yf];lia)<|yb _;refine zc<|wpAny_letGo ?_;refine zc<|seqEpoch_at d rfl ?_;rw[ho];refine zc<|listUpdate_at d rfl ?_ (yb _)<|zH (yR g) (by rw[yf];lia);rw[n];simp only[bne_self_eq_false,Bool.false_eq_true,if_false];exact zB<|h _ i (λb o h1 h2 q=>(s2.2 b h1).trans<|(s1.2 b h2).trans q) m
theorem Ju{xs:Array Keyed}{g:π->π}(hl:us.length=vs.length)(m:xs.size=vs.length) (G:Gh (if b=ϱ then (us.toArray.zip vs.toArray).reverse else us.toArray.zip vs.toArray) g xs) (U:CU κ (if b=ϱ then (us.toArray.zip vs.toArray).reverse else us.toArray.zip vs.toArray) g vs.length): ∃g',Yz κ b (jg κ us) vs.length g'/\(if b then (xs.map (·.2)).reverse else xs.map (·.2)).toList=(List.range vs.length).map λk=>vs.getD (g' k) .none:=by
 have a:(us.toArray.zip vs.toArray).size=vs.length:=by rw[Array.size_zip,zr,zr,hl,Nat.min_self]
 have l:∀k,k<vs.length->(us.toArray.zip vs.toArray)[k]?=some (us.getD k .none,vs.getD k .none):=λk hk=>Js hl hk;cases b with|false=>rw[qa zd]at G U;refine{g,{λk hk=>by have:=G.lt k (by rw[a];exact hk);rwa [a]at this,λi j hi h=>G.inj i j (by rw[a];exact hi)<|by rw[a];exact h,λi j o h=>?_},?_};have h1:=G.lt i (by rw[a];lia);have h2:=G.lt j (by rw[a];lia);rw[a]at h1 h2;have:=U i j o h;unfold Log at this;rw[wJ hl h1,wJ hl h2]at this;rw[qa zd];exact this;rw[qa zd];refine AN (n:=vs.length) (by rw[yh,Array.size_map,m]) (by simp) λk hk=>?_;have h1:=G.lt k (by rw[a];lia);rw[a]at h1;rw[Array.getElem?_toList,Array.getElem?_map,G.at_ k<|by rw[a];exact hk,l _ h1,zm,List.getElem?_range hk];rfl|true=>rw[qb rfl]at G U;have d:(us.toArray.zip vs.toArray).reverse.size=vs.length:=(by rw[Array.size_reverse,a]);have lt:∀k,k<vs.length->g k<vs.length:=λk hk=>(by have:=G.lt k (by rw[d];exact hk);rwa [d]at this);have c:∀k,k<vs.length->(us.toArray.zip vs.toArray).reverse[k]?=(us.toArray.zip vs.toArray)[vs.length-1-k]?:=λk hk=>(by rw[Array.getElem?_reverse<|by rw[a];exact hk,a]);refine{λk=>vs.length-1-g (vs.length-1-k),{λk hk=>by have:=lt (vs.length-1-k) (by lia);lia,λi j hi h e=>?_,λi j o h=>?_},?_};have h1:=lt (vs.length-1-i) (by lia);have h2:=lt (vs.length-1-j) (by lia);have:=G.inj (vs.length-1-i) (vs.length-1-j) (by rw[d];lia) (by rw[d];lia) (by lia);lia;have h1:=lt (vs.length-1-i) (by lia);have h2:=lt (vs.length-1-j) (by lia);have:=U (vs.length-1-j) (vs.length-1-i) (by lia) (by lia);unfold Log at this;have e1:KK κ (us.toArray.zip vs.toArray).reverse (g<|vs.length-1-i)=jg κ us (vs.length-1-g (vs.length-1-i)):=(KK_congr<|c _ h1).trans<|wJ hl (by lia);have e2:KK κ (us.toArray.zip vs.toArray).reverse (g<|vs.length-1-j)=jg κ us (vs.length-1-g (vs.length-1-j)):=(KK_congr<|c _ h2).trans<|wJ hl (by lia);rw[e1,e2]at this;rw[qb rfl];rcases this with z|⟨p,q⟩;exact .inl z;exact .inr {p.symm,by lia};rw[qb rfl];refine AN (n:=vs.length) (by rw[yh,Array.size_reverse,Array.size_map,m]) (by simp) λk hk=>?_;have h1:=lt (vs.length-1-k) (by lia);rw[Array.getElem?_toList,Array.getElem?_reverse<|by rw[Array.size_map,m];exact hk,Array.size_map,m,Array.getElem?_map,G.at_ _<|by rw[d];lia,c _ h1,l _<|by lia,zm,List.getElem?_range hk];rfl
theorem Ru(O:κ.OneLt)(hk:s.heap.get? kS=ϑ (seqObj "list" us.toArray e))(ha:s.heap.get? a=ϑ (seqObj "list" #[] e1))(B:kS≠a)(hl:us.length=vs.length)(X:vs.length<64)(h0:∀u∈us,∃x,κ.keyOf u=ϑ x) (n:∀oB oE rest,us=oB::oE::rest->keyKind' (oB::oE::rest).toArray=pure oneType') (h:∀h' c g out,(∀b o,b≠a->b≠kS->s.heap.get? b=ϑ o->h'.get? b=ϑ o)->h'.get? a=ϑ (seqObj "list" out c)->Yz κ b (jg κ us) vs.length g->out.toList=(List.range vs.length).map (λk=>vs.getD (g k) .none)->P (.done<|.ret .none) {s with heap:=h'}): wpAny (model prog w) A (ksk_end a b vs.toArray e1 (.ref kS) us.toArray) P E s:=by
 have H:(us.toArray.zip vs.toArray).size=vs.length:=by rw[Array.size_zip,zr,zr,hl,Nat.min_self]
 have step:∀t:Sem PySem.Fin,wpAny (model prog w) A t P E s->wpAny (model prog w) A (if b=ϱ then (do let _ <-rule "list.sort.reverse";t) else t) P E s:=by intro t I;split;exact zc<|y7 I;exact I
 have d:(if b=ϱ then (us.toArray.zip vs.toArray).reverse else us.toArray.zip vs.toArray).size=vs.length:=by cases b with|false=>exact H|true=>rw[qb rfl,Array.size_reverse,H]
 have keys:KeysOf κ (if b=ϱ then (us.toArray.zip vs.toArray).reverse else us.toArray.zip vs.toArray):=λp hp=>by have hp:p∈us.zip vs:=(by have e2:(us.toArray.zip vs.toArray).toList=us.zip vs:=(by rw[ksk_zip]);cases b with|false=>rw[qa zd,e2]at hp;exact hp|true=>rw[qb rfl,Array.toList_reverse,e2]at hp;exact List.mem_reverse.mp hp);obtain⟨x,y⟩:=p;exact h0 _ (List.of_mem_zip hp).1
 unfold ksk_end;try dsimp only
 refine step _ ?_;by_cases h2:vs.toArray.size<2;{rw[qb h2,qb h2];refine zc<|zB ?_;rw[StateT.run_pure];refine zc<|zB ?_;(try dsimp only);rw[zr]at h2;refine ER (st:=SortSt.mk' general' (if b=ϱ then (us.toArray.zip vs.toArray).reverse else us.toArray.zip vs.toArray) #[] 7 none) hk ha B (by rw[zr];lia) (by show(if b=ϱ then (us.toArray.zip vs.toArray).reverse else us.toArray.zip vs.toArray).size<64;lia) rfl λh' c v z=>?_;obtain⟨g,q,r⟩:=Ju (κ:=κ) (b:=b) (xs:=if b=ϱ then (us.toArray.zip vs.toArray).reverse else us.toArray.zip vs.toArray) (g:=λk=>k) hl d {λ_ _=>rfl,λ_ hk=>hk,λ_ _ _ _ e=>e} (λi j R S=>by lia);exact h h' c g _ v z q r};{rw[qa h2,qa h2];rw[zr]at h2;obtain⟨oB,oE,rest,F⟩:∃oB oE rest,us=oB::oE::rest:=(by match us,hl with|[],hl=>simp at hl;lia|[_],hl=>simp at hl;lia|oB::oE::rest,_=>exact⟨oB,oE,rest,rfl⟩);have N:keyKind' us.toArray=pure oneType':=(by rw[F];exact n _ _ _ F);rw[N];refine zc<|zB ?_;refine zc<|yz (Rp (κ:=κ) O (a₀:=if b=ϱ then (us.toArray.zip vs.toArray).reverse else us.toArray.zip vs.toArray) (st:=SortSt.mk' oneType' (if b=ϱ then (us.toArray.zip vs.toArray).reverse else us.toArray.zip vs.toArray) #[] 7 none) (Q:=λ_ l=>failedOf l=ϐ/\(arrOf l).size=vs.length/\∃g,Gh (if b=ϱ then (us.toArray.zip vs.toArray).reverse else us.toArray.zip vs.toArray) g (arrOf l)/\CU κ (if b=ϱ then (us.toArray.zip vs.toArray).reverse else us.toArray.zip vs.toArray) g vs.length) keys {Array.Perm.refl _,rfl,rfl,rfl} rfl (by lia) (by lia) λl g J L M C=>{J,L.trans d,g,M,by rw[d]at C;exact C}) ?_ λ_ _ e=>e;rintro⟨⟨⟩,l⟩ s' ⟨rfl,hf,m,g,G,U⟩;(try dsimp only);have m:(arrOf l).size=vs.length:=m;refine ER hk ha B (by rw[zr];lia) (by lia) hf λh' c v z=>?_;obtain⟨K,q,r⟩:=Ju (κ:=κ) hl m G U;exact h h' c K _ v z q r}
end
structure OM(X:Cx)(pins:δ (ε×Obj))(b:ε):η where
 loc:b≠X.env.locals
 fs:b∉X.fs
 cell:∀x c,X.env.cells.lookup x=ϑ c->c≠b
 pin:∀p∈X.pn++pins,p.1≠b
 new:X.dI.heap.objs.size<=b
section
variable{X:Cx}{pins:δ (ε×Obj)}{σ:St}{H:Hp}{s:ζ}
theorem Inv.YA(I:Inv X pins σ H s)(h:s.heap.objs.size<=b):OM X pins b:={yw<|zt I.lt h,I.Ur h,λx c e=>by obtain⟨v,q⟩:=I.cell x c e;exact zC<|zt q.lt h,λp hp=>zC<|zt (zu (I.pin p hp).1) h,zH I.sz h}
theorem Inv.MW(I:Inv X pins σ H s)(kp:∀b o,b≠a->b≠k->s.heap.get? b=ϑ o->h'.get? b=ϑ o)(ha:H a=ϐ)(hk:H k=ϐ)(g:OM X pins a)(h:OM X pins k):Inv X pins σ H {s with heap:=h',toks:=t'}:=by have i:∀b u,H b=ϑ u->b≠a/\b≠k:=λb u e=>{λz=>(by rw[z,ha]at e;cases e),λz=>(by rw[z,hk]at e;cases e)};refine I.step (g':=s.gens) (d':=s.drawn) (ch:=[a,k]) (λb j=>?_) (λb o _ _ d e _=>kp b o (λz=>d<|by simp[z]) (λz=>d<|by simp[z]) e) (λb o _ _ d e _=>{o.slots,kp b o (λz=>d<|by simp[z]) (λz=>d<|by simp[z]) e}) (λ_ _ _ _ n=>n) (λb o d e=>{o,kp b o (λz=>d<|by simp[z]) (λz=>d<|by simp[z]) e}) (λ_ _ e=>e) (λ_ _ _ e=>e) (λb ps e=>{#[],by rw[e];simp}) (λm hm=>?_) (λb u e=>?_) I.bare;simp only[zj,zN,or_false]at j;rcases j with rfl|rfl;exact{.inr g.new,g.loc,g.cell,g.pin};exact{.inr h.new,h.loc,h.cell,h.pin};obtain⟨o,es,ep,ho,r⟩:=hm;exact{o,es,ep,kp _ o (Ne.symm g.loc) (Ne.symm h.loc) ho,r};refine(I.aG b u e).oa (λc v d q=>?_) (λ_ q=>q) λ_ _ q=>q;rcases d with z|z;rw[z]at q⊢;exact kp b v (i b u e).1 (i b u e).2 q;exact kp c v (i c _ z).1 (i c _ z).2 q
theorem Inv.WD(I:Inv X pins σ H s)(ha:H a=ϐ)(A:OM X pins a)(new:bf X.prog X.w (upd H a o) s.heap a o):Inv X pins σ (upd H a o) s:=by refine I.step (h':=s.heap) (g':=s.gens) (d':=s.drawn) (t':=s.toks) (ch:=[a]) (λb g=>?_) (λb o _ _ d e _=>e) (λb o _ _ d e _=>⟨o.slots,e⟩) (λb u d e n=>?_) (λb o d e=>⟨o,e⟩) (λb xs e=>?_) (λb u v e=>?_) (λb ps e=>?_) (λm hm=>hm) (λb u e=>?_) I.bare;rw[zL.mp g];exact{.inr A.new,A.loc,A.cell,A.pin};rw[au λz=>d<|by simp[z]];exact n;rw[au<|az e ha];exact e;rw[au<|az e ha];exact e;exact{#[],by rw[au<|az e ha,e];simp};by_cases g:b=a;subst g;rw[aC]at e;cases e;exact new;rw[au g]at e;exact(I.aG b u e).oa (λc v _ q=>q) (λc q=>by rw[au<|az q ha];exact q) λc xs q=>by rw[au<|az q ha];exact q
end
def Jv(X:Cx)(pins:δ<|ε×Obj)(σ:St)(A:ϕ)(f:ε)(xs:δ V)(W:π->δ V->Hp->η):Prop:=∀i x u ks s' H' more,Inv X (pins++more) σ H' s'->W i ks H'->xs[i]?=some x->RelV x u->codeAny (model X.prog X.w) A (.call (.ref f) {[u],[]}) (λq Ca=>∃w,q=.ok (.ret w)/\CE X.stack X.prog X.w H' s' (λk a=>W (i+1) (ks++[k]) a) w Ca) s'
structure ON(κ:KeyKind)(us:δ ξ):η where
 all:∀u∈us,∃x,κ.keyOf u=ϑ x
 kind:∀oB oE rest,us=oB::oE::rest->keyKind' (oB::oE::rest).toArray=pure oneType'
section
variable{X:Cx}{pins:δ (ε×Obj)}{σ:St}{H:Hp}{s:ζ}{A:ϕ}{E:ξ->ζ->η}{xs:δ V}{vs:δ ξ}{f:ε}{b:χ}{κ:KeyKind}{W:π->δ V->Hp->η}
theorem GP{P:PySem.Fin->ζ->η}(hO:κ.OneLt)(I:Inv X pins σ H s)(ha:s.heap.get? a=ϑ (seqObj "list" #[] e1))(hk:s.heap.get? kS=ϑ (seqObj "list" #[] 0))(U:kS≠a)(na:H a=ϐ)(nk:H kS=ϐ)(O:OM X pins a)(t:OM X pins kS) (S:Vals xs vs) (HP:vs.length<64) (T:Jv X pins σ A f xs W) (w0:W 0 [] H) (G:∀ks us H',W vs.length ks H'->Vals ks us->ks.length=vs.length->ON κ us) (h:∀s' H' ks us c g out,Inv X pins σ H' s'->H' a=ϐ->s'.heap.get? a=ϑ (seqObj "list" out c)->W vs.length ks H'->Vals ks us->ks.length=vs.length->Yz κ b (jg κ us) vs.length g->out.toList=(List.range vs.length).map (λk=>vs.getD (g k) .none)->P (.done<|.ret .none) s'): wpAny (model X.prog X.w) A (ksk_rest a (.ref f) b vs.toArray e1<|.ref kS) P E s:=by
 have nc:∀(k:Array ξ) (n:π) (v:θ ξ),(seqObj "list" k n).data≠.cell v:=λ_ _ _ z=>nomatch z;unfold ksk_rest;refine zc<|y7 ?_;rw[List.forIn_toArray];refine zc<|ksk_fold (λi s'=>∃ks d e H',Inv X pins σ H' s'/\W i ks H'/\Vals ks d.toList/\ks.length=i/\H' a=ϐ/\H' kS=ϐ/\s'.heap.get? a=ϑ (seqObj "list" #[] e1)/\s'.heap.get? kS=ϑ (seqObj "list" d e)) vs 0 s {[],#[],0,H,I,w0,.nil,rfl,na,nk,ha,hk} ?_ ?_;rintro j x s' hx ⟨ks,d,e,H',l,K,J,F,N,B,C,L⟩;simp only[Nat.zero_add]at F K⊢;have hj:j<vs.length:=(ze.mp hx).1;have hl:xs.length=vs.length:=S.length;obtain⟨y,R⟩:∃y,xs[j]?=some y:={_,zf<|by lia};obtain⟨u,hu,ru⟩:=S.get R;rw[hx]at hu;cases hu;have Z:Inv X (pins++[(a,seqObj "list" #[] e1),(kS,seqObj "list" d e)]) σ H' s':=by refine{l.ok,l.os,l.bare,l.base,l.loc,l.cell,l.free,l.dS,λp hp=>?_,l.aG,l.len};rcases zO.mp hp with hp|hp;exact l.pin p<|yi _ hp;rcases zO.mp hp with hp|hp;exact l.pin p<|zK _ hp;simp only[zj,zN,or_false]at hp;rcases hp with rfl|rfl;exact{C,N,O.loc,O.fs,nc _ _};exact{L,B,t.loc,t.fs,nc _ _}
 have hz:d.size=j:=by have h1:ks.length=d.toList.length:=J.length;have h2:d.toList.length=d.size:=yh;lia
 refine zc<|wpAny_attempt<|wpAny_call<|y6 (T j y x ks s' H' _ Z K R ru) λr s2 hq=>?_;obtain⟨w,rfl,ce⟩:=hq;obtain⟨k,H2,m,rk,w2⟩:=Z.after ce;dsimp only;have Y:=m.pin (a,seqObj "list" #[] e1)<|zK _<|zK _ (by simp);have M:=m.pin (kS,seqObj "list" d e)<|zK _<|zK _ (by simp);have I3:Inv X pins σ H2 s2:={m.ok,m.os,m.bare,m.base,m.loc,m.cell,m.free,m.dS,λp hp=>m.pin p<|by rcases zO.mp hp with z|z;exact yi _ z;exact zK _<|yi _ z,m.aG,m.len};have s1:=yL s2.heap kS (Obj.mapSeq (·.push w));obtain⟨Q,LY⟩:∃Q,(s2.heap.update kS (Obj.mapSeq (·.push w))).get? kS=ϑ (seqObj "list" (d.push w) Q):={_,get?_update_seq M.1 (·.push w)};refine zc<|listUpdate_at M.1 rfl ?_ (by rw[yf];lia)<|zH (Nat.le_of_eq<|Array.size_push ..) (by rw[yf];lia);refine zB {rfl,ks++[k],d.push w,Q,H2,I3.turned (t':=s2.toks) (it:=kS) (λb o hb q=>(s1.2 b hb).trans q) M.2.1 t.loc (.inr t.new) t.cell t.pin,w2,?_,by simp[F],Y.2.1,M.2.1,(s1.2 a U.symm).trans Y.1,LY};rw[show(d.push w).toList=d.toList++[w] by simp];exact J.append<|.cons rk .nil;rintro s' ⟨ks,d,e,H',l,K,J,F,N,B,C,L⟩;simp only[Nat.zero_add]at F K;refine zc<|listItems_at L rfl ?_;have eA:d=d.toList.toArray:=by simp
 have good:=G ks d.toList H' K J F;have hl:d.toList.length=vs.length:=by have h1:ks.length=d.toList.length:=J.length;lia
 rw[eA]at L;show wpAny _ _ (ksk_end a b vs.toArray e1 (.ref kS) d) _ _ _;rw[eA];refine Ru (κ:=κ) hO L C U hl HP good.all good.kind λh' c g out k1 k2 k3 k4=>?_;exact h _ H' ks d.toList c g out (l.MW (t':=s'.toks) k1 N B O t) N k2 K J F k3 k4
theorem vj(hO:κ.OneLt)(I:Inv X pins σ H s)(hl:iD X.K H l xs)(L:xs.length<64)(YC:argsOk "sorted" {[.ref l],kw})(P:∀x,argsOk "list.sort" {[.ref x],kw})(ht:∀x,Builtin.«list.sort» {[.ref x],kw}=ksk_tree x (.ref f) b) (T:Jv X pins σ A.in1.in1 f xs W) (w0:W 0 [] H) (G:∀ks us H',W xs.length ks H'->Vals ks us->ks.length=xs.length->ON κ us) (h:∀H' ks us g D,W xs.length ks H'->Vals ks us->ks.length=xs.length->Yz κ b (jg κ us) xs.length g->H' D=ϐ->Q (.ref D) (upd H' D<|.lst<|(List.range xs.length).map λk=>xs.getD (g k) .ay)): wpAny (model X.prog X.w) A (call (.builtin "sorted") [.ref l] kw) (EP X pins σ Q) E s:=by
 obtain⟨vs,t,O,_⟩:=I.list hl;have TU:xs.length=vs.length:=t.length;rw[TU]at L G h;refine call_function_entry_kw kind_sorted plain_sorted entry_sorted YC ?_;unfold Builtin.«sorted»;refine zc (m:=checkCount "sorted" 1 1 _)<|zB ?_;refine zc<|collect_list O.isList ?_ (by rw[yf];lia);refine zc<|wpAny_newList ?_ (by rw[yf];lia);have e:((s.heap.push<|seqObj "list" #[] 0).update s.heap.objs.size (Obj.mapSeq (·++vs.toArray))).objs.size=s.heap.objs.size+1:=by rw[Heap.size_update,size_push']
 have i:(((s.heap.push<|seqObj "list" #[] 0).update s.heap.objs.size (Obj.mapSeq (·++vs.toArray))).push<|seqObj "list" vs.toArray 0).get? (s.heap.objs.size+1)=ϑ (seqObj "list" vs.toArray 0):=by rw[<-e];exact zp _ rfl
 have keep:∀b o,s.heap.get? b=ϑ o->(((s.heap.push<|seqObj "list" #[] 0).update s.heap.objs.size (Obj.mapSeq (·++vs.toArray))).push<|seqObj "list" vs.toArray 0).get? b=ϑ o:=λb o q=>by have r:b<s.heap.objs.size:=zu q;rw[Heap.get?_push_ne _ _ _<|by rw[e];exact zC<|Nat.lt_succ_of_lt r,Heap.get?_update_ne _ _ _ _<|zC r,Heap.get?_push_ne _ _ _<|zC r];exact q
 show wpAny _ _ _ _ _ {s with heap:=((s.heap.push<|seqObj "list" #[] 0).update s.heap.objs.size (Obj.mapSeq (·++vs.toArray))).push<|seqObj "list" vs.toArray 0};rw[e];generalize hg:((s.heap.push<|seqObj "list" #[] 0).update s.heap.objs.size (Obj.mapSeq (·++vs.toArray))).push (seqObj "list" vs.toArray 0)=h1 at i keep⊢;have R:Inv X pins σ H {s with heap:=h1}:=I.kept (t':=s.toks) keep;have d:OM X pins (s.heap.objs.size+1):=I.YA<|yJ _;have v:H (s.heap.objs.size+1)=ϐ:=I.aG.fresh<|yJ _;generalize s.heap.objs.size+1=a at i d v⊢;refine zc<|yS<|wpAny_call_entry_kw slot_list_sort {_,i,rfl} entry_list_sort ?_<|P _;show wpAny (model X.prog X.w) A.in1.in1 (Builtin.«list.sort» {[.ref a],kw}) _ _ _;rw[ht a];have s1:=yL h1 a<|Obj.mapSeq λ_=>(#[]:Array ξ);obtain⟨e1,n⟩:∃e1,(h1.update a<|Obj.mapSeq λ_=>(#[]:Array ξ)).get? a=ϑ (seqObj "list" #[] e1):={_,get?_update_seq i λ_=>#[]};have j:Inv X pins σ H {s with heap:=h1.update a<|Obj.mapSeq λ_=>(#[]:Array ξ)}:=Inv.turned (s:={s with heap:=h1}) (h':=h1.update a<|Obj.mapSeq λ_=>(#[]:Array ξ)) (t':=s.toks) (it:=a) R (λb o Y q=>(s1.2 b Y).trans q) v d.loc (.inr d.new) d.cell d.pin;unfold ksk_tree;refine zc<|listItems_at i rfl ?_;refine zc<|listUpdate_at i rfl ?_ (by rw[zr,yf];lia)<|yb _;refine zc<|seqEpoch_at n rfl ?_;refine zc<|wpAny_newTuple ?_ (by show vs.length<=_;rw[yf];lia);refine zc<|wpAny_newList ?_<|yb _;refine yS ?_;generalize h1.update a (Obj.mapSeq λ_=>(#[]:Array ξ))=h2 at n j⊢;have F:∀b u,h2.get? b=ϑ u->((h2.push<|seqObj "tuple" vs.toArray 0).push<|seqObj "list" #[] 0).get? b=ϑ u:=λb u q=>za _<|za _ q;have M:Inv X pins σ H {s with heap:=(h2.push<|seqObj "tuple" vs.toArray 0).push<|seqObj "list" #[] 0}:=j.kept (t':=s.toks) F;have p:h2.objs.size<=(h2.push<|seqObj "tuple" vs.toArray 0).objs.size:=by rw[size_push'];exact yJ _
 refine GP (s:={s with heap:=(h2.push<|seqObj "tuple" vs.toArray 0).push<|seqObj "list" #[] 0}) (kS:=(h2.push<|seqObj "tuple" vs.toArray 0).objs.size) hO M (F _ _ n) (zp _ rfl) (yw<|zt (zu n) p) v (j.aG.fresh p) d (j.YA p) t L T w0 G λs' H' ks us c g out J B o1 N v1 l1 C U=>{.none,rfl,?_};refine zB !{.ref a,_,J.WD (o:=.lst<|(List.range vs.length).map λk=>xs.getD (g k) .ay) B d {?_,out.toList,c,?_,?_},rfl,h H' ks us g a N v1 l1 C B};rw[zb,List.length_range,yf];lia;rw[U];have:∀(ns:δ π),(∀k∈ns,g k<vs.length)->Vals (ns.map λk=>xs.getD (g k) .ay) (ns.map λk=>vs.getD (g k) .none):=λns=>by induction ns with|nil=>exact λ_=>.nil|cons k ns Z=>intro hk;have S:=hk k zq;obtain⟨y,z⟩:∃y,xs[g k]?=some y:={_,zf<|by lia};obtain⟨u,hu,ru⟩:=t.get z;refine .cons ?_<|Z λk dE=>hk k<|zg _ dE;show RelV (xs.getD (g k) .ay) (vs.getD (g k) .none);rw[zM,z,zM,hu];exact ru
 exact this _ λk hk=>C.lt k<|zW.mp hk;rw[o1]
end
def Bm(mg:ρ->θ ξ)(base:Γ):Prop:=∃bm o,mg "__builtins__"= some (.ref bm)/\bm≠builtinsNs/\base.get? bm=ϑ o/\o.cls=.type "module"/\o.dict=ϑ builtinsNs/\o.data=.plain
structure Mkr(K:Φ)(mg:ρ->θ ξ)(base:Γ)(c P:ε):η where
 hd:codeHdIn K c P=ϱ
 bm:Bm mg base
set_option tactic.hygienic true in
theorem CW{pos p2:Pos}{c cv:ξ}(l:δ ξ)(h:TriplesOk l)(e:codeAmong pos (l++[rawInt p2.line,rawInt p2.col,c])=ϑ cv):codeAmong pos l=ϑ cv\/cv=c:=by fun_induction TriplesOk l with|case1=>(simp only[List.nil_append,rawInt,codeAmong]at e;split at e;cases e;exact .inr rfl;cases e)|case2 a t b u x rest d=>simp only[List.cons_append,codeAmong]at e⊢;split at e;rename_i hc;rw[qb hc];exact .inl e;rename_i hc;rw[qa hc];exact d h e|case3 l h1 h2=>exact h.elim
section
variable{X:Cx}{pins:δ (ε×Obj)}{σ:St}{H:Hp}{s:ζ}
theorem Inv.tab{h':Γ}{tk:π}{P c:ε}{ps l:Array ξ}{oc fo:Obj}(I:Inv X pins σ H s)(j:H P=ϑ (.qN ps))(hx:Heap.ExtBut P s.heap h')(h1:s.heap.objs.size<=c)(h2:c<h'.objs.size)(p:h'.get? c=ϑ oc)(hp:h'.get? P=ϑ (tabObj<|ps++l)): Inv X pins σ (upd (upd H P<|.qN<|ps++l) c<|.lA oc<|.own 0) {s with heap:=h'.push fo,toks:=tk}:=by
 have m:c≠P:=λz=>absurd (zt (I.aG.lt j)<|z ▸ h1)<|yI _;have i:H c=ϐ:=I.aG.fresh h1;have other:∀b,b≠P->b≠c->upd (upd H P<|.qN<|ps++l) c (.lA oc<|.own 0) b=H b:=λb w t=>by rw[au t,au w]
 have h:∀b o,H b=ϑ o->(∀q,o≠.qN q)->b≠P:=λb o e z q=>by rw[q,j]at e;cases e;exact z _ rfl
 have g:∀b,H b=ϐ->b≠P:=λb e q=>by rw[q,j]at e;cases e
 have lt:∀b o,s.heap.get? b=ϑ o->b≠c:=λb o e=>zC<|zt (zu e) h1;refine I.un (h':=h'.push fo) {λb o e n _ _=>za _<|hx b o (g b n) e,λb o e n _ _=>{o.slots,za _<|hx b o (g b n) e},λb o e n _=>by rw[other b (g b n)<|lt b o e];exact n,λb o e _=>?_,λb xs e=>by rw[other b (h b _ e λ_=>nofun)<|az e i];exact e,λb o u e=>by rw[other b (h b _ e λ_=>nofun)<|az e i];exact e,λb q e=>?_} λb u e=>?_;by_cases a:b=P;rw[a];exact{_,za _ hp};exact{o,za _<|hx b o a e};by_cases a:b=P;subst a;rw[j]at e;cases e;exact{l,by rw[au<|Ne.symm m,aC]};exact{#[],by rw[other b a<|az e i,e];simp};by_cases r:b=c;subst r;rw[aC]at e;cases e;exact{za _ p,_,za _ p};rw[au r]at e;by_cases a:b=P;subst a;rw[aC]at e;cases e;exact za _ hp;rw[au a]at e;refine(I.aG b u e).oa (λd v hd q=>?_) (λd q=>by rw[other d (h d _ q λ_=>nofun)<|az q i];exact q) λd xs q=>by rw[other d (h d _ q λ_=>nofun)<|az q i];exact q
 rcases hd with rfl|hd;exact za _<|hx d v a q;exact za _<|hx d v (h d _ hd λ_=>nofun) q
theorem Inv.ES(I:Inv X pins σ H s)(ho:s.heap.get? f=ϑ o)(hn:H f=ϐ)(A:OM X pins f)(d:∀v,o.data≠.cell v):Inv X (pins++[(f,o)]) σ H s:=by refine{I.ok,I.os,I.bare,I.base,I.loc,I.cell,I.free,I.dS,λp hp=>?_,I.aG,I.len};rcases zO.mp hp with hp|hp;exact I.pin p<|yi _ hp;rcases zO.mp hp with hp|hp;exact I.pin p<|zK _ hp;rw[zL.mp hp];exact⟨ho,hn,A.loc,A.fs,d⟩
structure WE(X:Cx)(pins:δ (ε×Obj))(σ:St)(H H':Hp)(P:ε)(q:ρ)(params:Arguments)(body:Δ)(scope:Scope)(u:ξ)(s':ζ)(f:ε)(pm cv mf:ξ):η where
 u:u=.ref f
 inv:Inv X (pins++[(f,AM X q params body scope pm cv mf)]) σ H' s'
 code:∃c o vs t,cv=.ref c/\H' c=ϑ (.lA o<|.own 0)/\o.data=.fields vs/\vs[1]?=some (.str q t)
 same:∀b,H' b=H b\/(b=P/\∃ps,H' b=ϑ (.qN ps)/\EH H' q ps)\/(H b=ϐ/\∃o,H' b=ϑ (.lA o<|.own 0))
theorem AO{M:Model}{A:ϕ}{E:ξ->ζ->η}{N:δ ρ}{src:δ<|θ π}{scope:Scope}{params:Arguments}{body:Δ}{pos:Pos}{c P:ε}{q:ρ}{ps:Array ξ}{Q:ξ->ζ->η}(I:Inv X pins σ H s)(S:bj X N src scope)(B:X.env.code=.ref c)(mk:Mkr X.K X.mg X.base c P) (i:H P=ϑ (.qN ps)) (ok:EH H q ps) (hq:X.env.qual ++ "<lambda>"= q) (Jw:defaultsOf params X.env=([],[])) (h:∀u s' H' f pm cv mf,WE X pins σ H H' P q params body scope u s' f pm cv mf->Q u s'):wpAny M A (eval (.Lambda params body scope pos) X.env) Q E s:=by
 have C:closureFor scope X.env=pure (clOf X.env.cells scope.names):=gJ λy hy hf=>I.ok.has y.1<|S.BL y hy hf;have l:s.heap.get? P=ϑ (tabObj ps):=I.aG P _ i;have hg:s.heap.Ns mainGlobals X.mg:=I.mod.glob.keeps I.bk;have F:=codeHd_of_K I.n5 mk.hd;obtain⟨bm,O,b1,b2,b3,R,b5,Y⟩:=mk.bm;have n:s.heap.get? bm=ϑ O:=I.bk _ _ b3;have x:mainGlobals≠P:=λz=>by obtain⟨o,es,ep,e,d,_⟩:=id hg;rw[z,l]at e;cases e;cases d
 have r:bm≠mainGlobals:=λz=>by obtain⟨o,es,ep,e,d,_⟩:=id hg;rw[<-z,n]at e;cases e;rw[Y]at d;cases d
 have p:bm≠P:=λz=>by rw[z,l]at n;cases n;cases R
 have U:s.heap.BuiltinsAt X.mg P:=⟨bm,O,b1,b2,r,p,n,R,b5,Y⟩;have a0:H P≠none:=by rw[i];nofun
 refine PySem.W.kla_eval Jw ?_;rw[hq];cases hf:codeAmong pos ps.toList with|none=>(refine PySem.W.kla_makeFunction C I.ok.glob hg B F l ok.1 hf x U λg mf h' tk hx h1 h2 hr hp=>?_;obtain⟨c2,oc,vs,t,e2,X6,hd,L⟩:=hr;cases e2;have J:=I.tab (tk:=tk) (fo:=AM X q params body scope ((X.mg "__name__").getD .none) (.ref g) mf) i hx h1 h2 X6 hp;have a1:g≠P:=λz=>absurd (zt (I.aG.lt i)<|z ▸ h1)<|yI _;have Z:H g=ϐ:=I.aG.fresh h1;have fresh:∀b,h'.objs.size<=b->upd (upd H P<|.qN<|ps++#[rawInt pos.line,rawInt pos.col,.ref g]) g (.lA oc<|.own 0) b=ϐ:=λb j=>(by have G:s.heap.objs.size<=b:=zH (zH h1<|yR h2) j;rw[au<|yw<|zt h2 j,au<|yw<|zt (I.aG.lt i) G];exact I.aG.fresh G);have a:s.heap.objs.size<=h'.objs.size:=zH h1<|yR h2;refine h _ _ _ h'.objs.size _ _ _ {rfl,J.ES (zp _ rfl) (fresh _<|zk _) (I.YA a) (λv z=>nomatch z),⟨g,oc,vs,t,rfl,aC,hd,L⟩,λb=>?_};by_cases w:b=g;subst w;exact .inr<|.inr ⟨Z,oc,aC⟩;by_cases j:b=P;subst j;refine .inr<|.inl {rfl,_,by rw[au w,aC],?_,λp2 cv e=>?_};rw[Array.toList_append];exact TriplesOk_snoc _ _ _ _ ok.1;rw[Array.toList_append]at e;rcases CW _ ok.1 e with e|e;obtain⟨d,o,ws,t2,z1,m,z3⟩:=ok.2 p2 cv e;exact{d,o,ws,t2,z1,by rw[au<|az m Z,au λz=>by rw[z,i]at m;cases m];exact m,z3};exact⟨g,oc,vs,t,e,aC,hd,L⟩;exact .inl<|by rw[au w,au j])|some cv=>refine PySem.W.kla_makeFunctionHit C I.ok.glob hg B F l ok.1 hf U λmf h' tk hk a=>?_;have J:Inv X pins σ H {s with heap:=h'.push<|AM X q params body scope ((X.mg "__name__").getD .none) cv mf,toks:=tk}:=I.kept λb u e=>za _<|hk b u e;exact h _ _ _ h'.objs.size _ _ _ {rfl,J.ES (zp _ rfl) (I.aG.fresh a) (I.YA a) (λv z=>nomatch z),ok.2 pos cv hf,λb=>.inl rfl}
end
def WG:D->D->η|.int a,.int b=>a<b|.str a,.str b=>a.cps.toList<b.cps.toList|_,_=>False
def AQ(ks:δ D):Prop:=(∃zs:δ ρ,ks=zs.map D.str)\/∃ns:δ ν,ks=ns.map D.int
structure Rw(b:χ)(key:π->D)(n:π)(g:π->π):η where
 lt:∀k,k<n->g k<n
 inj:∀i j,i<n->j<n->g i=g j->i=j
 ord:∀i j,i<j->j<n->(if b=ϱ then WG (key<|g j) (key<|g i) else WG (key<|g i) (key<|g j))\/(key (g i)=key (g j)/\g i<g j)
def AR(b:χ)(P:ε)(q:ρ)(src:δ<|θ π)(te:TD)(σ:SD)(R:KD)(d:D)(S1:ak):Prop:=∃(l:ε)(xs:δ D)(f:D->D),d=.ref l/\S1 l=ϑ (.lst xs)/\xs.length<64/\S1 P=ϑ (.tab q)/\AQ (xs.map f)/\(∀x,x∈xs->∀S',Sub S1 S'->∀Qk:KD,(∀S2,Sub S' S2->Qk (f x) S2)->te ((mE σ src).set 0<|some x) S' Qk Zf)/\∀g S2 p,Rw b (λj=>f<|xs.getD j .ay) xs.length g->Sub S1 S2->S2 p=ϐ->R (.ref p) (S2.set p<|.lst<|(List.range xs.length).map λk=>xs.getD (g k) .ay)
def OO(b:χ)(P:ε)(q:ρ)(src:δ<|θ π)(tl te:TD):TD:=λσ S R Z=>tl σ S (λd S1=>AR b P q src te σ R d S1) Z
def Jx(F:D->ak->η):δ D->ak->η|[d],S=>F d S|_,_=>False
theorem ET{F:D->ak->η}{ds:δ D}{S:ak}(h:Jx F ds S):∃d,ds=[d]/\F d S:=by match ds,h with|[d],h=>exact⟨d,rfl,h⟩
theorem sG:∀{ss:δ ν}{a:δ ξ},Vals (ss.map V.int) a->IntsAre a ss|[],_,.nil=>.nil|z::ss,_,.cons r t=>by obtain⟨tk,rfl⟩:=r;exact .cons z tk<|sG t
theorem sH:∀{us:δ ξ}{zs:δ ρ},StrsAre us zs->∀j,j<zs.length->jg strKind us j=(zs.getD j "").cps.toList|_,_,.cons z t h,0,_=>rfl|_,_,.cons z t h,j+1,hj=>by have:=sH h j (by simpa using hj);unfold jg at this⊢;rw[List.getD_cons_succ,List.getD_cons_succ];exact this
theorem sI:∀{us:δ ξ}{zs:δ ν},IntsAre us zs->∀j,j<zs.length->jg intK us j=zs.getD j 0|_,_,.cons z t h,0,_=>rfl|_,_,.cons z t h,j+1,hj=>by have:=sI h j (by simpa using hj);unfold jg at this⊢;rw[List.getD_cons_succ,List.getD_cons_succ];exact this
theorem Jy(h:StrsAre us zs):∀u∈us,∃x,strKind.keyOf u=ϑ x:=by induction h with|nil=>(intro u hu;cases hu)|cons z t h a=>intro u hu;rcases zj.mp hu with rfl|hu;exact{_,rfl};exact a u hu
theorem Jz(h:IntsAre us zs):∀u∈us,∃x,intK.keyOf u=ϑ x:=by induction h with|nil=>(intro u hu;cases hu)|cons z t h a=>intro u hu;rcases zj.mp hu with rfl|hu;exact{_,rfl};exact a u hu
theorem JA{xs:δ D}{f:D->D}{j:π}(a:j<xs.length):(xs.map f)[j]?=some (f<|xs.getD j .ay):=by rw[zm,zM,zf a];rfl
theorem wK{K:Φ}{H:Hp}{ds:δ D}{xs:δ V}(h:RvAll K H ds xs)(g:π->π):∀(ns:δ π),(∀k∈ns,g k<ds.length)->RvAll K H (ns.map λk=>ds.getD (g k) .ay) (ns.map λk=>xs.getD (g k) .ay)|[],_=>bu|k::ns,hk=>by have hk0:=hk k zq;obtain⟨v,e,r⟩:=h.get<|zf hk0;refine aO ?_<|wK h g ns λk a=>hk k<|zg _ a;show Rv K H (ds.getD (g k) .ay) (xs.getD (g k) .ay);rw[zM,zf hk0,zM,e];exact r
section
variable{K:Φ}{Y:Cx}{pins:δ (ε×Obj)}{τ:St}{H H2:Hp}{s:ζ}{N:δ ρ}{src:δ (θ π)}{scope:Scope}{params:Arguments}{body:Δ}{q p:ρ}{pm cv mf:ξ}{f l:ε}{te:TD}{b:χ}{kw:δ (ρ×ξ)}{k:π}
theorem AS{σ:SD}{S1:ak}{xs:δ D}{a:D->D}{Q:VK}{R:KD}{E:ξ->ζ->η}(I:Inv Y (pins++[(f,AM Y q params body scope pm cv mf)]) τ H s)(hK:Y.K=K)(WH:Y.calm=ϱ)(hr:bX k Y.A)(pR:∃c o vs t,cv=.ref c/\H c=ϑ (.lA o<|.own 0)/\o.data=.fields vs/\vs[1]?=some (.str q t)) (CS:bj Y N src scope) (MU:N[0]?=some p) (hp:scope.names.lookup p=ϑ .local) (h0:src[0]?=some none) (MV:scope.isCoroutine=ϰ) (CV:scope.isGenerator=ϰ) (hb:∀cl pm cv mf u,bindArgs (kla_fn "<lambda>" q params body scope cl pm cv mf) {[u],[]}=pure [(p,u)]) (he:∀cv s H,DE K (TR Y N q scope f cv Y.A.in1.in1 s H) body te) (aB:iL K H σ τ) (hS:Rs K S1 H) (hl:S1 l=ϑ (.lst xs)) (HP:xs.length<64) (kd:AQ<|xs.map a) (step:∀x,x∈xs->∀S',Sub S1 S'->∀Qk:KD,(∀h,Sub S' h->Qk (a x) h)->te ((mE σ src).set 0<|some x) S' Qk Zf) (hR:Cn K H R Q) (G:∀g h p,Rw b (λj=>a<|xs.getD j .ay) xs.length g->Sub S1 h->h p=ϐ->R (.ref p) (h.set p<|.lst<|(List.range xs.length).map λk=>xs.getD (g k) .ay)) (YC:argsOk "sorted" {[.ref l],kw}) (YD:∀x,argsOk "list.sort" {[.ref x],kw}) (ht:∀x,Builtin.«list.sort» {[.ref x],kw}=ksk_tree x (.ref f) b): wpAny (model Y.prog Y.w) Y.A (call (.builtin "sorted") [.ref l] kw) (EP Y pins τ Q) E s:=by
 subst hK;obtain⟨vs,hv,P⟩:=hS.lst hl;have O:vs.length=xs.length:=P.len;obtain⟨c,oc,ws,tk,a1,hc,ub,a0⟩:=pR;have drop:∀{u:ξ}{s':ζ},EP Y (pins++[(f,AM Y q params body scope pm cv mf)]) τ Q u s'->EP Y pins τ Q u s':=λ⟨v,H',J,r,q⟩=>{v,H',{J.ok,J.os,J.bare,J.base,J.loc,J.cell,J.free,J.dS,λp hp=>J.pin p<|by rcases zO.mp hp with z|z;exact yi _ z;exact zK _<|yi _ z,J.aG,J.len},r,q};have T:Jv Y (pins++[(f,AM Y q params body scope pm cv mf)]) τ Y.A.in1.in1 f vs λi ks H'=>∃S',Sub S1 S'/\Rs Y.K S' H'/\Kp Y.K H H'/\RvAll Y.K H' ((xs.take i).map a) ks:=by rintro i x u ks s' H' more M ⟨S',sb,rs,kp,m⟩ hx ru;have hi:i<xs.length:=(by have:=(ze.mp hx).1;lia);obtain⟨v,e1,r1⟩:=P.get<|zf hi;rw[hx]at e1;cases e1;have po:=(M.pin (f,AM Y q params body scope pm cv mf)<|zK _<|yi _<|zK _<|by simp).1;have U:s'.heap.CodeRec cv q:={c,oc,ws,tk,a1,(M.aG c _<|kp.f _ _ _ hc).1,ub,a0};refine Jq (A:=Y.A.in1.in1) M CS MU hp h0 M.ok.frames (M.ok.hd WH) (by have:=hr.dp;show Y.A.depth<_;lia) ru po U MV CV (hb _ _ _ _ _) ((he cv s' H').of<|.none _ rfl) ?_;refine{_,S',λkk h=>kk=a xs[i]/\Sub S' h,Zf,((aB.ts kp).pick src).set 0<|Rv.ts kp _ r1,rs,step _ (List.getElem_mem hi) S' sb _ λh h2=>⟨rfl,h2⟩,λkk h v2 H2 ⟨e2,QJ⟩ T4 WI TC=>?_,.f};subst e2;refine{h,sb.trans QJ,WI,kp.trans TC,?_};rw[show xs.take (i+1)=xs.take i++[xs[i]] by rw[List.take_add_one,zf hi];rfl,zI];exact(RvAll.ts TC _ m).app<|aO T4 bu
 have w0:∃S',Sub S1 S'/\Rs Y.K S' H/\Kp Y.K H H/\RvAll Y.K H ((xs.take 0).map a) []:={S1,.refl _,hS,.refl _,by rw[List.take_zero];exact bu};have Oc:iD Y.K H l vs:=.of hv;rcases kd with⟨zs,C⟩|⟨zs,C⟩;have X:zs.length=xs.length:=by have:=congrArg List.length C;rw[zb,zb]at this;exact this.symm
 have L:∀j,j<xs.length->a (xs.getD j .ay)=.str (zs.getD j ""):=λj n=>by have e1:=JA (f:=a) n;rw[C,zm,zf<|by lia]at e1;rw[zM (l:=zs),zf<|by lia];exact(zT e1).symm
 have B:∀ks us H',(∃S',Sub S1 S'/\Rs Y.K S' H'/\Kp Y.K H H'/\RvAll Y.K H' ((xs.take vs.length).map a) ks)->Vals ks us->StrsAre us zs:=λks us H' ⟨S',_,_,_,m⟩ hu=>by rw[O,yP,C]at m;rw[m.strs]at hu;exact sE hu
 refine yz (vj (κ:=strKind) (Q:=Q) (b:=b) strKind_oneLt I Oc (by lia) YC YD ht T w0 (λks us H' d y l1=>{Jy<|B ks us H' d y,λoB oE rest e=>keyKind_strs<|by rw[<-e];exact B ks us H' d y}) λH' ks us g D d y l1 sr Z=>?_) (λu s' z=>drop z) λ_ _ z=>z;have F:=B ks us H' d y;obtain⟨S',sb,rs,kp,m⟩:=d;rw[O]at sr⊢;refine(hR.kp kp).new rs Z (λhp=>G g S' D {sr.lt,sr.inj,λi j jB n=>?_} sb hp)<|wK (RvAll.ts kp _ P) g _ λk hk=>sr.lt k<|zW.mp hk;have h1:=sr.lt i (by lia);have h2:=sr.lt j n;have:=sr.ord i j jB n;rw[sH F _<|by lia,sH F _<|by lia]at this;rw[L _ h1,L _ h2];rcases this with z|⟨S,z2⟩;left;cases b with|false=>rw[qa zd]at z⊢;show(zs.getD (g i) "").cps.toList<(zs.getD (g j) "").cps.toList;exact zG z|true=>rw[qb rfl]at z⊢;show(zs.getD (g j) "").cps.toList<(zs.getD (g i) "").cps.toList;exact zG z
 exact .inr {by rw[aaP S],z2};have X:zs.length=xs.length:=by have:=congrArg List.length C;rw[zb,zb]at this;exact this.symm
 have L:∀j,j<xs.length->a (xs.getD j .ay)=.int (zs.getD j 0):=λj n=>by have e1:=JA (f:=a) n;rw[C,zm,zf<|by lia]at e1;rw[zM (l:=zs),zf<|by lia];exact(zT e1).symm
 have B:∀ks us H',(∃S',Sub S1 S'/\Rs Y.K S' H'/\Kp Y.K H H'/\RvAll Y.K H' ((xs.take vs.length).map a) ks)->Vals ks us->IntsAre us zs:=λks us H' ⟨S',_,_,_,m⟩ hu=>by rw[O,yP,C]at m;rw[m.ints]at hu;exact sG hu
 refine yz (vj (κ:=intK) (Q:=Q) (b:=b) Jr I Oc (by lia) YC YD ht T w0 (λks us H' d y l1=>{Jz<|B ks us H' d y,λoB oE rest e=>keyKind_ints<|by rw[<-e];exact B ks us H' d y}) λH' ks us g D d y l1 sr Z=>?_) (λu s' z=>drop z) λ_ _ z=>z;have F:=B ks us H' d y;obtain⟨S',sb,rs,kp,m⟩:=d;rw[O]at sr⊢;refine(hR.kp kp).new rs Z (λhp=>G g S' D {sr.lt,sr.inj,λi j jB n=>?_} sb hp)<|wK (RvAll.ts kp _ P) g _ λk hk=>sr.lt k<|zW.mp hk;have h1:=sr.lt i (by lia);have h2:=sr.lt j n;have:=sr.ord i j jB n;rw[sI F _<|by lia,sI F _<|by lia]at this;rw[L _ h1,L _ h2];rcases this with z|⟨S,z2⟩;left;cases b with|false=>rw[qa zd]at z⊢;show zs.getD (g i) 0<zs.getD (g j) 0;exact zG z|true=>rw[qb rfl]at z⊢;show zs.getD (g j) 0<zs.getD (g i) 0;exact zG z
 exact .inr {by rw[S],z2}
end
section
variable{K:Φ}{X:Cx}{N:δ ρ}{src:δ (θ π)}{scope:Scope}{params:Arguments}{e body:Δ}{q p x:ρ}{np pos lp kq kq2 cp:Pos}{ci:π}{tl te:TD}{k:π}{c P:ε}
theorem WE.kp{pins:δ<|ε×Obj}{τ:St}{H H':Hp}{u:ξ}{s':ζ}{f:ε}{pm cv mf:ξ}{Y:Cx}(L:WE Y pins τ H H' P q params body scope u s' f pm cv mf){ps:Array ξ}(a:H P=ϑ (.qN ps)):Kp K H H':=.of λb o e=>by rcases L.same b with z|⟨z,_⟩|⟨z,_⟩;exact .inl (by rw[z];exact e);rw[z,a]at e;cases e;exact .inr {λ_=>nofun,λ_ _=>nofun};rw[z]at e;cases e
theorem WE.rs{pins:δ<|ε×Obj}{τ:St}{H H':Hp}{u:ξ}{s':ζ}{f:ε}{pm cv mf:ξ}{Y:Cx}{S:ak}(L:WE Y pins τ H H' P q params body scope u s' f pm cv mf)(c:Rs K S H)(d:S P=ϑ (.tab q)):Rs K S H':=λb x a=>by obtain⟨ps,h,_⟩:=c P _ d;have kp:Kp K H H':=L.kp h;rcases L.same b with z|⟨rfl,j,i,g⟩|⟨z,_⟩;exact(c b x a).keep (λo e=>by rw[z];exact e) kp;rw[d]at a;cases a;exact⟨j,i,g⟩;obtain⟨o,e,_⟩:=(c b x a).has;rw[z]at e;cases e
theorem WJ(C:X.env.code=.ref c)(mk:Mkr K X.mg X.base c P)(hr:bX k X.A)(a:bj X N src scope)(hl:DE K X e tl)(he:∀f cv s H,DE K (TR X N q scope f cv X.A.in1.in1 s H) body te)(hm:X.mg x=ϐ)(M:bootBuiltins x=ϑ (.builtin "sorted")) (hq:ψ (X.env.qual ++ "<lambda>"= q) qQJ) (MU:ψ (N[0]?=some p) qQJ) (hp:ψ (scope.names.lookup p=ϑ .local) qQJ) (h0:ψ (src[0]?=some none) qQJ) (U:ψ (scope.isCoroutine=ϰ) qQJ) (CV:ψ (scope.isGenerator=ϰ) qQJ) (G:ψ (∀cl pm cv mf u,bindArgs (kla_fn "<lambda>" q params body scope cl pm cv mf) {[u],[]}=pure [(p,u)]) qJ3) (Jw:ψ (defaultsOf params X.env=([],[])) qQJ) (hg:ψ (Gl X x) qQJ) (hn:ψ (x≠"__name__") qQZ) (mn:ψ ((x==("__debug__": ρ))=ϰ) qQZ) (i:ψ (backTo pos (starEach [e] X.env)=(false,eval e X.env)::backTo pos (starEach [] X.env)) qQJ) (eC:ψ ((backTo pos<|starEach [e] X.env).any (·.1)=ϰ) qQJ) (x6:ψ (isPlain e=ϱ) qQJ) (J:ψ (X.K=K) qQJ) (E:ψ (X.calm=ϱ) qQJ): DE K X (.Call (.Name x np) [e] [{some "key",.Lambda params body scope lp,kq}] pos) (OO false P q src tl te):=by subst J;refine⟨λy=>?_⟩;rintro pins s τ H Q I ⟨σ,S,R,Z,n,B,t,hR,hZ⟩;refine wpAny_Call_Name_kw<|fE I hg hm M ?_ hn mn;refine callWith_kw (bp (((ac hl an x6).of y) pos pins s τ H (λvs H1=>∃ds S1,Jx (AR false P q src te σ R) ds S1/\RvAll X.K H1 ds vs/\Rs X.K S1 H1/\Kp X.K H H1) I {σ,S,Jx<|AR false P q src te σ R,Z,n,B,t,λds S1 vs H1 r j rs g=>⟨ds,S1,r,j,rs,g⟩,hZ}) λus s1 ⟨vs,H1,F,r1,ds,S1,r,j,rs,g⟩=>?_) i eC;obtain⟨d,rfl,l,xs,fD,rfl,el,HP,m,Y,step,h⟩:=ET r;obtain⟨v,ZZ,rfl,O,T4⟩:=j.cons;cases T4.nil;cases O.ref;obtain⟨u,rfl,ru⟩:=vals1 r1;cases ru;obtain⟨ps,z,aG⟩:=rs P _ m;refine kws_cons<|AO F ⟨a.kind,a.gL,a.loc,a.BL,a.len,a.src⟩ C mk z aG hq Jw λw s2 H2 f pm cv mf L=>?_;refine kws_nil ?_;cases L.u;have o:Kp X.K H1 H2:=L.kp z;exact AS L.inv rfl E hr L.code ⟨a.kind,a.gL,a.loc,a.BL,a.len,a.src⟩ MU hp h0 U CV G (he f) ((n.ts g).ts o) (L.rs rs m) el HP Y step (hR.kp<|g.trans o) h (ksk_s1 _ _) (λx=>ksk_l1 _ _) λx=>ksk_t1 _ _
theorem OP(E:X.env.code=.ref c)(mk:Mkr K X.mg X.base c P)(hr:bX k X.A)(a:bj X N src scope)(hl:DE K X e tl)(he:∀f cv s H,DE K (TR X N q scope f cv X.A.in1.in1 s H) body te)(hm:X.mg x=ϐ)(O:bootBuiltins x=ϑ (.builtin "sorted")) (hq:ψ (X.env.qual ++ "<lambda>"= q) qQJ) (MU:ψ (N[0]?=some p) qQJ) (hp:ψ (scope.names.lookup p=ϑ .local) qQJ) (h0:ψ (src[0]?=some none) qQJ) (Y:ψ (scope.isCoroutine=ϰ) qQJ) (CV:ψ (scope.isGenerator=ϰ) qQJ) (J:ψ (∀cl pm cv mf u,bindArgs (kla_fn "<lambda>" q params body scope cl pm cv mf) {[u],[]}=pure [(p,u)]) qJ3) (Jw:ψ (defaultsOf params X.env=([],[])) qQJ) (hg:ψ (Gl X x) qQJ) (hn:ψ (x≠"__name__") qQZ) (mn:ψ ((x==("__debug__": ρ))=ϰ) qQZ) (i:ψ (backTo pos (starEach [e] X.env)=(false,eval e X.env)::backTo pos (starEach [] X.env)) qQJ) (eC:ψ ((backTo pos<|starEach [e] X.env).any (·.1)=ϰ) qQJ) (x6:ψ (isPlain e=ϱ) qQJ) (M:ψ (X.K=K) qQJ) (F:ψ (X.calm=ϱ) qQJ): DE K X (.Call (.Name x np) [e] [{some "key",.Lambda params body scope lp,kq},{some "reverse",.Constant (.bool true) ci cp,kq2}] pos) (OO true P q src tl te):=by subst M;refine⟨λy=>?_⟩;rintro pins s τ H Q I ⟨σ,S,R,Z,n,B,t,hR,hZ⟩;refine wpAny_Call_Name_kw<|fE I hg hm O ?_ hn mn;refine callWith_kw (bp (((ac hl an x6).of y) pos pins s τ H (λvs H1=>∃ds S1,Jx (AR true P q src te σ R) ds S1/\RvAll X.K H1 ds vs/\Rs X.K S1 H1/\Kp X.K H H1) I {σ,S,Jx<|AR true P q src te σ R,Z,n,B,t,λds S1 vs H1 r j rs g=>⟨ds,S1,r,j,rs,g⟩,hZ}) λus s1 ⟨vs,H1,G,r1,ds,S1,r,j,rs,g⟩=>?_) i eC;obtain⟨d,rfl,l,xs,fD,rfl,el,HP,m,kd,step,h⟩:=ET r;obtain⟨v,ZZ,rfl,U,T4⟩:=j.cons;cases T4.nil;cases U.ref;obtain⟨u,rfl,ru⟩:=vals1 r1;cases ru;obtain⟨ps,z,aG⟩:=rs P _ m;refine kws_cons<|AO G ⟨a.kind,a.gL,a.loc,a.BL,a.len,a.src⟩ E mk z aG hq Jw λw s2 H2 f pm cv mf L=>?_;refine kws_cons<|bp (N8 (X:=y.cx) _ s2 τ H2 (λv H'=>v=.bl true/\H'=H2) L.inv ⟨rfl,rfl⟩) λw2 s3 ⟨v2,H3,C,r3,e3,e4⟩=>?_;subst e3 e4;obtain rfl:w2=Value.bool true:=r3;refine kws_nil ?_;cases L.u;have o:Kp X.K H1 H3:=L.kp z;exact AS C rfl F hr L.code ⟨a.kind,a.gL,a.loc,a.BL,a.len,a.src⟩ MU hp h0 Y CV J (he f) ((n.ts g).ts o) (L.rs rs m) el HP kd step (hR.kp<|g.trans o) h (ksk_s2 _ _ _) (λx=>ksk_l2 _ _ _) λx=>ksk_t2 _ _ _
end
section
variable{P:Ψ}{w:Ω}{K:Φ}{mg:ρ->θ ξ}{base:Γ}
theorem wF.okC{x qual:ρ}{st:Stmt}{f:ε}{fd:FuncData}{N ps:δ ρ}{k:π}{sp:qY}(F:wF K x qual st f fd)(S:gu N ps<|aj st)(len:∀ds S R Z,sp ds S R Z->ds.length=ps.length) (n:∀(gv:ξ)(A:ϕ)(outer:δ Env)(s:ζ)(H:Hp)(E:XK)(ds:δ D)(S:ak)(R:KD)(Z:KX),gv=fd.code->bX k (A.deeper<|envOfC qual (aj st) s.heap.objs.size f gv)->sp ds S R Z->∃t,BN K (kT (f_ P w mg) P w K mg base N qual (aj st) f gv A outer s H E) true (bx st) t/\t {nx:=λ_ S'=>Fo S'<|R .ay,rt:=λd S'=>Fo S'<|R d} (jM N ds) S λ_ C S'=>Fo S'<|Z C):bS P w K mg base (f_ P w mg) (k+1) f fd ps (ud K sp):=by
 obtain⟨oc,od,dV,kV,doc,pm,an,gv,ct,Ql,rfl,lk,m⟩:=F.ex;have B:ps.length<=N.length:=by have:=congrArg List.length S.pre;rw[zE]at this;lia
 refine Of lk m S (by rintro vs H Q E ⟨ds,S',R,Z,v,_,h,_⟩;exact by rw[v.len];exact len _ _ _ _ h) λA outer s H vs Q E hr ⟨ds,S',R,Z,v,j,h,i,o⟩=>?_;obtain⟨t,l,q⟩:=n gv A outer s H E ds S' R Z rfl hr h;have L:df (kT (f_ P w mg) P w K mg base N qual (aj st) f gv A outer s H E) E:=vd;let y:Ev (kT (f_ P w mg) P w K mg base N qual (aj st) f gv A outer s H E) true:={_,(kT (f_ P w mg) P w K mg base N qual (aj st) f gv A outer s H E).xe,λ_=>E,{λp2 τ H1 s1 e s' I h=>Oo L p2 τ H1 s1 e s' I h,λ_ p2 τ H1 s1 h' a cls args I hx p=>pO L I hx p,λ_=>PassesOwn.leaving}};refine{L2.Tl K (λ_=>E) t,l.of y,jM N ds,S',_,λ_ C S'=>Fo S'<|Z C,?_,j,q,{by rintro σ S1 τ H1 ⟨g,sb,r⟩ a b c;exact(i.kp c).now (b.sub sb) r jI,by rintro d S1 v H1 ⟨g,sb,r⟩ a b c;exact i _ _ _ _ r a (b.sub sb) c,λ_ _ _ _ z=>z.elim,λ_ _ _ _ z=>z.elim},by rintro σ τ C S1 H1 ⟨g,sb,r⟩ a b c;exact o C g H1 r (b.sub sb) c};unfold jM start;refine(sA v).app ?_;rw[v.len];exact sy _ _<|by rw[List.length_replicate]
end
structure AU(ts:δ ε)(H:Hp):η where
 all:∀b,H b=ϐ\/(∃o xs,H b=ϑ (.lA o<|.lst xs))\/(b∈ts/\H b=ϑ (.qN #[]))
 tab:∀b∈ts,H b=ϑ (.qN #[])
theorem GQ{P:Ψ}{w:Ω}{K:Φ}{mg mb:ρ->θ ξ}{CX:B_}{k:π}{fa a:ε}{fd:FuncData}{x:ρ}{sp:Sp}{g:ζ}{vs:δ ξ}{ns:δ ν}{ts:δ ε} (KX:K.In g.heap) (R:g.heap.Ns mainGlobals mg) (c:g.heap.Ns builtinsNs mb) (C:∀x:ρ,x≠"__name__"->mb x=bootBuiltins x) (E:g.heap.NoLimit) (B:Bm mg g.heap) (hg:g.gens=#[]) (p:∀b∈ts,g.heap.get? b=ϑ (tabObj #[])) (hC:∀b∈ts,isCodeTable g.heap b) (hN:∀b∈ts,K.lookup b=ϐ) (ha:g.heap.get? a=ϑ {cls:=.type "list",data:=.seq vs.toArray}) (hi:IntsAre vs ns) (hl:ns.length<=Ϙ) (hr:bX k callerA) (F:∀base:Γ,Bm mg base->K.In base->base.Ns mainGlobals mg->bS P w K mg base CX k fa fd [x] sp) (WL:∀(s:ζ) (u:ξ),BindsTo s fd {[u],[]} [(x,u)]) (Th:∀H:Hp,AU ts H->iD K H a (ns.map V.int)->sp [.ref a] H (λv _=>v=.bl true) λ_ _ _=>False) (J:∀H e s',CX [] H g (λ_ _ _=>False) e s'->False): codeAny (model P w) callerA (.call (.ref fa) {[.ref a],[]}) (λr s'=>r=.ok (.ret<|.bool true)/\OldK g.heap s'.heap/\s'.os=g.os/\AllBare s'.gens) g:=by
 have Y:=u3 hi;have M:=hi.length;have O:a∉ts:=λz=>by rw[p a z]at ha;cases ha
 have core:∀H:Hp,AU ts H->iD K H a (ns.map V.int)->kQ P w H g.heap->(∀b,H b≠none->b=a\/b∈ts)->(H a≠none->K.lookup a=ϐ)->codeAny (model P w) callerA (.call (.ref fa) {[.ref a],[]}) (λr s'=>r=.ok (.ret<|.bool true)/\OldK g.heap s'.heap/\s'.os=g.os/\AllBare s'.gens) g:=by intro H Q Z aG hA hK;have G:∀{b:ε}{o:Obj},g.heap.get? b=ϑ o->H b=ϐ->(um g.heap H).get? b=ϑ o:=λe n=>HU e n;have LX:∀{b:ε}{o:Obj}{es:Array DictEntry}{ep:π},g.heap.get? b=ϑ o->o.data=.dict es ep->H b=ϐ:=λ{b o es ep} e d=>(by cases q:H b with|none=>rfl|some u=>rcases hA b (by rw[q];simp) with e'|e';subst e';rw[ha]at e;cases e;have d':Data.seq vs.toArray _=Data.dict es ep:=d;cases d';rw[p b e']at e;cases e;cases d);have A:∀{b:ε}{m:ρ->θ ξ},g.heap.Ns b m->(um g.heap H).Ns b m:=λ{b m} ⟨o,es,ep,e,d,r⟩=>{o,es,ep,G e<|LX e d,d,r};have y:K.In (um g.heap H):=λb o e=>G (KX b o e) (by cases q:H b with|none=>rfl|some u=>rcases hA b (by rw[q];simp) with e'|e';subst e';rw[hK<|by rw[q];simp]at e;cases e;rw[hN b e']at e;cases e);have hM:Mod K mg (um g.heap H):={y,A R,{mb,A c,C},by obtain⟨mc,h1,h2⟩:=E;exact{mc,A h1,h2}};have e0:Ae P w K mg (um g.heap H) callerA [] g H:={rfl,hM,λb o e=>LF e,Nat.le_of_eq<|FK _ _,trivial,λb c=>absurd (show b∈([]:δ ε) from c)<|by simp,aG,.of_eq hg};have L:Bm mg (um g.heap H):=(by obtain⟨bm,I,b1,b2,t,S,b5,U⟩:=B;refine{bm,I,b1,b2,G t ?_,S,b5,U};cases q:H bm with|none=>rfl|some u=>rcases hA bm (by rw[q];simp) with e'|e';rw[e',ha]at t;cases t;cases U;rw[p bm e']at t;cases t;cases S);refine y6 ((F _ L y<|A R).run callerA [] g H {[.ref a],[]} [.ref a] [.ref a] _ _ hr e0 (WL g<|.ref a) (.cons rfl .nil)<|Th H Q Z) λr s' h=>?_;cases r with|error e=>exact(J H e s' h).elim|ok fl=>cases fl with|next=>exact False.elim h|brk=>exact False.elim h|cont=>exact False.elim h|ret u=>obtain⟨v,H',os,bare,un,X,r',q⟩:=h;have q':v=.bl true:=q;subst q';obtain rfl:u=Value.bool true:=r';refine{rfl,{λb o e=>?_,λb o e=>un.there b o e<|by simp},os,bare};rcases Q.all b with z|⟨I,xs,z⟩|⟨N,z⟩;exact .inl<|un.keep b o e z (by intro z;exact absurd (show b∈([]:δ ε) from z)<|by simp) (by simp);have j:=un.gf b I _ z;obtain⟨e1,_⟩:=aG b _ z;obtain⟨e2,_⟩:=X b _ j;rw[e]at e1;cases e1;exact .inl e2;obtain⟨more,j⟩:=un.gk b _ z;have e2:=p b N;rw[e]at e2;cases e2;exact .inr<|.inl {hC b N,rfl,#[],more,rfl,by have:=X b _ j;exact this}
 have tabs:∀(H:Hp),(∀b,b∈ts->H b=ϑ (.qN #[]))->∀b u,b∈ts->H b=ϑ u->bf P w H g.heap b u:=λH h b u c e=>by rw[h b c]at e;cases e;exact p b c
 cases hk:K.lookup a with|some o=>(have e:=KX a o hk;rw[ha]at e;cases e;refine core (λb=>if b∈ts then some (.qN #[]) else none) {λb=>?_,λb c=>qb c} (.inr {_,vs.toArray,_,hk,rfl,rfl,rfl,by rw[zr,M];exact hl,by simpa using Y}) (λb u z=>?_) (λb z=>?_) λz=>absurd (qa O) z;by_cases c:b∈ts;exact .inr<|.inr {c,qb c};exact .inl<|qa c;by_cases c:b∈ts;exact tabs _ (λb c=>qb c) b u c z;have l:=(qa c).symm.trans z;cases l;by_cases c:b∈ts;exact .inr c;exact absurd (qa c) z)|none=>refine core (λb=>if b=a then some (.lA {cls:=.type "list",data:=.seq vs.toArray}<|.lst<|ns.map V.int) else if b∈ts then some (.qN #[]) else none) {λb=>?_,λb c=>?_} (.inl<|.inr {{cls:=.type "list",data:=.seq vs.toArray},qb rfl}) (λb u z=>?_) (λb z=>?_) λ_=>hk;by_cases c:b=a;exact .inr<|.inl {_,_,qb c};by_cases i:b∈ts;exact .inr<|.inr {i,(qa c).trans<|qb i};exact .inl<|(qa c).trans<|qa i;have:b≠a:=λz=>O<|z ▸ c;exact(qa this).trans<|qb c;by_cases c:b=a;have l:=(qb c).symm.trans z;cases l;subst c;exact{ha,by rw[zb];exact hl,vs,_,Y,ha};have l:=(qa c).symm.trans z;by_cases i:b∈ts;have j:=(qb i).symm.trans l;cases j;exact p b i;have j:=(qa i).symm.trans l;cases j;by_cases c:b=a;exact .inl c;by_cases i:b∈ts;exact .inr i;exact absurd ((qa c).trans<|qa i) z
theorem EU:∀{K:Φ},b∉K.map (·.1)->K.lookup b=ϐ|[],_=>rfl| (a,o)::K,h=>by rw[zA,zj,not_or]at h;rw[yk,show(b==a)=ϰ from beq_false_of_ne h.1];exact EU h.2
theorem MX{K:Params->Φ}{a:δ ε}{e:∀P,a=(K P).map (·.1)}{ts:δ ε}{w:Ω}{h:Γ}(_:(PySem.W.kmHook K a e ts).says w h)(d:∀b∈ts,b∉a):∀b∈ts,(K w.params).lookup b=ϐ:=λb c=>EU<|by rw[<-e];exact d b c
theorem JB{l:PySem.W.OpenLaw}{n k:π}{q:Ψ}{loose:δ ρ}{M:(ρ->θ ξ)->Γ->η}{j:Ω->Γ->η}{d:DefRec}{K:Params->Φ}{CX:B_}{x:ρ}{ts:δ ε} (hn:l.most=ϑ n) (Q:n<=Ϙ) (O:d.params.defaults=[]) (hr:bX k callerA) (t:∀(w:Ω)(h:Γ),j w h->(K w.params).In h) (P:∀(w:Ω)(h:Γ),j w h->∀b∈ts,h.get? b=ϑ (tabObj #[])) (N:∀(w:Ω)(h:Γ),j w h->∀b∈ts,(K w.params).lookup b=ϐ) (F:∀(w:Ω)(mg:ρ->θ ξ)(fa:ε)(h:Γ),(K w.params).In h->h.Ns mainGlobals mg->mg d.name=ϑ (.ref fa)->∃(fd:FuncData)(sp:Sp),(∀b∈ts,∃c,codeHdIn (K w.params) c b=ϱ)/\(∀(s:ζ)(u:ξ),BindsTo s fd {[u],[]} [(x,u)])/\(∀base:Γ,Bm mg base->(K w.params).In base->base.Ns mainGlobals mg->bS l.prog w (K w.params) mg base CX k fa fd [x] sp)/\∀(H:Hp)(a:ε)(ns:δ ν),ns.length<=n->AU ts H->iD (K w.params) H a (ns.map V.int)->sp [.ref a] H (λv _=>v=.bl true) λ_ _ _=>False) (m:∀(H:Hp)(s:ζ)(e:ξ)(s':ζ),CX [] H s (λ_ _ _=>False) e s'->False): PySem.W.WalkO q loose M j l.row.toRowW d [] (λf vs=>PySem.call f vs):=by refine Att.Al hn O λw dI B mg mb fa o pm cd doc a vs ns G Y ho hd R J C hints hlen hg=>?_;have KX:=t w _ Y;obtain⟨fd,sp,y,E,A,I⟩:=F w mg fa _ KX G.T.g J;have i:=P w _ Y;exact GQ KX G.T.g G.T.b G.T.builtins G.T.nolimit G.T.bmain hg i (λb z=>by obtain⟨c,r⟩:=y b z;exact((codeHd_of_K KX r).tab<|i b z).isCodeTable) (N w _ Y) C hints (zH hlen Q) hr A E (λH L p=>I H a ns hlen L p) λH e s'=>m H B e s'
namespace Rt
theorem own:Manifest.owners.lookup (String.ofList ['d','e','s','r','e','v','e','r'].reverse)=ϑ Manifest.sig_reversed:=by kernel_rfl
theorem mH:Slot "reversed" "__next__" "reversed.__next__":=.of (owner:="reversed") (n:="__next__") (by rw[typeLookup_type,builtinLookup_eq_fast];kernel_rfl) (by trivial) (by trivial) (by trivial) (by first|exact .inl (by trivial)|exact .inr (by trivial))<|by rw[isSubtype_type];kernel_rfl
theorem EV:entryFor table "reversed.__next__"= some Builtin.«reversed.__next__»:=entryFor_of_tree<|by kernel_rfl
theorem EW(a:ξ):argsOk "reversed.__next__" {[a],[]}:=by unfold argsOk;rw[signature?_of (id:="reversed.__next__") (n:=['_','_','t','x','e','n','_','_']) (o:=['d','e','s','r','e','v','e','r']) (by kernel_rfl) own];kernel_rfl
theorem EX:Slot "reversed" "__iter__" "reversed.__iter__":=.of (owner:="reversed") (n:="__iter__") (by rw[typeLookup_type,builtinLookup_eq_fast];kernel_rfl) (by trivial) (by trivial) (by trivial) (by first|exact .inl (by trivial)|exact .inr (by trivial))<|by rw[isSubtype_type];kernel_rfl
theorem MY(a:ξ):argsOk "reversed.__iter__" {[a],[]}:=by unfold argsOk;rw[signature?_of (id:="reversed.__iter__") (n:=['_','_','r','e','t','i','_','_']) (o:=['d','e','s','r','e','v','e','r']) (by kernel_rfl) own];kernel_rfl
theorem MZ:entryFor table "reversed.__iter__"= some Builtin.«dict_keyiterator.__iter__»:=entryFor_alias (id':="dict_keyiterator.__iter__") (by kernel_rfl) (by first|rfl|decide +kernel|(unfold String.splitOn;simp +decide [String.splitOnAux])) (by trivial)<|by kernel_rfl
theorem M0:Slot "reversed" "__init__" "object.__init__":=.of (owner:="object") (n:="__init__") (by rw[typeLookup_type,builtinLookup_eq_fast];kernel_rfl) (by trivial) (by trivial) (by trivial) (by first|exact .inl (by trivial)|exact .inr (by trivial))<|by rw[isSubtype_type];kernel_rfl
theorem called:TypeCalled "reversed" "reversed.__new__" "object.__init__":={by trivial,by trivial,{_,_,F.mro_reversed},F.made_reversed,by trivial,by rw[isSubtype_type];kernel_rfl,M0}
theorem Rx:typeLookup (.type "tuple") "__reversed__"= pure none:=by rw[typeLookup_type,builtinLookup_eq_fast];kernel_rfl
theorem EY:typeLookup (.type "tuple") "__getitem__"= pure (some<|.builtin "tuple.__getitem__"):=by rw[typeLookup_type,builtinLookup_eq_fast];kernel_rfl
theorem M4:isSubtype (.type "tuple") (.type "dict")=pure false:=by rw[isSubtype_type];kernel_rfl
end Rt
noncomputable def AV(l:ε)(i:ν):Obj:={cls:=.type "reversed",data:=.fields #[.ref l,rawInt i]}
def sJ(h:Γ)(a l:ε)(i:ν):Prop:=∃o,h.get? a=ϑ o/\o.cls=.type "reversed"/\o.data=.fields #[.ref l,rawInt i]
section
variable{prog:Ψ}{w:Ω}{A:ϕ}{E:ξ->ζ->η}{s:ζ}
theorem sJ.typeIs(x:sJ s.heap a l i):s.TypeIs (.ref a) "reversed":=by obtain⟨o,ho,c,_⟩:=x;exact⟨o,ho,c⟩
theorem sJ.keep(x:sJ h a l i)(e:∀o,h.get? a=ϑ o->h'.get? a=ϑ o):sJ h' a l i:=by obtain⟨o,ho,r⟩:=x;exact{o,e _ ho,r}
theorem Ry(hl:IsTup s.heap l items)(hz:items.size<=Ϙ)(h:Q₁ (.ref s.heap.objs.size) {s with heap:=s.heap.push<|AV l<|(items.size:ν)-1,toks:=s.toks+1+1}): codeAny (model prog w) A (.call (.builtin "reversed.__new__") {[.type "reversed",.ref l],[]}) (wants Q₁ E) s:=by
 refine codeAny_of_tree ?_;show wpAny _ A.in1 (do checkBuiltinCall "reversed.__new__" {[.type "reversed",.ref l],[]};again (.builtin "reversed.__new__" {[.type "reversed",.ref l],[]})) _ _ s;refine zc<|y8 (F.newCall_reversed_1 _)<|zB {plainId_quiet F.plain_reversed_new _,yW F.entry_reversed_new ?_};rw[Around.under_plainId F.plain_reversed_new _];unfold Builtin.«reversed.__new__»;refine zc<|y8 (newClass_reversed _) ?_;refine zc<|y8 (a:=()) (by first|rfl|kernel_rfl)<|zc<|y8 (a:=()) (by first|rfl|kernel_rfl) ?_;refine zc<|wpAny_specialOf hl.typeIs Rt.Rx ?_;refine zc<|zc<|wpAny_isInstance hl.typeIs Rt.M4<|zc<|wpAny_specialOf hl.typeIs Rt.EY ?_;show wpAny _ _ (if (["tuple.__getitem__","str.__getitem__","bytes.__getitem__","bytearray.__getitem__","memoryview.__getitem__","numpy.ndarray.__getitem__","sqlite3.Row.__getitem__"]:δ String).contains "tuple.__getitem__"= true then pure true else _) _ _ _;rw[qb<|by trivial];refine zB ?_
 show wpAny _ _ (do
     let c <-call (Value.builtin "len") [Value.ref l]
     let __x <-asInt? c
     match __x with
      |some n=>do
       let c <-Builtin.SmallTypes.newRecord (Value.type "reversed") [Value.ref l,rawInt (n-1)]
       ret c
      |x=>unsupported "internal:reversed.__new__") _ _ _
 refine zc<|len_tuple hl (by rw[yf]at hz;lia) ?_;refine zc<|y8 (a:=some ((items.size:π):ν)) rfl ?_;exact zc (m:=newObj (.type "reversed")<|.fields #[.ref l,rawInt<|((items.size:π):ν)-1])<|yK<|zB h
theorem M5(hl:IsTup s.heap l items)(hz:items.size<=Ϙ)(h:Q (.ref s.heap.objs.size) {s with heap:=s.heap.push<|AV l<|(items.size:ν)-1,toks:=s.toks+1+1}): wpAny (model prog w) A (call (.type "reversed") [.ref l]) Q E s:=by refine callType_codes Rt.called (F.typeCall_reversed_1 _) F.entry_object_init (Q₁:=λobj a=>a.TypeIs obj "reversed"/\Q obj a) (Ry hl hz {{_,zp _ rfl,rfl},h}) λobj a c=>?_;exact{c.1,F.args_object_init_2 obj _,object_init_meets Rt.called.init.lookup Rt.called.made (by decide) prog w A.in1 _ a ⟨c.1,rfl,c.2⟩}
theorem sqx(h:k<n):seqIndex? ((k:π):ν) n=ϑ k:=by have e:(if ((k:π):ν)<0 then ((k:π):ν)+(n:ν) else ((k:π):ν))=((k:π):ν):=qa (by lia);unfold seqIndex?;dsimp only;rw[e,qb<|by simp;lia];rfl
theorem M6{it l:ε}{i:π}{items:Array ξ}{x:ξ}{Q:θ ξ->ζ->η}(c:sJ s.heap it l (i:ν))(hl:IsTup s.heap l items)(hz:items.size<=Ϙ)(hx:items[i]?=some x) (e:∀h' tk,sJ h' it l ((i:ν)-1)->Heap.SameBut it s.heap h'->Q (some x) {s with heap:=h',toks:=tk}):wpAny (model prog w) A (pyNext<|.ref it) Q E s:=by obtain⟨o,ho,d,hd⟩:=id c;have hi:i<items.size:=(Array.getElem?_eq_some_iff.mp hx).1;unfold pyNext;refine zc<|wpAny_attempt<|wpAny_callSpecial?_slot (name:=Str.ofString "__next__") c.typeIs Rt.mH<|yU Rt.mH c.typeIs Rt.EV ?_<|Rt.EW _;unfold Builtin.«reversed.__next__»;refine zc<|y8 (a:=(Value.ref it,[])) rfl<|zc<|yo ho hd (x:=.ref l) rfl<|zc<|yo ho hd (x:=rawInt (i:ν)) rfl ?_;show wpAny _ _ (if (i:ν)<0 then _ else _) _ _ s;rw[qa<|by lia];show wpAny _ _ (specialOf (.ref l) "__getitem__" >>=_) _ _ s;refine zc<|wpAny_specialOf hl.typeIs Rt.EY ?_;show wpAny _ _ (mkInt (i:ν) >>=_) _ _ s;refine zc<|wpAny_mkInt ?_;refine zc<|wpAny_attempt<|getItem_tuple (j:=i) hl (by lia) (by rw[yf]at hz;lia) (sqx hi) hx ?_;refine zc<|yo ho hd (x:=rawInt (i:ν)) rfl ?_;show wpAny _ _ (setField (.ref it) 1 (rawInt<|(i:ν)-1) >>=λ_=>ret x) _ _ _;refine zc<|yZ ho hd (by simp)<|zB {x,rfl,zB<|e _ _ ?_<|yL ..};exact{_,yD _ ho<|Obj.isFreed_of_fields<|yG hd _,(Obj.cls_mapFields ..).trans d,by rw[yG hd];simp}
theorem Rz(h:A.handled=ϐ)(c:sJ s.heap it l (-1))(i:∀h',Heap.ExtBut it s.heap h'->Q none {s with heap:=h'}):wpAny (model prog w) A (pyNext<|.ref it) Q E s:=by
 obtain⟨o,ho,p,hd⟩:=id c;unfold pyNext;refine zc<|wpAny_attempt<|wpAny_callSpecial?_slot (name:=Str.ofString "__next__") c.typeIs Rt.mH<|yU Rt.mH c.typeIs Rt.EV ?_<|Rt.EW _;unfold Builtin.«reversed.__next__»;refine zc<|y8 (a:=(Value.ref it,[])) rfl<|zc<|yo ho hd (x:=.ref l) rfl<|zc<|yo ho hd (x:=rawInt (-1)) rfl ?_;show wpAny _ _ (if (-1:ν)<0 then _ else _) _ _ s;rw[qb<|by decide];refine zc<|y7 ?_;have d:=yG hd (·.setIfInBounds 1 (rawInt (-1)));have n:=yD (Obj.mapFields (·.setIfInBounds 1 (rawInt (-1)))) ho<|Obj.isFreed_of_fields d;refine zc (m:=setField (.ref it) 1 (rawInt (-1)) >>=λ_=>setField (.ref it) 0 .none)<|zc<|yZ ho hd (by simp)<|yZ n d (by simp) ?_;have j:Heap.ExtBut it s.heap ((s.heap.update it (Obj.mapFields (·.setIfInBounds 1 (rawInt (-1))))).update it (Obj.mapFields (·.setIfInBounds 0 Value.none))):=λb u g e=>by rw[yA _ _<|Ne.symm g,yA _ _<|Ne.symm g];exact e
 refine zc ?_;show wpAny _ _ (newExc (.type "StopIteration") [] >>=_) _ _ _;refine zc ?_;simp only[newExc,newTuple];refine zc<|yK ?_ (by size_fits);refine zc (m:=firstArgMember _ _)<|y8 (a:=Value.none) (by first|rfl|(simp only[firstArgMember];rfl)) ?_;refine yK ?_ (by size_fits);simp only[raiseNew];refine zc<|wpAny_handled ?_;first|rw[show A.in1.handled=ϐ from h]|rw[h]
 refine zc<|zB<|wpAny_throw ?_;refine zc<|wpAny_isInstance (T:="StopIteration") (b:=true) {_,zp _ rfl,rfl} isSubtype_stop ?_;exact zB<|i _<|(j.push _).push _
theorem EZ(a:sJ s.heap it l i)(h:Q (.ref it) s):wpAny (model prog w) A (pyIter<|.ref it) Q E s:=by refine wpAny_pyIter_slot a.typeIs Rt.EX<|yU Rt.EX a.typeIs Rt.MZ ?_<|Rt.MY _;show wpAny _ _ (ret<|.ref it) _ _ s;exact zB !{"reversed",_,a.typeIs,Rt.mH.lookup,h}
end
end L2
namespace L2
open PySem PySem.Spec PyProof.Rows
def WN(K:Φ)(a:ε)(n:π):It:={λi H=>∃xs x,gW K H a xs/\xs.length=n/\i<n/\xs[n-1-i]?=some x,λi H x H'=>H'=H/\∀xs,gW K H a xs->xs.length=n->xs[n-1-i]?=some x,λi _=>n<=i}
theorem M7{P:Ψ}{w:Ω}{K:Φ}{tg:Δ}(a it:ε)(n:π):Turn P w K tg (WN K a n) [it] it (λi h=>i<=n/\sJ h it a ((n:ν)-1-(i:ν))) where
 mem:=by simp
 obj:=λi h st b hb=>by
  have e:b=it:=by simpa using hb
  subst e
  obtain⟨_,o,e,c,d⟩:=st
  exact{o,e,λv z=>by rw[d]at z;cases z}
 keep:=λi h h' st k=>{st.1,st.2.keep λo e=>k it (by simp) o e}
 item:=by
  intro X hP hw hK hc i pins s σ H E I hf st hg
  subst hP hw hK
  obtain⟨xs,x,hq,hn,hi,hx⟩:=hg
  obtain⟨ax,rv,p,hz⟩:=I.tuple hq
  obtain⟨u,hu,ru⟩:=rv.get hx
  obtain⟨f0,f1,f2,f3,f4,f5⟩:=hf it<|by simp
  have e:(n:ν)-1-(i:ν)=((n-1-i:π):ν):=by lia
  have hit:=st.2
  rw[e]at hit
  refine M6 hit p (by rw[zr,<-rv.length];exact hz) (x:=u) (by simpa using hu) λh' tk e_ sb=>?_
  have I1:Inv X pins σ H {s with heap:=h',toks:=tk}:=I.turned (t':=tk) (λb o hb e=>(sb.2 b hb).trans e) f0 f1 f3 f4 f5
  obtain⟨o,e1,c,d⟩:=id e_
  refine{u,rfl,uR (s:={s with heap:=h',toks:=tk}) e1 c d (by decide) {x,H,I1,ru,{rfl,λys hy _=>by rw[I.oh hy hq];exact hx},{hi,?_},λb hb=>(hf b hb).1}}
  have e2:(n:ν)-1-((i+1:π):ν)=((n-1-i:π):ν)-1:=by lia
  rw[e2];exact e_
 done:=by
  intro X hP hw hK hc i pins s σ H E I hf st hg
  subst hP hw hK
  obtain⟨f0,f1,f2,f3,f4,f5⟩:=hf it<|by simp
  have hg:n<=i:=hg
  have e:(n:ν)-1-(i:ν) = -1:=by have:=st.1;lia
  have hit:=st.2
  rw[e]at hit
  exact Rz (I.ok.hd hc) hit λh' eb=>{rfl,I.turned (t':=s.toks) (λb o hb e=>eb b o hb e) f0 f1 f3 f4 f5}
 self:=λ_ _ _ _ _ st h=>EZ st.2 h
def iRt(K:Φ)(ta:TA):TI:=λσ H R=>ta σ H λvs H1=>∃a xs,vs=[.ref a]/\gW K H1 a xs/\R (WN K a xs.length) H1
theorem WO{X:Cx}{tg a:Δ}{ta:TA}{p pos:Pos}(hg:Gl X "reversed")(hm:X.mg "reversed"= none)(ha:PA X [a] ta)(t:starEach [a] X.env=[(false,eval a X.env)]):PI X tg (.Call (.Name "reversed" p) [a] [] pos) (iRt X.K ta):=by
 intro pins s σ H R I h;refine Call_<|fE I hg hm boot_reversed<|PyProof.Rows.callWith_type1 (bp (ha pos pins s σ H _ I h) λus s1 ⟨vs,H1,c,v,g⟩=>?_) t rfl;obtain⟨l,xs,e,q,m⟩:=g;subst e;obtain⟨u,rfl,n⟩:=vals1 v;cases n;obtain⟨w,r,i,hz⟩:=c.tuple q;have hn:w.toArray.size=xs.length:=by rw[zr,r.length]
 refine M5 i (by rw[hn];exact hz) ?_;rw[hn];have st:sJ (s1.heap.push<|AV l<|(xs.length:ν)-1) s1.heap.objs.size l ((xs.length:ν)-1-((0:π):ν)):={_,zp _ rfl,rfl,by show Data.fields _=Data.fields _;simp};have j:Inv X pins σ H1 {s1 with heap:=s1.heap.push<|AV l<|(xs.length:ν)-1,toks:=s1.toks+1+1}:=c.kept (t':=s1.toks+1+1) λb o e=>za _ e;refine EZ (s:={s1 with heap:=s1.heap.push<|AV l<|(xs.length:ν)-1,toks:=s1.toks+1+1}) st {_,_,_,_,H1,rfl,j,M7 l s1.heap.objs.size xs.length,{yb _,st},λb d=>?_,m};have d:b=s1.heap.objs.size:=by simpa using d
 subst d;exact c.oj (zk _)<|c.aG.fresh<|zk _
section
variable{K:Φ}{X:Cx}{tg:Δ}
def aa0(t:iE):xY:=λσ S R Z=>t σ S (λds S1=>∃es,ds=[.tup es]/\R {es.reverse,λ_=>True} S1) Z
theorem irt{t:iE}(hm:X.mg "reversed"= none)(ha:DA K X [a] t)(hg:ψ (Gl X "reversed") qQJ)(w:ψ (starEach [a] X.env=[(false,eval a X.env)]) qQJ)(o:ψ (X.K=K) qQJ):DI K X tg (.Call (.Name "reversed" p) [a] [] pos) (aa0 t):=by subst o;exact⟨λy=>(WO (X:=y.cx) hg hm (ha.of y) w).mono <| by rintro τ H R ⟨σ,S,RI,Z,s,l,q,n,z⟩;exact{σ,S,_,Z,s,l,q,by rintro ds S1 vs H1 ⟨es,e,x⟩ B s1 A;subst e;obtain⟨v,rfl,r⟩:=B.one;obtain⟨a,xs,rfl,c,t⟩:=r.tup;refine{a,xs,rfl,.inl<|.of c,n _ S1 _ H1 x (λi F H2 j s2 E=>?_) s1 A};have g:gW X.K H2 a xs:=.inl<|.of<|j.t _ _ c;have m:=RvAll.ts j _ t;have hl:xs.length=es.length:=t.len;refine{λd hd=>?_,λh=>by rw[yM]at h;show xs.length<=i;lia};have hi:i<es.length:=(by have:=(ze.mp hd).1;rwa [yM]at this);rw[List.getElem?_reverse hi]at hd;obtain⟨v,e1,r⟩:=m.get hd;rw[hl];refine{⟨xs,v,g,hl,hi,e1⟩,λC H' ⟨e2,e3⟩=>?_};subst e2;have:=e3 xs g hl;rw[e1]at this;cases this;exact{r,.refl _,s2},z}⟩
end
section
variable{K:Φ}{X:Cx}{pos:Pos}
def RA(tc:kW)(tb:jy):jy:=λDe σ S Z=>∃P:π->SD->ak->η,(∃m,P m σ S)/\∀m σ S,P m σ S->tc σ S (λb S1=>if b=ϱ then tb {De with nx:=λav S'=>∃m',m'<m/\P m' av S',ct:=λav S'=>∃m',m'<m/\P m' av S',bk:=De.nx} σ S1 Z else De.nx σ S1) (Z σ)
theorem swh(v:DT K X c tc)(E:BN K X true body tb):DS K X true (.While c body [] pos) (RA tc tb):=
 ⟨λy=>(H_ (X:=y.cx) (y.ok.loop rfl) (v.of y)<|E.of y).mono <| by rintro D τ H ⟨σ,S,De,Z,F,w,⟨P,⟨m,C⟩,turn⟩,l,t⟩;exact
  ⟨λm M H'=>∃σ S,iL K H' σ M/\Rs K S H'/\P m σ S/\Kp K H H',⟨m,σ,S,F,w,C,.refl _⟩,by rintro m N H1 ⟨g,S1,i,s1,G,s⟩;exact⟨g,S1,_,Z g,i,s1,turn m g S1 G,λb L H2 e s2 h=>by
   cases b with
   |true =>
    rw[qb rfl]at e⊢
    refine{λτ3 d=>∃σ S,iL K d σ τ3/\Rs K S d/\(∃a,a<m/\P a σ S)/\Kp K H d,by rintro τ3 d ⟨I,z,x,A,⟨a,hm,p3⟩,J⟩;exact⟨a,hm,I,z,x,A,p3,J⟩,?_}
    have kk:=s.trans h
    exact{g,L,_,Z,i.ts h,s2,e,{λo p τ5 B q r n j=>{o,p,r,n,q,kk.trans j},l.rt.kp kk,l.nx.kp kk,λo p τ5 B q r n j=>{o,p,r,n,q,kk.trans j}},t.kp kk}
   |false =>
    rw[qa zd]at e⊢
    exact l.nx _ _ _ _ e (i.ts h) s2<|s.trans h,(t.kp s).at i⟩⟩⟩
def aa2(i:π)(te:TD):jy:=λDe σ S Z=>∃a:ν,σ[i]?=some (some<|.int a)/\te σ S (λd S1=>∃b:ν,d=.int b/\De.nx (σ.set i<|some<|.int<|a+b) S1) (Z σ)
theorem sau(m:X.N.Nodup)(o:DE K X e te)(hi:ψ (X.N[i]?=some x) qQJ)(hx:ψ (Loc X.env.scope x) qJQ)(hf:ψ (X.fn x=ϱ\/X.env.scope.names.lookup x=ϑ .local) qJQ): DS K X b (.AugAssign (.Name x pos') .Add e pos) (aa2 i te):=⟨λy=>(P1 (X:=y.cx) m hi hx (o.of y) P2 hf).mono <| by rintro D τ H ⟨σ,S,De,Z,g,j,⟨a,ha,t⟩,l,q⟩;obtain⟨v,e1,r⟩:=g.get ha;exact{v,e1,σ,S,_,Z σ,g,j,t,by rintro d S1 u H1 ⟨c,e2,n⟩ p s1 h;subst e2;exact{a,c,r.int,p.int,l.nx _ _ _ _ n ((g.ts h).set i<|aN _) s1 h},q.at g}⟩
noncomputable def vD:V->D|.int i=>.int i|.str z=>.str z|.bl b=>.bl b|_=>.ay
noncomputable def JC:V->χ|.int _=>true|.str _=>true|_=>false
def WQ(kvs:δ<|ρ×V)(ty:TD):TD:=λσ S R Z=>ty σ S (λy S1=>∃z,y=.str z/\R ((kvs.lookup z).elim .ay vD) S1) Z
theorem mgk{w:Ω}{ad:ε}{kvs:δ<|ρ×V}{o e:Δ}{apos aM:Pos}{ty:TD}(d:Lq w K ad kvs)(hf:(kvs.all λp=>JC p.2)=ϱ)(ho:∀Y:Cx,Y.env=X.env->Y.mg=X.mg->PE Y o (tC<|.ref ad))(g:DE K X e ty)(hw:ψ (X.w=w) qQJ)(s:ψ (X.K=K) qQJ)(m:ψ (M1 X o "get" apos e aM) qQ4): DE K X (.Call (.Attribute o "get" apos) [e] [] aM) (WQ kvs ty):=⟨λy=>(IT (X:=y.cx) hw s (ho y.cx rfl rfl) (g.of y) ⟨m.base,m.HE,m.line,m.trees⟩).mono <| by rintro τ H Q ⟨σ,S,R,Z,t,a,q,j,l⟩;exact⟨ad,kvs,rfl,d,σ,S,_,Z,t,a,q,by
 rintro x S1 v H1 ⟨z,e1,r⟩ h s1 n;subst e1;refine{z,h.str,j _ _ _ _ r ?_ s1 n};have fl:∀v,kvs.lookup z=ϑ v->JC v=ϱ:=λv c=>by have:=yt c;exact zZ.mp hf _ this
 cases q:kvs.lookup z with|none=>exact jI|some v=>have:=fl v q;cases v with|int i=>exact aN i|str i=>exact iI i|_=>(cases this),l⟩⟩
def WR:R2:=λx y H Q=>∃a z n,x=.ref a/\y=.int n/\H a=ϑ (.lst [z])/\0<=n/\n<=1000/\∀p,H p=ϐ->Q (.ref p) (upd H p<|.lst<|List.replicate n.toNat z)
theorem M8:gX X (binaryOp .Mult) WR:=by intro pins s σ H x y v u Q I g e h;obtain⟨a,z,n,rfl,rfl,ha,h1,h2,q⟩:=h;cases g;obtain⟨c,rfl⟩:=e;obtain⟨l,j,k,i,hl,ho⟩:=I.Cj ha;obtain⟨w,rfl,d⟩:=i.one;refine wpAny_binaryOp_repeat_ref (T:="list") (U:="int") (by decide) {_,ho,rfl} (λs'=>typeIs_int s' n c) noFill_list_mul F.fills_int_mul F.slot_int_rmul repeat_list F.slot_int_index.lookup<|call_meets F.slot_int_rmul (typeIs_int s n c) F.entry_int_rmul (F.args_int_rmul_2 _ _) (int___rmul___int_list n c a [w].toArray k) {ho,rfl,{_,ho,rfl},?_};refine call_meets F.slot_list_mul {_,ho,rfl} F.entry_list_mul (F.args_list_mul_2 _ _) (AutoListH.list___mul___list_int_3 a [w].toArray k n c (by simp[Builtin.List.listFitsIndex];lia) (by simp;lia)<|by simp[Builtin.List.listTooLong,sizeLine];lia) {ho,?_};rw[qa<|by simp,show(#[]:Array ξ)=([]:δ ξ).toArray from rfl,show[w].toArray=#[w] from rfl,ED,List.nil_append];refine{.ref s.heap.objs.size,_,I.laid (t':=s.toks) (λ_ _ q=>za _ q) (zk _) ?_,rfl,q _ I.fresh};exact(show bf X.prog X.w _ _ _ (.lst<|List.replicate n.toNat z) from{by rw[List.length_replicate];exact Yj<|by lia,_,_,Ay d _,zp _ rfl})
end
section
variable{K:Φ}
def WS:uc:=λx y S R=>∃a d n,x=.ref a/\y=.int n/\S a=ϑ (.lst [d])/\0<=n/\n<=1000/\∀p,S p=ϐ->R (.ref p) (S.set p<|.lst<|List.replicate n.toNat d)
theorem RB:oy K (binaryOp .Mult) WS:=by rintro X q hu pins s σ H x y v u Q I j i ⟨d,e,S,R,m,o,c,⟨a,d0,n,e1,e2,e3,h1,h2,h⟩,g⟩;subst e1 e2;obtain⟨zs,e4,t⟩:=c.lst e3;obtain⟨z,rfl,l⟩:=t.one;exact M8 pins s σ H _ _ v u Q I j i {a,z,n,m.ref,o.int,e4,h1,h2,λp hp=>g.new c hp (h p)<|Jj l _}
end
theorem gK(hm:X.mg x=ϑ (.ref a))(hg:ψ (Gl X x) qQJ)(hd:ψ ((x==("__debug__": ρ))=ϰ) qQZ):∀Y:Cx,Y.env=X.env->Y.mg=X.mg->PE Y (.Name x pos) (tC<|.ref a):=λY e1 e2=>El (X:=Y) (u:=.ref a) (show Y.env.kindOf x=_ by rw[e1];exact hg) (by rw[e2];exact hm) rfl hd
structure Fb(K:Φ)(x q:ρ)(st:Stmt)(ps:δ ρ)(f:ε)(d:FuncData):η where
 F:wF K x q st f d
 b:Binds K d ps []
structure OQ(K:Φ)(mg:ρ->θ ξ)(x:ρ)(st:Stmt)(ps:δ ρ)(f:ε)(d:FuncData):η extends Fb K x x st ps f d where
 k:keepIn K (.ref f)=ϱ
 m:mg x=ϑ (.ref f)
structure OR(K:Φ)(c:ε)(x q:ρ)(st:Stmt)(ps:δ ρ)(f:ε)(d:FuncData):η extends Fb K x q st ps f d where
 e:Meth K c x f
abbrev Ok(P:Ψ)(w:Ω)(base:Γ){K:Φ}{mg:ρ->θ ξ}{x:ρ}{st:Stmt}{ps:δ ρ}{f:ε}{d:FuncData}(_:OQ K mg x st ps f d)(k:π)(sp:qY):Prop:=bS P w K mg base (f_ P w mg) k f d ps<|ud K sp
abbrev vk(P:Ψ)(w:Ω)(mg:ρ->θ ξ)(base:Γ){K:Φ}{c:ε}{x q:ρ}{st:Stmt}{ps:δ ρ}{f:ε}{d:FuncData}(_:OR K c x q st ps f d)(k:π)(sp:qY):Prop:=bS P w K mg base (f_ P w mg) k f d ps<|ud K sp
theorem fsc{N P:δ ρ}{sc:Scope}(a:ψ (sc.kind=.function/\sc.isCoroutine=ϰ/\sc.isGenerator=ϰ/\N.take P.length=P) qQ4)(b:ψ (N.Nodup/\(∀x∈P,sc.names.lookup x=ϑ .local\/sc.names.lookup x=ϑ .cell)/\∀y∈sc.names,y.2≠.free) qQ8):gu N P sc:=⟨a.1,a.2.1,a.2.2.1,b.1,a.2.2.2,b.2.1,b.2.2⟩
section
variable{R:η}{K:Φ}{h:Γ}{mg:ρ->θ ξ}{od an:θ ε}{sl:Array (θ ξ)}{oc dV kV dc pm cd ct:ξ}{f da:ε}{RC:θ ε}{dn:π}{RD:Array (θ ξ)}{c:ε}{tk:Tok}{d:FuncData}
theorem fn1(X:K.In h)(G:h.Ns mainGlobals mg)(x:ρ)(st:Stmt)(ps:δ ρ)(a:nsIn K mainGlobals x=ϑ (some<|.ref f))(l:K.lookup f=ϑ {oc,od,.func<|fnOf x x (bG st) (bx st) (aj st) dV kV dc pm an cd ct,sl}) (e:codeIn K cd x=ϱ) (k:keepIn K (.ref f)=ϱ) (b:∀us:δ ξ,us.length=ps.length->bindArgs (fnOf x x (bG st) (bx st) (aj st) dV kV dc pm an cd ct) {us,[]}=pure (ps.zip us)) (g:∀d,OQ K mg x st ps f d->R):R:=g _ {{{_,_,_,_,_,_,_,_,_,_,rfl,l,e},.all b},k,mg_of X G a}
theorem fnl(X:K.In h)(G:h.Ns mainGlobals mg)(x:ρ)(st:Stmt)(ps:δ ρ)(a:nsIn K mainGlobals x=ϑ (some<|.ref f))(l:K.lookup f=ϑ {oc,od,.func<|fnOf x x (bG st) (bx st) (aj st) dV kV dc pm an cd ct,sl}) (e:codeIn K cd x=ϱ) (k:keepIn K (.ref f)=ϱ) (b:∀us:δ ξ,us.length=ps.length->bindArgs (fnOf x x (bG st) (bx st) (aj st) dV kV dc pm an cd ct) {us,[]}=pure (ps.zip us)) (g:∀d,d.code=cd->(∀(s:ζ)(us:δ ξ),us.length=ps.length->BindsTo s d {us,[]} (ps.zip us))->OQ K mg x st ps f d->R):R:=g _ rfl (λs us h=>.of_eq<|b us h) {{{_,_,_,_,_,_,_,_,_,_,rfl,l,e},.all b},k,mg_of X G a}
theorem M9(C:qS K c)(x q:ρ)(st:Stmt)(ps:δ ρ)(a:findIn K (.ref c) x=ϑ (some<|.ref f))(i:isFn K (.ref f)=ϱ)(l:K.lookup f=ϑ {oc,od,.func<|fnOf x q (bG st) (bx st) (aj st) dV kV dc pm an cd ct,sl}) (e:codeIn K cd q=ϱ) (k:keepIn K (.ref f)=ϱ) (b:∀us:δ ξ,us.length=ps.length->bindArgs (fnOf x q (bG st) (bx st) (aj st) dV kV dc pm an cd ct) {us,[]}=pure (ps.zip us)) (g:∀d,OR K c x q st ps f d->R):R:=g _ {{{_,_,_,_,_,_,_,_,_,_,rfl,l,e},.all b},a,i,k}
theorem fmd(C:qS K c)(x q:ρ)(st:Stmt)(ps:δ ρ)(a:findIn K (.ref c) x=ϑ (some<|.ref f))(i:isFn K (.ref f)=ϱ)(l:K.lookup f=ϑ {oc,od,.func<|fnOf x q (bG st) (bx st) (aj st) (.ref da) kV dc pm an cd ct,sl}) (t:K.lookup da=ϑ {.type "tuple",RC,.seq #[.none] dn,RD}) (e:codeIn K cd q=ϱ) (k:keepIn K (.ref f)=ϱ) (b:∀(s:ζ) (us:δ ξ),s.heap.get? da=ϑ {.type "tuple",RC,.seq #[.none] dn,RD}->us.length=ps.length->BindsTo s (fnOf x q (bG st) (bx st) (aj st) (.ref da) kV dc pm an cd ct) {us,[]} (ps.zip us)) (j:∀(s:ζ) (us:δ ξ),s.heap.get? da=ϑ {.type "tuple",RC,.seq #[.none] dn,RD}->us.length+1=ps.length->BindsTo s (fnOf x q (bG st) (bx st) (aj st) (.ref da) kV dc pm an cd ct) {us,[]} (ps.zip<|us++[.none])) (g:∀d,OR K c x q st ps f d->Binds K d ps [.none]->R):R:=g _ {{{_,_,_,_,_,_,_,_,_,_,rfl,l,e},λs us h hl=>by rw[List.append_nil]at hl⊢;exact b s us (h _ _ t) hl},a,i,k} λs us h hl=>j s us (h _ _ t)<|by simpa using hl
theorem x_(X:K.In h)(G:h.Ns mainGlobals mg)(x:ρ)(a:nsIn K mainGlobals x=ϑ none)(g:mg x=ϐ->R):R:=g<|PySem.W.mg_none_of X G a
theorem OS(X:K.In h)(G:h.Ns mainGlobals mg)(x:ρ)(i:ν)(a:nsIn K mainGlobals x=ϑ (some<|.int i tk))(g:mg x=ϑ (.int i tk)->R):R:=g<|mg_of X G a
theorem WT(X:K.In h)(G:h.Ns mainGlobals mg)(x:ρ)(a:nsIn K mainGlobals x=ϑ (some<|.ref c))(l:K.lookup c=ϑ o)(g:mg x=ϑ (.ref c)->K.lookup c=ϑ o->R):R:=g (mg_of X G a) l
theorem gvx(X:K.In h)(G:h.Ns mainGlobals mg)(x:ρ)(a:nsIn K mainGlobals x=ϑ (some<|.ref c))(e:excIn K c L2.Cu "ValueError.__new__"= true)(g:mg x=ϑ (.ref c)->excIn K c L2.Cu "ValueError.__new__"= true->R):R:=g (mg_of X G a) e
theorem gvc(X:K.In h)(G:h.Ns mainGlobals mg)(x:ρ)(a:nsIn K mainGlobals x=ϑ (some<|.ref c))(pg:plainGet K c Str.empty=ϱ)(hd:hasDictIn K c=ϱ)(po:plainOver K c=ϱ)(sa:findIn K (.ref c) "__setattr__"= some (some<|.builtin "object.__setattr__"))(ms:makesIn K c=ϱ)(d:keepIn K (.ref c)=ϱ) (g:mg x=ϑ (.ref c)->qS K c->makesIn K c=ϱ->keepIn K (.ref c)=ϱ->R):R:=g (mg_of X G a) ⟨pg,hd,po,sa⟩ ms d
theorem RE(C:qS K c)(x:ρ)(a:findIn K (.ref c) x=ϑ none)(g:findIn K (.ref c) x=ϑ none->R):R:=g a
theorem RF{P:ε}(l:K.lookup c=ϑ o)(e:codeHdIn [(c,o)] c P=ϱ):codeHdIn K c P=ϱ:=by unfold codeHdIn at e⊢;rw[l];rw[show([(c,o)]:Φ).lookup c=ϑ o by simp]at e;exact e
theorem gvm{P:ε}(X:K.In h)(e:d.code=.ref c)(o:K.lookup c=ϑ {oC,od,.fields vC,sl})(q:vC[11]?=some (.ref P))(a:codeHdIn [(c,{oC,od,.fields vC,sl})] c P=ϱ)(g:codeHdIn K c P=ϱ->R):R:=g<|RF o a
end
section
variable{Q:δ ξ->η}
theorem YH(h:Q [])(us:δ ξ)(e:us.length=0):Q us:=by cases us with|nil=>exact h|cons a us=>cases e
theorem GR(h:∀a us,us.length=n->Q (a::us))(us:δ ξ)(e:us.length=n+1):Q us:=by cases us with|nil=>(cases e)|cons a us=>exact h a us<|Nat.succ.inj e
theorem T5(h:∀a,Q [a]):∀us:δ ξ,us.length=1->Q us:=GR λa=>YH<|h a
theorem ln2(h:∀a b,Q [a,b]):∀us:δ ξ,us.length=2->Q us:=GR λa=>T5<|h a
theorem T6(h:∀a b c,Q [a,b,c]):∀us:δ ξ,us.length=3->Q us:=GR λa=>ln2<|h a
theorem YI(h:∀a b c d,Q [a,b,c,d]):∀us:δ ξ,us.length=4->Q us:=GR λa=>T6<|h a
theorem YJ(h:∀a b c d e,Q [a,b,c,d,e]):∀us:δ ξ,us.length=5->Q us:=GR λa=>YI<|h a
theorem ln6(h:∀a b c d e f,Q [a,b,c,d,e,f]):∀us:δ ξ,us.length=6->Q us:=GR λa=>YJ<|h a
theorem aa6(h:∀a,Q [a])(us:δ ξ)(e:us.length+1=2):Q us:=T5 h us<|Nat.succ.inj e
theorem aa7(h:∀a b,Q [a,b])(us:δ ξ)(e:us.length+1=3):Q us:=ln2 h us<|Nat.succ.inj e
end
section
variable{R:η}{K:Φ}{h:Γ}{mg:ρ->θ ξ}{X Y:ρ}{c d:ε}
theorem gmk(_:K.In h)(_:mg X=ϑ (.ref c))(_:mg Y=ϑ (.ref d))(e:mroIn K c (.ref d)=ϑ true)(g:mroIn K c (.ref d)=ϑ true->R):R:=g e
end
section
variable{K:Φ}{X:Cx}{x:ρ}{st:Stmt}{ps:δ ρ}{f:ε}{fd:FuncData}{sp:qY}{e:Δ}{es:δ Δ}{p pos:Pos}
theorem aU{t:iE}(T:OQ K X.mg x st ps f fd)(F:bS X.prog X.w K X.mg X.base (f_ X.prog X.w X.mg) k f fd ps<|ud K sp)(hr:bX k' X.A)(ha:DA K X (e::es) t)(a:ψ (k<=k') qJK) (hg:ψ (Gl X x) qQJ) (d:ψ ((x==("__debug__": ρ))=ϰ) qQZ) (h:ψ (starEach (e::es) X.env=(false,eval e X.env)::starEach es X.env) qQJ) (c:ψ ((backTo pos<|starEach es X.env).any (·.1)=ϰ) qQJ) (g:ψ (X.K=K) qQJ): DE K X (.Call (.Name x p) (e::es) [] pos) (OB sp [] t):=cf (F.mono a) hr T.m T.k T.b d0 ha hg d h c g
end
theorem bX.u(r:bX k A):A.units+64<cLine:=r.units
end L2
namespace L2
open PySem PySem.Spec PyProof.Rows PySem.SeqAt
def isStrOf(z:ρ):ξ->χ|.str y _=>y==z|_=>false
end L2
namespace L2
open PySem PySem.Spec PyProof.Rows
section
variable{K:Φ}
theorem RvAll.thr(h:RvAll K H [a,b,c] vs):∃x y z,vs=[x,y,z]/\Rv K H a x/\Rv K H b y/\Rv K H c z:=by obtain⟨x,e,rfl,h1,h⟩:=h.cons;obtain⟨y,d,rfl,h2,h⟩:=h.cons;obtain⟨z,i,rfl,g,h⟩:=h.cons;rw[h.nil];exact⟨x,y,z,rfl,h1,h2,g⟩
noncomputable def jN:δ D->δ D->δ D->δ D|x::xs,y::ys,z::zs=>.tup [x,y,z]::jN xs ys zs|_,_,_=>[]
theorem oG:∀{xs ys zs:δ D},xs.length=ys.length->xs.length=zs.length->(jN xs ys zs).length=xs.length|[],_,_,_,_=>by rw[jN.eq_def]|x::xs,y::ys,z::zs,h,k=>congrArg Nat.succ<|oG (Nat.succ.inj h)<|Nat.succ.inj k
theorem oH:∀{xs ys zs:δ D}{i:π}{d:D},(jN xs ys zs)[i]?=some d->∃x y z,xs[i]?=some x/\ys[i]?=some y/\zs[i]?=some z/\d=.tup [x,y,z]|x::xs,y::ys,z::zs,0,d,h=>{x,y,z,rfl,rfl,rfl,(zT h).symm}|x::xs,y::ys,z::zs,i+1,d,h=>oH (i:=i) h|[],_,_,i,d,h=>by rw[jN.eq_def]at h;simp at h|_::_,[],_,i,d,h=>by rw[jN.eq_def]at h;simp at h|_::_,_::_,[],i,d,h=>by rw[jN.eq_def]at h;simp at h
def RG(t:iE):xY:=λσ S R Z=>t σ S (λds S1=>∃xs ys zs,ds=[.tup xs,.tup ys,.tup zs]/\xs.length=ys.length/\xs.length=zs.length/\R {jN xs ys zs,λ_=>True} S1) Z
end
mutual
inductive Dr (S:ak):D->PyData->η where
 |ay:Dr S .ay .none
 |bl (b:χ):Dr S (.bl b) (.bool b)
 |int (i:ν):Dr S (.int i) (.int i)
 |str (z:ρ):Dr S (.str z) (.str z)
 |tup {ds:δ D}{ps:δ PyData} : JD S ds ps->Dr S (.tup ds) (.tuple ps)
 |ref {a:ε}{ds:δ D}{ps:δ PyData} : S a=ϑ (.lst ds)->JD S ds ps->Dr S (.ref a) (.list ps)
inductive JD (S:ak):δ D->δ PyData->η where
 |nil:JD S [] []
 |cons {d:D}{ds:δ D}{p:PyData}{ps:δ PyData} : Dr S d p->JD S ds ps->JD S (d::ds) (p::ps)
end
section
variable{K:Φ}{H:Hp}{S:ak}
mutual
theorem Dr.dt(c:Rs K S H):Dr S d p->Rv K H d v->Dt K H p v|.ay,r=>by simp only[Dt];exact r.ay|.bl b,r=>by simp only[Dt];exact r.bl|.int b,r=>by simp only[Dt];exact r.int|.str b,r=>by simp only[Dt];exact r.str|.tup h,r=>(by obtain⟨a,xs,rfl,q,t⟩:=r.tup;simp only[Dt];exact{a,xs,rfl,.of q,JD.dt c h t})|.ref e h,r=>by obtain⟨xs,e1,t⟩:=c.lst e;rw[r.ref];simp only[Dt];exact{_,xs,rfl,.of e1,JD.dt c h t}
theorem JD.dt(a:Rs K S H){ds:δ D}{ps:δ PyData}{vs:δ V} : JD S ds ps->RvAll K H ds vs->DtAll K H ps vs|.nil,r=>by rw[r.nil];simp only[DtAll]|.cons h t,r=>by obtain⟨y,ys,rfl,r1,r2⟩:=r.cons;simp only[DtAll];exact{y,ys,rfl,Dr.dt a h r1,JD.dt a t r2}
end
end
def YK(a:χ):uc:=λx y S R=>∃p q,Dr S x p/\Dr S y q/\p.canLay0=ϱ/\q.canLay0=ϱ/\(p.depth<=64\/q.depth<=64)/\R (.bl<|if a then !PyData.eqv p q else PyData.eqv p q) S
section
variable{K:Φ}
theorem OT:oy K (compareOp .NotEq) (YK true):=by rintro X m hu pins s σ H x y v u Q I o n ⟨d,e,S,R,i,j,a,⟨p,q,h1,h2,l,c,dp,h⟩,g⟩;subst m;exact IM hu pins s σ H x y v u Q I o n {p,q,h1.dt a i,h2.dt a j,l,c,dp,g.now a h<|b8 _}
end
theorem JE(h1:Dr S x p)(h2:Dr S y p)(c:p.canLay0=ϱ)(d:p.depth<=64)(q:R (.bl<|!neg) S):YK neg x y S R:={p,p,h1,h2,c,c,.inl d,by rw[show(if neg then !PyData.eqv p p else PyData.eqv p p)=!neg by rw[SeqAt.eqv_refl p c];cases neg<;>rfl];exact q}
def lQ:Stmt->ρ|.FunctionDef n _ _ _ _ _ _ _ _ _=>n|_=>Str.empty
def uz(s:Stmt):δ Str:=(bG s).args.map λa=>a.arg
def GS(K:Φ)(mg:ρ->θ ξ)(top:π->Stmt)(f:π->ε)(d:π->FuncData)(l:δ π):Prop:=∀i∈l,OQ K mg (lQ<|top i) (top i) (uz<|top i) (f i)<|d i
def CY(K:Φ)(c:ε)(q:ρ)(cl:Stmt)(f:π->ε)(d:π->FuncData)(l:δ π):Prop:=∀i∈l,OR K c (lQ<|inClass cl i) (q++lQ (inClass cl i)) (inClass cl i) (uz<|inClass cl i) (f i)<|d i
section
variable{K:Φ}{h:Γ}{mg:ρ->θ ξ}{od an:θ ε}{sl:Array (θ ξ)}{oc dV kV dc pm cd ct:ξ}{x:ε}{top:π->Stmt}{l:δ π}{c:ε}{q:ρ}{cl:Stmt}
theorem af(X:K.In h)(G:h.Ns mainGlobals mg)(i:π)(m:i∉l)(a:nsIn K mainGlobals (lQ<|top i)=ϑ (some<|.ref x))(o:K.lookup x=ϑ {oc,od,.func<|fnOf (lQ<|top i) (lQ<|top i) (bG<|top i) (bx<|top i) (aj<|top i) dV kV dc pm an cd ct,sl}) (e:codeIn K cd (lQ<|top i)=ϱ) (k:keepIn K (.ref x)=ϱ) (b:∀us:δ ξ,us.length=(uz<|top i).length->bindArgs (fnOf (lQ<|top i) (lQ<|top i) (bG<|top i) (bx<|top i) (aj<|top i) dV kV dc pm an cd ct) {us,[]}=pure ((uz<|top i).zip us)) (g:∃f d,GS K mg top f d l):∃f d,GS K mg top f d (i::l):=by refine fn1 X G _ _ _ a o e k b λd0 F=>?_;obtain⟨f,d,A⟩:=g;refine{λj=>if j=i then x else f j,λj=>if j=i then d0 else d j,λj c=>?_};by_cases z:j=i;subst z;dsimp only;rw[qb rfl,qb rfl];exact F;dsimp only;rw[qa z,qa z];exact A j<|(zj.mp c).resolve_left z
theorem af0:∃f d,GS K mg top f d []:={λ_=>0,λ_=>fnOf Str.empty Str.empty (bG<|.Pass {0,0,0,0}) [] (aj<|.Pass {0,0,0,0}) .none .none .none .none none .none .none,λ_ h=>nomatch h}
theorem afx{R:η}(_:K.In h)(_:h.Ns mainGlobals mg)(g:∃f d,GS K mg top f d l)(r:∀f d,GS K mg top f d l->R):R:=by obtain⟨f,d,A⟩:=g;exact r f d A
theorem amx{R:η}(_:qS K c)(g:∃f d,CY K c q cl f d l)(r:∀f d,CY K c q cl f d l->R):R:=by obtain⟨f,d,A⟩:=g;exact r f d A
theorem am(C:qS K c)(i:π)(m:i∉l)(a:findIn K (.ref c) (lQ<|inClass cl i)=ϑ (some<|.ref x))(w:isFn K (.ref x)=ϱ)(o:K.lookup x=ϑ {oc,od,.func<|fnOf (lQ<|inClass cl i) (q++lQ (inClass cl i)) (bG<|inClass cl i) (bx<|inClass cl i) (aj<|inClass cl i) dV kV dc pm an cd ct,sl}) (e:codeIn K cd (q++lQ (inClass cl i))=ϱ) (k:keepIn K (.ref x)=ϱ) (b:∀us:δ ξ,us.length=(uz<|inClass cl i).length->bindArgs (fnOf (lQ<|inClass cl i) (q++lQ (inClass cl i)) (bG<|inClass cl i) (bx<|inClass cl i) (aj<|inClass cl i) dV kV dc pm an cd ct) {us,[]}=pure ((uz<|inClass cl i).zip us)) (g:∃f d,CY K c q cl f d l):∃f d,CY K c q cl f d (i::l):=by refine M9 C _ _ _ _ a w o e k b λd0 F=>?_;obtain⟨f,d,A⟩:=g;refine{λj=>if j=i then x else f j,λj=>if j=i then d0 else d j,λj h=>?_};by_cases z:j=i;subst z;dsimp only;rw[qb rfl,qb rfl];exact F;dsimp only;rw[qa z,qa z];exact A j<|(zj.mp h).resolve_left z
theorem am0:∃f d,CY K c q cl f d []:={λ_=>0,λ_=>fnOf Str.empty Str.empty (bG<|.Pass {0,0,0,0}) [] (aj<|.Pass {0,0,0,0}) .none .none .none .none none .none .none,λ_ h=>nomatch h}
end
section
variable{K:Φ}{X:Cx}{x q:ρ}{st:Stmt}{ps:δ ρ}{C f:ε}{fd:FuncData}{sp:qY}{o e:Δ}{es:δ Δ}{apos pos:Pos}{k k':π}
theorem q9{t:iE}(j:DE K X o ta)(c:qS K C)(T:OR K C x q st ps f fd)(F:bS X.prog X.w K X.mg X.base (f_ X.prog X.w X.mg) k f fd ps<|ud K sp)(hr:bX k' X.A)(ha:DA K X (e::es) t)(a:ψ (k<=k') qJK)
  (d:ψ (starEach (e::es) X.env=(false,eval e X.env)::starEach es X.env) qQJ) (g:ψ ((backTo pos<|starEach es X.env).any (·.1)=ϰ) qQJ)
  (h:ψ (eval (.Call (.Attribute o x apos) (e::es) [] pos) X.env=(do
   let ov <-eval o X.env
   standAt apos.atName
   let (f,first) <-holding [ov] (getMethod ov x pl)
   callWith pos f first (backTo pos<|starEach (e::es) X.env) (backToKw pos<|keywordEach [] X.env))) qQJ) (i:ψ (X.K=K) qQJ):
  DE K X (.Call (.Attribute o x apos) (e::es) [] pos) (EL C x sp [] ta t):=Yn j c T.e (F.mono a) hr T.b d0 ha d g h i
theorem wM(h:DE K X o ta)(c:qS K C)(T:OR K C x q st ps f fd)(F:bS X.prog X.w K X.mg X.base (f_ X.prog X.w X.mg) k f fd ps<|ud K sp)(hr:bX k' X.A)(a:ψ (k<=k') qJK)
  (g:ψ (eval (.Call (.Attribute o x apos) [] [] pos) X.env=(do
   let ov <-eval o X.env
   standAt apos.atName
   let (f,first) <-holding [ov] (getMethod ov x pl)
   callWith pos f first (backTo pos<|starEach [] X.env) (backToKw pos<|keywordEach [] X.env))) qQJ) (d:ψ (X.K=K) qQJ):
  DE K X (.Call (.Attribute o x apos) [] [] pos) (EL C x sp [] ta MH):=aay h c T.e (F.mono a) hr T.b d0 g d
end
section
variable{K:Φ}{X:Cx}
def WU:D->θ ν->θ ν->ak->KD->Prop:=λx lo hi S R=>match x with|.ref a=>∃ds,S a=ϑ (.lst ds)/\∀p,S p=ϐ->R (.ref p) (S.set p<|.lst<|cP ds lo hi)|.jH ds=>∀p,S p=ϐ->R (.ref p) (S.set p<|.lst<|cP ds lo hi)|_=>False
theorem WV(w:X.K=K):UZ X (λx lo hi H Q=>∃d S R,Rv K H d x/\Rs K S H/\WU d lo hi S R/\Cn K H R Q):=by rintro pins s σ H x v g m lo hi sl Q I l n i r ⟨d,S,R,o,c,h,j⟩;subst w;cases d with|ref a=>(obtain⟨ds,e,h⟩:=h;obtain⟨xs,e1,t⟩:=c.lst e;exact Ex pins s σ H _ v g m lo hi sl Q I l n i r {a,xs,o.ref,.of e1,λp hp=>j.new c hp (h p)<|t.cut lo hi})|jH ds=>(obtain⟨a,xs,rfl,q,t⟩:=o.jH;exact Ex pins s σ H _ v g m lo hi sl Q I l n i r {a,xs,rfl,q.sq,λp hp=>j.new c hp (h p)<|t.cut lo hi})|_=>exact h.elim
def aa8(te:TD)(tl th:Ox):TD:=λσ S R Z=>te σ S (λx S1=>tl σ S1 (λl a=>th σ a (λu c=>WU x l u c R) Z) Z) Z
theorem oI{e:Δ}{lo hi:θ Δ}{te:TD}{tl th:Ox}{p2 pos:Pos}(z:DE K X e te)(hl:DO K X lo tl)(hu:DO K X hi th)(p:ψ (X.K=K) qQJ):DE K X (.Subscript e (.Slice lo hi none p2) pos) (aa8 te tl th):=
 ⟨λy=>(Ah (X:=y.cx) (WV p) (z.of y) (hl.of y)<|hu.of y).mono <| by rintro τ H Q ⟨σ,S,R,Z,g,j,q,o,h⟩;exact
  ⟨σ,S,_,Z,g,j,q,λd S1 x H1 t w s1 a=>⟨σ,S1,_,Z,g.ts a,s1,t,λl s H2 v s2 c=>⟨σ,s,_,Z,g.ts<|a.trans c,s2,v,λu m A r n i=>⟨d,m,R,Rv.ts (c.trans i) _ w,n,r,o.kp<|(a.trans c).trans i⟩,h.kp<|a.trans c⟩,h.kp a⟩,h⟩⟩
def aa9:uc:=λx y S R=>match x,y with|.int i,.int j=>R (.int<|i+j) S|.str a,.str b=>a.length+b.length<=Ϙ/\R (.str<|a++b) S|.ref a,.ref b=>∃xs ys,S a=ϑ (.lst xs)/\S b=ϑ (.lst ys)/\xs.length+ys.length<=Ϙ/\∀p,S p=ϐ->R (.ref p) (S.set p<|.lst<|xs++ys)|_,_=>False
theorem aS:oy K (binaryOp .Add) aa9:=by rintro X o hu pins s σ H x y v u Q I i g ⟨d,e,S,R,j,l,a,h,c⟩;subst o;cases d<;>cases e<;>first|exact False.elim h|exact Ie pins s σ H x y v u Q I i g {_,_,j.int,l.int,c.now a h<|aN _}|exact rQ pins s σ H x y v u Q I i g {_,_,j.str,l.str,h.1,c.now a h.2<|iI _}|skip;obtain⟨xs,ys,e1,e2,hl,q⟩:=h;obtain⟨vs,h1,m⟩:=a.lst e1;obtain⟨ws,h2,n⟩:=a.lst e2;exact Iv pins s σ H x y v u Q I i g {_,_,vs,ws,j.ref,l.ref,h1,h2,by rw[m.len,n.len];exact hl,λp hp=>c.new a hp (q p)<|m.app n}
end
structure W(sp:qY)(ds:δ D)(S:ak)(R:KD)(Z:KX):η where
 of:sp ds S R Z
section
variable{K:Φ}{X:Cx}
def dTc(t:kW):kW:=λσ S R Z=>∃P:χ->ak->η,t σ S P Z/\∀b S',P b S'->R b S'
theorem AW{t:kW}(h:DT K X e t):DT K X e (dTc t):=⟨λy=>(h.of y).mono <| by rintro τ H Q ⟨σ,S,R,Z,i,a,⟨P,q,c⟩,d,g⟩;exact{σ,S,P,Z,i,a,q,λb S1 H1 p s k=>d b S1 H1 (c b S1 p) s k,g}⟩
end
def WW(s:Stmt):δ Str:=((aj s).names.filter λp=>p.2==.local||p.2==.cell).map (·.1)
theorem bU(s:Stmt)(a:ψ ((aj s).kind=.function/\(aj s).isCoroutine=ϰ/\(aj s).isGenerator=ϰ/\(WW s).take (uz s).length=uz s) qQ4)(b:ψ ((WW s).Nodup/\(∀x∈uz s,(aj s).names.lookup x=ϑ .local\/(aj s).names.lookup x=ϑ .cell)/\∀y∈(aj s).names,y.2≠.free) qQ8):gu (WW s) (uz s) (aj s):=fsc a b
section
variable{P:Ψ}{w:Ω}{K:Φ}{mg:ρ->θ ξ}{base:Γ}{x qual:ρ}{st:Stmt}{f:ε}{fd:FuncData}{N ps:δ ρ}{k:π}{sp:qY}
theorem wF.b_(F:wF K x qual st f fd)(S:gu N ps<|aj st) (a:∀(gv:ξ)(A:ϕ)(outer:δ Env)(s:ζ)(H:Hp)(E:XK)(ds:δ D)(S:ak)(R:KD)(Z:KX),bX k (A.deeper<|PyProof.Rows.envOfC qual (aj st) s.heap.objs.size f gv)->sp ds S R Z->∃t,BN K (kT (f_ P w mg) P w K mg base N qual (aj st) f gv A outer s H E) true (bx st) t/\t {nx:=λ_ S'=>Fo S'<|R .ay,rt:=λd S'=>Fo S'<|R d} (jM N ds) S λ_ C S'=>Fo S'<|Z C) (len:∀ds S R Z,sp ds S R Z->ds.length=ps.length:=by intro _ _ _ _ h;first|(cases h;subst_vars;rfl;done)|(repeat first|(obtain⟨e,_⟩:=h;rw[e];rfl;done)|obtain⟨_,h⟩:=h)):bS P w K mg base (f_ P w mg) (k+1) f fd ps (ud K sp):=F.ok S len a
end
structure adb(X:Cx)(N:δ ρ)(src:δ (θ π))(scope:Scope):η where
 kind:scope.kind=.function
 nd:(scope.names.map Prod.fst).Nodup
 loc:∀y∈scope.names,y.2=.local->scope.names.lookup y.1=ϑ .local
 BL:∀y∈scope.names,y.2=.free->X.env.kindOf y.1=ϑ .cell\/X.env.kindOf y.1=ϑ .free
 len:src.length=N.length
 src:∀(i j:π)(x:ρ),src[i]?=some (some j)->N[i]?=some x->X.N[j]?=some x/\scope.names.lookup x=ϑ .free/\Pu X.env.scope x
section
variable{K:Φ}
def Each(S:ak)(x:D)(ds:δ D)(g:D->χ):Prop:=∃p,Dl S x p/\p.canLay0=ϱ/\∀d∈ds,∃q,Dl S d q/\q.canLay0=ϱ/\(q.depth<=62\/p.depth<=62)/\PyData.eqv q p=g d
def inE(c:χ):uc:=λx y S R=>∃a ds g,y=.ref a/\S a=ϑ (.lst ds)/\Each S x ds g/\R (.bl<|if c then !ds.any g else ds.any g) S
theorem E1:∀{ds:δ D}{xs:δ V}{us:δ ξ},RvAll K H ds xs->Vals xs us->∃L:δ (D×V×ξ),L.map (·.1)=ds/\L.map (·.2.2)=us/\∀q∈L,Rv K H q.1 q.2.1/\RelV q.2.1 q.2.2|[],_,_,h,.nil=>{[],rfl,rfl,λ_ h=>(nomatch h)}|[],_,_,h,.cons _ _=>(by cases h.nil)|d::ds,xs,us,h,v=>by obtain⟨z,zs,rfl,h1,h2⟩:=h.cons;cases v with|cons r t=>obtain⟨L,e1,e2,e3⟩:=E1 h2 t;exact{(d,z,_)::L,by rw[zA,e1],by rw[zA,e2],ym.mpr {⟨h1,r⟩,e3}}
theorem RH{X:Cx}{pins:δ<|ε×Obj}{s:ζ}{σ:St}{H:Hp}{S:ak}{x:D}{v:V}{u:ξ}{a:ε}{ds:δ D}{g:D->χ}(hu:X.A.units+64<cLine)(I:Inv X pins σ H s)(F:RelV v u)(l:Rs X.K S H)(P:Rv X.K H x v)(ha:S a=ϑ (.lst ds))(B:Each S x ds g): ∃(h:δ ξ)(f:ξ->χ),s.heap.IsList a h.toArray/\(∀w∈h.toArray,SeqAt.EqAt X.A.in1 s w u<|f w)/\h.toArray.any f=ds.any g:=by
 obtain⟨p,h1,h2,M⟩:=B;obtain⟨xs,e1,t⟩:=l.lst ha;obtain⟨h,r,C,hz⟩:=I.list<|.of e1;obtain⟨L,n,l2,N⟩:=E1 t r;have i:∀q∈L,SeqAt.EqAt X.A.in1 s q.2.2 u (g q.1):=λq c=>by obtain⟨O,J⟩:=N q c;obtain⟨e,o,E,m,z⟩:=M q.1 (by rw[<-n];exact zh.mpr ⟨q,c,rfl⟩);obtain⟨Q,ra⟩:=I.reads e (o.dt l O) J;obtain⟨bs,G⟩:=I.reads p (h1.dt l P) F;rw[<-z];exact SeqAt.eqAt_reads e p _ s _ _ Q bs ra G E h2<|by rw[Around.in1_units];rcases m with m|m<;>lia
 have R:DecidableEq Value:=λ_ _=>Classical.propDecidable _;refine{h,λw=>L.any λq=>ω (q.2.2=w)&&g q.1,C.isList,λw hw=>?_,?_};have hw:w∈h:=by simpa using hw
 rw[<-l2]at hw;obtain⟨q,c,rfl⟩:=zh.mp hw;cases e:(L.any λj=>ω (j.2.2=q.2.2)&&g j.1) with|true=>(obtain⟨j,y,e'⟩:=yx.mp e;rw[zJ,zP]at e';have:=i j y;rw[e'.1,e'.2]at this;dsimp only;rw[e];exact this)|false=>have:=i q c;have e2:g q.1=ϰ:=(by cases e3:g q.1 with|false=>rfl|true=>have:=List.any_eq_false.mp e q c;rw[zx rfl,e3]at this;exact absurd rfl this);rw[e2]at this;dsimp only;rw[e];exact this
 rw[List.any_toArray,yj,yx,yx];constructor;rintro⟨w,_,e⟩;obtain⟨q,c,e⟩:=yx.mp e;rw[zJ]at e;exact{q.1,by rw[<-n];exact zh.mpr ⟨q,c,rfl⟩,e.2};rintro⟨d,hd,e⟩;rw[<-n]at hd;obtain⟨q,c,rfl⟩:=zh.mp hd;exact{q.2.2,by rw[<-l2];exact zh.mpr ⟨q,c,rfl⟩,yx.mpr {q,c,by rw[zx rfl,e];rfl}}
theorem RJ:oy K (compareOp .NotIn) (inE true):=by rintro X l hu pins s σ H x y v u Q I n m ⟨d,e,S,R,o,p,c,⟨a,ds,g,rfl,ha,i,h⟩,j⟩;subst l;cases p.ref;cases m;obtain⟨q,f,e1,e2,e3⟩:=RH hu I n c o ha i;refine SeqAt.notIn_listAt f e1 e2 {.bl _,H,I,rfl,?_};rw[e3];exact j.now c h<|b8 _
def aa_:δ D->ak->KD->Prop:=λds S R=>∃(a:ε)(ns:δ ν),ds=[.ref a]/\S a=ϑ (.lst<|ns.map D.int)/\R (.int ns.sum) S
theorem WX:g8 K (.builtin "sum") aa_:=by rintro X j d pins s σ H xs us Q I l ⟨ds,S,R,r,c,⟨a,ns,e,h1,h⟩,g⟩;subst j e;obtain⟨v,rfl,i⟩:=r.one;cases i.ref;obtain⟨zs,e1,t⟩:=c.lst h1;rw[t.ints]at e1;exact Gz rfl d pins s σ H _ us Q I l {a,ns,rfl,.of e1,g.now c h<|aN _}
def aba(i j:π)(ta:iE):jy:=λDe σ S Z=>ta σ S (λds S1=>∃v w,ds=[v,w]/\De.nx ((σ.set i<|some v).set j<|some w) S1)<|Z σ
theorem abb(p:X.N.Nodup)(ha:DA K X [a,b] ta)(hi:ψ (X.N[i]?=some x) qQJ)(o:ψ (X.N[j]?=some y) qQJ)(n:ψ (i≠j) qQZ) (hx:ψ (X.env.scope.names.lookup x=ϑ .local) qQJ) (l:ψ (X.env.scope.names.lookup y=ϑ .local) qQJ) (hw:ψ (swappedStores [.Tuple [.Name x px,.Name y py] kt pt] (.Tuple [a,b] k2 pt2) X.env=pure (some [x,y])) qQJ) (s:ψ (swapsWithSole [.Tuple [.Name x px,.Name y py] kt pt] (.Tuple [a,b] k2 pt2) pos.line X.env=pure false) qQJ) (g:ψ (X.calm=ϱ) qQJ):DS K X bb (.Assign [.Tuple [.Name x px,.Name y py] kt pt] (.Tuple [a,b] k2 pt2) pos) (aba i j ta):=⟨λz=>(P0 (X:=z.cx) g p hi o n hx l (ha.of z) hw s).mono <| by rintro D τ H ⟨σ,S,De,Z,c,h,q,m,B⟩;exact{σ,S,_,_,c,h,q,by rintro ds S1 vs H1 ⟨v,w,e,r⟩ C s1 d;subst e;obtain⟨a,b,rfl,t,A⟩:=C.two;exact{a,b,rfl,m.nx _ _ _ _ r (((c.ts d).set i t).set j A) s1 d},B.at c}⟩
end
section
variable{K:Φ}{X:Cx}{pos p:Pos}{e:Δ}
structure afv(P:Ψ)(w:Ω)(K:Φ)(mg:ρ->θ ξ)(base:Γ)(k:π)(f:ε)(sp:Sp):η where
 ex:∃fd ps,bS P w K mg base (f_ P w mg) k f fd ps sp/\Binds K fd ps []
 kp:keepIn K (.ref f)=ϱ
inductive CvR {ι:Type} (i:π) (fa:ι->ε) (σ:SD) (p:ι->η):η where
 |mk (o:ι) (e:σ[i]?=some (some<|.ref<|fa o)) (r:p o)
structure DPs(K:Φ)(X:Cx)(pos:Pos)(keys:δ (θ Δ))(values:δ Δ)(l:δ (ρ×TD)):η where
 of:∀{b:χ}(y:Ev X b),PPs y.cx pos keys values<|l.map λkt=>(T K y.E<|dC<|.str kt.1,T K y.E kt.2)
end
section
variable{K:Φ}{X:Cx}{b:χ}{N:δ ρ}{src:δ (θ π)}{scope:Scope}{iter elt:Δ}{ifs:δ Δ}{pos p:Pos}{ti:xY}{tc:kW}{te:TD}{a:ρ}
theorem lR(s:Stmt)(c:ψ (X.env.scope=aj s) qQJ)(a:ψ (X.N=WW s) qQJ)(h:ψ (chkC (aj s) (WW s) N src scope=ϱ) qQ8):bj X N src scope:=Vo _ _ c a h
structure C1(X:Cx)(N:δ ρ)(src:δ (θ π))(scope:Scope)(a:ρ):η where
 nd:N.Nodup
 h0:N[0]?=some a
 hr:src[0]?=some none
 hx:∀C s H ex pn,Loc (gw X N scope C s H ex pn).env.scope a/\(gw X N scope C s H ex pn).env.scope.names.lookup a=ϑ .local
theorem y_(S:bj X N src scope)(d:DI K X (.Name a p) iter ti)(hi:∀{C s H ex pn},TM K (gw X N scope C s H ex pn) ifs tc)(g:∀{C s H ex pn},DE K (gw X N scope C s H ex pn) elt te)(c:ψ (C1 X N src scope a) qJ5)(hf:ψ (∀x,foldedSetIterable iter X.env x=pure x) qQ0)(e:ψ (X.calm=ϱ) qQJ): DE K X (.ListComp elt [{.Name a p,iter,ifs,0}] scope pos) (vg ti src (TK 0) tc te):=TN S d (cg1 c.nd c.h0 c.hx) (Ez c.hr) EM (λ_ _ _ _ _=>hi) (λ_ _ _ _ _=>g) hf e
theorem uA(i:π)(hd:X.N.Nodup)(S:bj X N src scope)(d:DI K X (.Name a p) iter ti)(hi:∀{C s H ex pn},TM K (gw X N scope C s H ex pn) ifs tc)(l:∀{C s H ex pn},DE K (gw X N scope C s H ex pn) elt te)(c:ψ (C1 X N src scope a) qJ5)(j:ψ (X.N[i]?=some x) qQJ)(e:ψ (X.env.scope.names.lookup x=ϑ .local) qQJ) (h:ψ (swapsWith (.ListComp elt [{.Name a p,iter,ifs,0}] scope pos) (some<|.Name x pos') Gq.line X.env=pure true) qQJ) (hf:ψ (∀x,foldedSetIterable iter X.env x=pure x) qQ0) (g:ψ (X.calm=ϱ) qQJ): DS K X b (.Assign [.Name x pos'] (.ListComp elt [{.Name a p,iter,ifs,0}] scope pos) Gq) (Q9 i<|vg ti src (TK 0) tc te):=stc hd S d (cg1 c.nd c.h0 c.hx) (Ez c.hr) EM (λ_ _ _ _ _=>hi) (λ_ _ _ _ _=>l) j e h hf g
end
theorem bI{p:χ}{A B:η}(q:B)(h:ψ (p=ϰ) qQ8):if p=ϱ then A else B:=by rw[h,qa zd];exact q
theorem jh{p:χ}{A B:η}(q:A)(h:ψ (p=ϱ) qQ8):if p=ϱ then A else B:=by rw[h,qb rfl];exact q
noncomputable def ctO(l:δ<|θ π):Nat:=l.countP Option.isSome
structure Lay(m n:π)(ow:Array (θ π)):η where
 sz:ow.size=m+1
 ct:ctO ow.toList=n
 lt:∀x,some x∈ow.toList->x<n
section
variable{KT:Type}[DecidableEq KT]
structure Tb(t:SetTable)(n:π):η where
 m:t.mask=7\/t.mask=31\/t.mask=127\/t.mask=511
 d:t.dummies=#[]
 p:t.place.size=n
 f:n*5<t.mask*3
end
noncomputable def wdO(P:Ψ)(w:Ω)(a:ε)(kvs:δ<|Key×V)(ep:π):HO:=.ext λh=>kvs.length<=Ϙ/\(a==sysModules)=ϰ/\∃vs,KV kvs vs/\h.DictAt (aD P w) a vs ep
structure Wd(P:Ψ)(w:Ω)(o:HO)(a:ε)(ks:δ Key):η where
 of:∃kvs ep,o=wdO P w a kvs ep/\kvs.map (·.1)=ks
section
variable{K:Φ}{X:Cx}
def WY:D->θ ν->θ ν->ak->KD->Prop:=λx lo hi S R=>match x with|.str z=>z.length<=Ϙ/\R (.str<|PySem.Txt.slice z lo hi) S|_=>False
theorem WZ(n:X.K=K):UZ X (λx lo hi H Q=>∃d S R,Rv K H d x/\Rs K S H/\WY d lo hi S R/\Cn K H R Q):=by rintro pins s σ H x v e g lo hi sl Q I o j i c ⟨d,S,R,m,a,h,l⟩;subst n;cases d with|str z=>exact Q1 pins s σ H x v e g lo hi sl Q I o j i c {z,m.str,h.1,l.now a h.2<|iI _}|_=>exact h.elim
def abc(te:TD)(tl th:Ox):TD:=λσ S R Z=>te σ S (λx S1=>tl σ S1 (λl a=>th σ a (λu c=>WY x l u c R) Z) Z) Z
theorem slx{e:Δ}{lo hi:θ Δ}{te:TD}{tl th:Ox}{p2 pos:Pos}(z:DE K X e te)(hl:DO K X lo tl)(hu:DO K X hi th)(p:ψ (X.K=K) qQJ):DE K X (.Subscript e (.Slice lo hi none p2) pos) (abc te tl th):=
 ⟨λy=>(Ah (X:=y.cx) (WZ p) (z.of y) (hl.of y)<|hu.of y).mono <| by rintro τ H Q ⟨σ,S,R,Z,g,j,q,o,h⟩;exact
  ⟨σ,S,_,Z,g,j,q,λd S1 x H1 t w s1 a=>⟨σ,S1,_,Z,g.ts a,s1,t,λl s H2 v s2 c=>⟨σ,s,_,Z,g.ts<|a.trans c,s2,v,λu m A r n i=>⟨d,m,R,Rv.ts (c.trans i) _ w,n,r,o.kp<|(a.trans c).trans i⟩,h.kp<|a.trans c⟩,h.kp a⟩,h⟩⟩
end
theorem z_{K:Φ}{X:Cx}{b:χ}{st:Stmt} : DS K X b st (λ_ _ _ _=>False):=by refine⟨λy=>?_⟩;rintro pins s τ H D I ⟨_,_,_,_,_,_,h,_⟩;exact h.elim
def W0(K:Φ)(C0:ε)(tb:TX)(ts:TS):TS:=λD σ H=>tb (λav cls _ H'=>∃C,cls=.ref C/\mroIn K C (.ref C0)=ϑ true/\∀a,H' a=ϐ->ts D av (upd H' a<|Gr a<|.ref C)) D σ H
section
variable{X:Cx}{x:ρ}{C0:ε}{body so:δ Stmt}{Cv:Stmt}{np wo pos:Pos}{tb:TX}{ts:TS}
theorem M_(i:X.stack=X.env::X.outer)(fr:X.env.frame=ϑ X.env.locals)(l:Gl X x)(hm:X.mg x=ϑ (.ref C0))(c0:XC X.K C0) (Q:Vv X body tb) (U:∀a,BV (X.lE a) (Cv::so) ts) (mn:ψ ((x==("__debug__": ρ))=ϰ) qQZ): PS X (.Try body [.ExceptHandler (some<|.Name x np) none (Cv::so) wo] [] [] pos) (W0 X.K C0 tb ts):=by intro pins s σ H D I h;refine wpAny_Try_except<|yz (Q pins s σ H D _ I h) (λf s1 q=>?_) λe s1 q=>?_;{cases f with|next=>(obtain⟨av,H',I',q⟩:=q;exact vZ pins s1 av H' D I' q)|ret v=>exact q|brk=>exact q|cont=>exact q};{obtain⟨av,H1,s2,r,a,cls,a0,B,H',rfl,os,bare,F,C,rfl,S,M⟩:=q;have J:X.A.frames=ϑ (X.env::X.outer):=(by rw[I.ok.frames,i]);have fl:Heap.FlyingW B (X.env::X.outer) a (.ref C) a0 s1.heap:=(by rw[<-i];exact F.fl);refine wpAny_looks_onW J fr fl λh4 R N=>?_;refine wpAny_landsW R λt y P=>?_;have j:sj X.prog X.w (λ_=>some<|.ref C) X.stack H1 H' s2.heap a (.ref C) a0 B t:=F.loose.on (by rw[i];exact y) (N.trans P)<|.inr rfl;have m:Inv X pins av (upd H' a<|Gr a<|.ref C) {s1 with heap:=t}:=r.HW (ch:=[]) os j.unT j.Vu bare λb z=>absurd z (by simp);refine wpAny_handleBy_cons (codeAny_handlers_test<|mj (m.lE a) l hm ?_ mn) (by intro q;cases q);obtain⟨oe,vs,he,G,hd,_⟩:=j.fl.first;obtain⟨bm0,n⟩:=c0.at m.n5;refine Ar (PySem.W.looks_mroIn m.n5 S) n he G ?_;refine codeAny_handlers_suite ?_;refine lands_againW y λp Z O=>?_;have E:sj X.prog X.w (λ_=>some<|.ref C) X.stack H1 H' s2.heap a (.ref C) a0 B p:=j.on (by rw[i];exact Z) O<|.inr rfl;have Y:Inv X pins av (upd H' a<|Gr a<|.ref C) {s1 with heap:=p}:=r.HW (ch:=[]) os E.unT E.Vu bare λb z=>absurd z (by simp);refine yz (U a pins _ _ _ _ (Y.lE a)<|M a F.hn) (λf s8 c=>?_) λ_ _ z=>False.elim z;cases f with|next=>(obtain⟨o,g,d,c⟩:=c;exact{_,g,d.wm I.ok,c})|brk=>(obtain⟨o,g,d,c⟩:=c;exact{_,g,d.wm I.ok,c})|cont=>(obtain⟨o,g,d,c⟩:=c;exact{_,g,d.wm I.ok,c})|ret u=>obtain⟨v,o,g,d,L,c⟩:=c;exact{v,_,g,d.wm I.ok,L,c}}
end
def W3(K:Φ)(C0:ε)(tb ts:jy):jy:=λDe σ S _=>tb De σ S λav C S'=>mroIn K C (.ref C0)=ϑ true/\∀a,S' a=ϐ->ts De av (S'.set a<|.exc C) λ_=>Zf
section
variable{K:Φ}{X:Cx}{b:χ}{x:ρ}{C0:ε}{body so:δ Stmt}{Cv:Stmt}{np wo pos:Pos}
theorem W4{tb ts:jy}(hm:X.mg x=ϑ (.ref C0))(c0:XC K C0)(r:BN K X false body tb)(B:∀a,BN K (X.lE a) false (Cv::so) ts) (l:ψ (Gl X x) qQJ) (I:ψ ((x==("__debug__": ρ))=ϰ) qQZ) (A:ψ (X.stack=X.env::X.outer) qQJ) (fr:ψ (X.env.frame=ϑ X.env.locals) qQJ) (v:ψ (X.K=K) qQJ): DS K X b (.Try body [.ExceptHandler (some<|.Name x np) none (Cv::so) wo] [] [] pos) (W3 K C0 tb ts):=by subst v;refine⟨λy=>(M_ (X:=y.cx) (ts:=Tl X.K (λ_=>E0) ts) A fr l hm c0 (Jf (X:=y.cx) (K:=X.K) (t:=tb) ⟨λz=>r.of ⟨z.pn,z.xe,z.E,z.ok⟩⟩) (λa=>(B a).of {y.pn,λ_ _=>False,λ_=>E0,{λp2 τ H s e s' _ ⟨_,_,_,_,_,_,_,_,_,z⟩=>z.elim,λe=>(by cases e),λe=>(by cases e)}}) I).mono λD τ H ⟨σ,S,De,Z,w,p,q,d,N⟩=>?_⟩;refine{σ,S,De,_,w,p,q,d,λO M C S1 H1 ⟨F,G⟩ L s1 J=>{C,rfl,F,λa ha=>?_}};have kn:Kp X.K H1 (upd H1 a<|Gr a<|.ref C):=.new ha;have kk:=J.trans kn;exact{_,_,De,λ_=>Zf,L.ts kn,s1.new (c:=.exc C) ha aC,G a<|s1.fresh ha,{λo n τ8 m g i j h=>d.nx _ _ _ _ g i j<|kk.trans h,d.rt.kp kk,λo n τ8 m g i j h=>d.bk _ _ _ _ g i j<|kk.trans h,λo n τ8 m g i j h=>d.ct _ _ _ _ g i j<|kk.trans h},λ_ _ _ _ _ z=>z.elim}
end
noncomputable def fH(N:π)(v:π->ξ):Array Value:=((List.range N).map v).toArray
structure ZN(n N:π)(l:π->ε)(i:π)(h:Γ):η where
 z:IsZip h (n+N+2) (n+N) (n+N+1) .none
 t:mB h (n+N) (fH N λj=>.ref<|n+j)
 o:∃arr:Array ξ,arr.size=N/\mB h (n+N+1) arr
 it:∀j,j<N->h.IsTupleIter (n+j) (l j) i
theorem kI:(fH N v).size=N:=by unfold fH;simp
theorem jO:(fH N v).toList.length=N:=by unfold fH;simp
theorem Na(h:arr.size=N)(e:∀j,j<N->arr[j]?=some (v j)):arr=fH N v:=by refine Array.ext (by rw[h,kI]) λj h1 h2=>?_;have:=e j (by lia);rw[Array.getElem?_eq_getElem h1]at this;rw[zT this];simp[fH]
section
variable{prog:Ψ}{w:Ω}{A:ϕ}{E:ξ->ζ->η}{s:ζ}{n N:π}{l:π->ε}{i:π}{xs:π->Array ξ}
theorem GU{v:π->ξ}{Q:ξ->ζ->η}(h1:1<=N)(h3:N<=3)(lt:∀j,j<N->l j<n)(hs:ZN n N l i s.heap)(tu:∀j,j<N->s.heap.IsTuple (l j) (xs j))(ev:∀j,j<N->(xs j)[i]?=some (v j)) (hQ:∀h',IsZip h' (n+N+2) (n+N) (n+N+1) (rawInt s.heap.objs.size)->mB h' (n+N+1) (fH N v)->(∀j,j<N->h'.IsTupleIter (n+j) (l j) (i+1))->mB h' s.heap.objs.size (fH N v)->(∀c o,c≠n+N+2->c≠n+N+1->(∀j,j<N->c≠n+j)->s.heap.get? c=ϑ o->h'.get? c=ϑ o)->Q (.ref s.heap.objs.size) {s with heap:=h'}): wpAny (model prog w) A (Builtin.«zip.__next__» {[.ref<|n+N+2],[]}) (λfin s'=>∃v,fin=.done (.ret v)/\Q v s') E s:=by
 obtain⟨hz,hI,⟨arr,na,hO⟩,F⟩:=hs;show wpAny _ _ (field (.ref<|n+N+2) 2 >>=_) _ _ _;refine zc<|yo hz rfl (x:=.bool false) rfl ?_;show wpAny _ _ (field (.ref<|n+N+2) 3 >>=_) _ _ _;refine zc<|yo hz rfl (x:=.ref<|n+N) rfl ?_;refine zc<|wpAny_seqItems hI rfl ?_;have he:(fH N λj=>Value.ref<|n+j).isEmpty=ϰ:=by rw[Array.isEmpty_eq_false_iff];intro e;have:=congrArg Array.size e;rw[kI]at this;simp at this;lia
 dsimp only;rw[qa<|by rw[he];exact zd];refine zc ?_;unfold Builtin.SmallTypes.ownedTupleIsFree;refine zc<|yo hz rfl (x:=.none) rfl<|zB ?_;simp only[if_true];refine zc<|y7 ?_;refine zc<|yo hz rfl (x:=.ref<|n+N+1) rfl ?_;refine zc<|wpAny_setField_rec hz (by simp) λh0 P X=>?_;replace P:IsZip h0 (n+N+2) (n+N) (n+N+1) .ellipsis:=P;have L:∀c o,c≠n+N+2->s.heap.get? c=ϑ o->h0.get? c=ϑ o:=λc o d e=>X.extBut _ _ d e;refine zc<|wpAny_forIn_list _ (λrest b s'=>∃(k:π)(h':Γ)(h:Array ξ),k<=N/\rest=((fH N λj=>Value.ref<|n+j).toList.zipIdx).drop k/\b=(none,())/\s'={s with heap:=h'}/\mB h' (n+N+1) h/\h.size=N/\(∀j,j<k->h[j]?=some (v j))/\(∀j,j<N->h'.IsTupleIter (n+j) (l j) (if j<k then i+1 else i))/\IsZip h' (n+N+2) (n+N) (n+N+1) .ellipsis/\h'.objs.size=s.heap.objs.size/\(∀c o,c≠n+N+2->c≠n+N+1->(∀j,j<N->c≠n+j)->s.heap.get? c=ϑ o->h'.get? c=ϑ o)) _ ?_ ?_ _ _ ?_;rintro x rest b s' ⟨k,h',h,hk,e1,rfl,rfl,O,ha,I,J,Z,sz,kp⟩;have a:k<N:=by have:=congrArg List.length e1;rw[zR,zS,List.length_zipIdx,jO]at this;lia
 have e2:((fH N λj=>Value.ref<|n+j).toList.zipIdx).drop k=(Value.ref<|n+k,k)::((fH N λj=>Value.ref<|n+j).toList.zipIdx).drop (k+1):=by rw[yc<|by rw[List.length_zipIdx,jO];exact a];simp[fH]
 rw[e2]at e1;cases e1;have lk:@LT.lt π _ (l k) n:=lt k a;have R:=J k a;rw[qa<|yI _]at R;have T0:Heap.IsTuple h' (l k) (xs k):=by obtain⟨o,H,G⟩:=tu k a;exact{o,kp _ _ (by show @Ne π _ _;lia) (by show @Ne π _ _;lia) (λj _=>by show @Ne π _ _;lia) H,G}
 refine zc<|wpAny_onRaise ?_;show wpAny _ _ (Builtin.SmallTypes.nextOf (.ref<|n+k) >>=_) _ _ _;refine zc<|Cz (s:={s with heap:=h'}) R T0 (ev k a) λm m0 q=>zB ?_;have S:mB m (n+N+1) h:=q.extBut _ _ (by show @Ne π _ _;lia) O;refine zc<|wpAny_seqItems (s:={s with heap:=m}) S rfl ?_;refine zc<|Gx (s:={s with heap:=m}) S (by lia) λp O2 r=>?_;refine zc<|wpAny_letGo<|zB ?_;refine{k+1,p,_,a,rfl,rfl,rfl,O2,by rw[Array.size_setIfInBounds];exact ha,λj g=>?_,λj g=>?_,r.extBut _ _ (by show @Ne π _ _;lia)<|q.extBut _ _ (by show @Ne π _ _;lia) Z,by rw[r.1,q.1];exact sz,λc o d1 B C e=>r.extBut _ _ B<|q.extBut _ _ (C k a)<|kp c o d1 B C e};by_cases z:j=k;subst z;rw[Array.getElem?_setIfInBounds_self_of_lt<|by lia];rw[Array.getElem?_setIfInBounds_ne<|Ne.symm z];exact I j (by lia);by_cases z:j=k;subst z;rw[qb<|Nat.lt_succ_self _];exact wq r.extBut (by show @Ne π _ _;lia) m0;have:=J j g;rw[show(if j<k+1 then i+1 else i)=if j<k then i+1 else i by by_cases y:j<k;rw[qb y,qb<|by lia];rw[qa y,qa<|by lia]];exact wq r.extBut (by show @Ne π _ _;lia)<|wq q.extBut (by show @Ne π _ _;lia) this;rintro b s' ⟨k,h',h,hk,e1,rfl,rfl,O,ha,I,J,Z,sz,kp⟩;have a:k=N:=by have:=congrArg List.length e1;rw[List.length_nil,zS,List.length_zipIdx,jO]at this;lia
 subst a;have ea:=Na ha I;subst ea;refine zc<|wpAny_seqItems (s:={s with heap:=h'}) O rfl ?_;refine zc<|wpAny_newTuple ?_ (hsz:=by rw[jO];exact Z6 h3);have U:n+k+2<h'.objs.size:=zu Z;show wpAny _ _ (Builtin.SmallTypes.ownedTupleHandOut (.ref<|n+k+2) (.ref h'.objs.size) >>=_) _ _ _;refine zc ?_;unfold Builtin.SmallTypes.ownedTupleHandOut;have M:IsZip (h'.push {cls:=.type "tuple",data:=.seq<|fH k v}) (n+k+2) (n+k) (n+k+1) .ellipsis:=za _ Z;refine zc<|wpAny_setField_rec (s:={s with heap:=h'.push {cls:=.type "tuple",data:=.seq<|fH k v}}) M (by simp) λm K Y=>?_;replace K:IsZip m (n+k+2) (n+k) (n+k+1) (rawInt h'.objs.size):=K;refine wpAny_setField_rec (s:={s with heap:=m}) K (by simp) λp t r2=>?_;replace t:IsZip p (n+k+2) (n+k) (n+k+1) (rawInt h'.objs.size):=t;have up:∀c o,c≠n+k+2->h'.get? c=ϑ o->p.get? c=ϑ o:=λc o d e=>r2.extBut _ _ d<|Y.extBut _ _ d<|za _ e;have hT:mB p h'.objs.size (fH k v):=r2.extBut _ _ (yw U)<|Y.extBut _ _ (yw U)<|zp _ rfl;rw[sz]at t hT;refine zB !⟨?_⟩;show Q (.ref h'.objs.size) _;rw[sz];refine hQ p t (up _ _ (by show @Ne π _ _;lia) O) (λj g=>?_) hT λc o d1 B C e=>up c o d1<|kp c o d1 B C e;have:=J j g;rw[qb g]at this;exact Oq (λo e=>up _ o (by show @Ne π _ _;lia) e) this;refine{0,h0,arr,yb _,rfl,rfl,rfl,L _ _ (by show @Ne π _ _;lia) hO,na,λj g=>absurd g<|Nat.not_lt_zero _,λj g=>?_,P,X.1,λc o d _ _ e=>L c o d e};rw[qa<|Nat.not_lt_zero _];obtain⟨o,H,G⟩:=F j g;exact{o,L _ _ (by show @Ne π _ _;lia) H,G}
theorem JF(h1:1<=N)(M:A.handled=ϐ)(K:ZN n N l i s.heap)(lt:l 0<n)(B:s.heap.IsTuple (l 0)<|xs 0)(J:(xs 0)[i]?=none) (C:∀h' e,(∀c o,c≠n+N+2->c≠n+0->s.heap.get? c=ϑ o->h'.get? c=ϑ o)->(∃o,h'.get? e=ϑ o/\o.cls=.type "StopIteration")->E (.ref e) {s with heap:=h'}): wpAny (model prog w) A (Builtin.«zip.__next__» {[.ref<|n+N+2],[]}) Q E s:=by
 obtain⟨hz,H,⟨arr,P,O⟩,g⟩:=K;show wpAny _ _ (field (.ref<|n+N+2) 2 >>=_) _ _ _;refine zc<|yo hz rfl (x:=.bool false) rfl ?_;show wpAny _ _ (field (.ref<|n+N+2) 3 >>=_) _ _ _;refine zc<|yo hz rfl (x:=.ref<|n+N) rfl ?_;refine zc<|wpAny_seqItems H rfl ?_;have r:(fH N λj=>Value.ref<|n+j).isEmpty=ϰ:=by rw[Array.isEmpty_eq_false_iff];intro e;have:=congrArg Array.size e;rw[kI]at this;simp at this;lia
 dsimp only;rw[qa<|by rw[r];exact zd];refine zc ?_;unfold Builtin.SmallTypes.ownedTupleIsFree;refine zc<|yo hz rfl (x:=.none) rfl<|zB ?_;simp only[if_true];refine zc<|y7 ?_;refine zc<|yo hz rfl (x:=.ref<|n+N+1) rfl ?_;refine zc<|wpAny_setField_rec hz (by simp) λh0 q p=>?_;replace q:IsZip h0 (n+N+2) (n+N) (n+N+1) .ellipsis:=q;have lk:@LT.lt π _ (l 0) n:=lt;have F:Heap.IsTupleIter h0 (n+0) (l 0) i:=by obtain⟨o,m,h⟩:=g 0 h1;exact{o,p.extBut _ _ (by show @Ne π _ _;lia) m,h}
 have G:Heap.IsTuple h0 (l 0) (xs 0):=by obtain⟨o,m,h⟩:=B;exact{o,p.extBut _ _ (by show @Ne π _ _;lia) m,h}
 have e2:(fH N λj=>Value.ref<|n+j).toList.zipIdx=(Value.ref<|n+0,0)::((fH N λj=>Value.ref<|n+j).toList.zipIdx).drop 1:=by have:=yc (l:=(fH N λj=>Value.ref<|n+j).toList.zipIdx) (i:=0) (by rw[List.length_zipIdx,jO];exact h1);rw[y3]at this;rw[this];simp[fH]
 rw[e2,List.forIn_cons];refine zc<|zc<|zc<|wpAny_onRaise ?_;show wpAny _ _ (Builtin.SmallTypes.nextOf (.ref<|n+0) >>=_) _ _ _;refine zc<|su (s:={s with heap:=h0}) M F G J λh1 e t r=>?_;obtain⟨L,a,d⟩:=r;have y:IsZip h1 (n+N+2) (n+N) (n+N+1) .ellipsis:=t _ _ (by show @Ne π _ _;lia) q;have I:e≠n+N+2:=λx=>by subst x;rw[y]at a;cases a;simp at d
 refine wpAny_setField_rec (s:={s with heap:=h1}) y (by simp) λh2 _ v=>C h2 e (λc o z d0 x=>v.extBut _ _ z<|t _ _ d0<|p.extBut _ _ z x) {L,v.extBut _ _ I a,d}
end
noncomputable def RK(K:Φ)(N:π)(l:π->ε):It:={λi H=>∃(xs:π->δ V)(x:π->V),∀j,j<N->gW K H (l j) (xs j)/\(xs j)[i]?=some (x j),λi H y H'=>∃T,H T=ϐ/\y=.ref T/\∀(xs:π->δ V)(x:π->V),(∀j,j<N->gW K H (l j) (xs j)/\(xs j)[i]?=some (x j))->H'=upd H T (.tup<|(List.range N).map x),λi H=>∃xs:π->δ V,(∀j,j<N->gW K H (l j) (xs j))/\(xs 0).length<=i}
noncomputable def T9(n N:π):δ Addr:=(List.range<|N+3).map λj=>n+j
theorem q_(h:b∈T9 n N):∃j,j<N+3/\b=n+j:=by obtain⟨j,a,e⟩:=zh.mp h;exact{j,zW.mp a,e.symm}
theorem fI(h:j<N+3):(n+j:π)∈T9 n N:=zh.mpr {j,zW.mpr h,rfl}
theorem CZ(h:∀j,j<N->RelV (x j) (u j)):Vals ((List.range N).map x) ((List.range N).map u):=by
 have:∀l:δ π,(∀j∈l,j<N)->Vals (l.map x) (l.map u):=by intro l;induction l with|nil=>exact λ_=>.nil|cons a l d=>exact λhl=>.cons (h a<|hl a zq)<|d λj c=>hl j<|zg _ c
 exact this _ λj c=>zW.mp c
theorem vm{P:Ψ}{w:Ω}{K:Φ}{es:δ Δ}{kk:π}{tp:Pos}{n N:π}{l:π->ε}(h1:1<=N)(h3:N<=3)(lt:∀j,j<N->l j<n):Turn P w K (.Tuple es kk tp) (RK K N l) (T9 n N) (n+N+2) (ZN n N l) where
 mem:=fI (j:=N+2)<|by lia
 obj:=λi h st b hb=>by
  obtain⟨j,hj,rfl⟩:=q_ hb
  by_cases q:j<N
  ·obtain⟨o,e,c,d⟩:=st.it j q;exact{o,e,λv z=>by rw[d]at z;cases z}
  ·obtain⟨arr,na,hO⟩:=st.o
   have:j=N\/j=N+1\/j=N+2:=by lia
   rcases this with rfl|rfl|rfl
   ·exact{_,st.t,λv z=>by cases z}
   ·exact{_,hO,λv z=>by cases z}
   ·exact{_,st.z,λv z=>by cases z}
 keep:=λi h h' st k=>by
  obtain⟨hz,hI,⟨arr,na,hO⟩,J⟩:=st
  exact{k _ (fI (j:=N+2)<|by lia) _ hz,k _ (fI (j:=N)<|by lia) _ hI,{arr,na,k _ (fI (j:=N+1)<|by lia) _ hO},λj hj=>Oq (λo e=>k _ (fI<|by lia) o e)<|J j hj}
 item:=by
  intro X hP hw hK hc i pins s σ H E I hf st hg
  subst hP hw hK
  obtain⟨xs,x,hx⟩:=hg
  have ex:∀j,∃(ax:δ ξ)(u:ξ),j<N->Vals (xs j) ax/\s.heap.IsTuple (l j) ax.toArray/\ax[i]?=some u/\RelV (x j) u:=λj=>by
   by_cases q:j<N
   ·obtain⟨ax,rv,p,_⟩:=I.tuple (hx j q).1
    obtain⟨u,hu,ru⟩:=rv.get (hx j q).2
    exact{ax,u,λ_=>⟨rv,p,hu,ru⟩}
   ·exact{[],.none,λh=>absurd h q}
  have fx:=Classical.axiomOfChoice ex
  obtain⟨ax,fx⟩:=fx
  obtain⟨u,fx⟩:=Classical.axiomOfChoice fx
  have hT:s.TypeIs (.ref<|n+N+2) "zip":={_,st.z,rfl}
  have lz:@LT.lt π _ (n+N+2) s.heap.objs.size:=zu st.z
  unfold pyNext
  refine zc<|wpAny_attempt<|wpAny_callSpecial?_slot (name:=Str.ofString "__next__") hT F.slot_zip_next<|yU F.slot_zip_next hT F.entry_zip_next (GU h1 h3 lt st (xs:=λj=>(ax j).toArray) (v:=u) (λj hj=>(fx j hj).2.1) (λj hj=>by simpa using (fx j hj).2.2.1) λg1 z1 O1 m1 T1 kp=>zB !⟨?_⟩)<|F.args_zip_next_1 _
  refine wpAny_letOwnedTupleGo_zip (s:={s with heap:=g1}) z1 λg2 z2 r2=>?_
  have TC:∀c o,c∉T9 n N->s.heap.get? c=ϑ o->g2.get? c=ϑ o:=λc o hc e=>r2.extBut _ _ (λz=>hc<|z ▸ fI (j:=N+2) (by lia))<|kp c o (λz=>hc<|z ▸ fI (j:=N+2) (by lia)) (λz=>hc<|z ▸ fI (j:=N+1) (by lia)) (λj hj z=>hc<|z ▸ fI (by lia)) e
  have T2:mB g2 s.heap.objs.size (fH N u):=r2.extBut _ _ (yw lz) T1
  have I2:Inv X pins σ (upd H s.heap.objs.size<|.tup<|(List.range N).map x) {s with heap:=g2}:=I.EC (t':=s.toks) (T9 n N) hf TC (Heap.get?_none_of_le<|zk _) {by rw[zb,List.length_range];exact Yj<|zH h3<|by decide,_,CZ λj hj=>(fx j hj).2.2.2,{_,T2,rfl,rfl,_,rfl}}
  refine{.ref s.heap.objs.size,_,I2,rfl,{_,I.aG.fresh<|zk _,rfl,λys y hy=>?_},{z2,?_,{_,kI,r2.extBut _ _ (by show @Ne π _ _;lia) O1},λj hj=>wq r2.extBut (by show @Ne π _ _;lia)<|m1 j hj},λb hb=>?_}
  ·congr 2
   refine zX λj hj=>?_
   have hj:=zW.mp hj
   have:=I.oh (hy j hj).1 (hx j hj).1
   have e:=(hy j hj).2
   rw[this,(hx j hj).2]at e
   exact zT e
  ·exact r2.extBut _ _ (by show @Ne π _ _;lia) (kp _ _ (by show @Ne π _ _;lia) (by show @Ne π _ _;lia) (λj hj=>by show @Ne π _ _;lia) st.t)
  ·obtain⟨j,hj,rfl⟩:=q_ hb
   rw[au<|by show @Ne π _ _;lia]
   exact(hf _ hb).1
 done:=by
  intro X hP hw hK hc i pins s σ H E I hf st hg
  subst hP hw hK
  obtain⟨xs,hx,hl⟩:=hg
  obtain⟨JG,rv0,p0,_⟩:=I.tuple<|hx 0 h1
  have hT:s.TypeIs (.ref<|n+N+2) "zip":={_,st.z,rfl}
  have hl0:=rv0.length
  unfold pyNext
  refine zc<|wpAny_attempt<|wpAny_callSpecial?_slot (name:=Str.ofString "__next__") hT F.slot_zip_next<|yU F.slot_zip_next hT F.entry_zip_next (JF h1 (I.ok.hd hc) st (lt 0 h1) (xs:=λ_=>JG.toArray) p0 (by simp;lia) λh1 e kp he=>?_)<|F.args_zip_next_1 _
  obtain⟨o,ho,MV⟩:=he
  refine zc<|wpAny_isInstance (T:="StopIteration") (b:=true) ⟨o,ho,MV⟩ isSubtype_stop<|zB {rfl,?_}
  exact I.EB (t':=s.toks) (T9 n N) hf λc o hc e=>kp c o (λz=>hc<|z ▸ fI (j:=N+2) (by lia)) (λz=>hc<|z ▸ fI (j:=0) (by lia)) e
 self:=λA' i s Q E st h=>wpAny_pyIter_zip st.z h
noncomputable def two(a b:ε):π->Addr:=λj=>if j=0 then a else b
noncomputable def RL(a b c:ε):π->Addr:=λj=>if j=0 then a else if j=1 then b else c
theorem YL{p:π->η}(h0:p 0)(h1:p 1):∀j,j<2->p j|0,_=>h0|1,_=>h1|j+2,h=>by lia
theorem YM{p:π->η}(h0:p 0)(h1:p 1)(h2:p 2):∀j,j<3->p j|0,_=>h0|1,_=>h1|2,_=>h2|j+3,h=>by lia
section
variable{X:Cx}{a b c:Δ}{ta:TA}{p pos tp:Pos}{es:δ Δ}{kk:π}
theorem RM(hg:Gl X "zip")(hm:X.mg "zip"= none)(ha:PA X [a,b] ta)(z:starEach [a,b] X.env=[(false,eval a X.env),(false,eval b X.env)])(l:starEach [b] X.env=[(false,eval b X.env)]): PI X (.Tuple es kk tp) (.Call (.Name "zip" p) [a,b] [] pos) (λσ H R=>ta σ H λvs H1=>∃d c,vs=[.ref d,.ref c]/\(∃xs,gW X.K H1 d xs)/\(∃xs,gW X.K H1 c xs)/\R (RK X.K 2<|two d c) H1):=by intro pins s σ H R I h;refine Call_<|fE I hg hm boot_zip<|PyProof.Rows.callWith_type1 (bp (ha pos pins s σ H _ I h) λus s1 ⟨vs,H1,g,B,n⟩=>?_) (by rw[z,l]) (by rw[l];rfl);obtain⟨d,c,e,⟨F,A⟩,⟨J,t⟩,q⟩:=n;subst e;obtain⟨u,v,rfl,r,o⟩:=B.two;cases r;cases o;obtain⟨x,E,i,_⟩:=g.tuple A;obtain⟨C,G,m,_⟩:=g.tuple t;refine CF (show s1.heap.IsTuple d x.toArray from i) (show s1.heap.IsTuple c C.toArray from m) λh' zs kp=>?_;have y:ZN s1.heap.objs.size 2 (two d c) 0 h':={zs.1,zs.2.1,zs.2.2.1,YL zs.2.2.2.1 zs.2.2.2.2};refine wpAny_pyIter_zip (s:={s1 with heap:=h'}) zs.1 {_,_,_,_,H1,rfl,g.kept (t':=s1.toks) kp,vm (by decide) (by decide)<|YL i.lt m.lt,y,λb w=>?_,q};obtain⟨j,_,rfl⟩:=q_ w;exact g.oj (Nat.le_add_right _ _)<|g.aG.fresh<|Nat.le_add_right _ _
theorem RO(hg:Gl X "zip")(hm:X.mg "zip"= none)(ha:PA X [a,b,c] ta)(G:starEach [a,b,c] X.env=[(false,eval a X.env),(false,eval b X.env),(false,eval c X.env)])(n:starEach [b,c] X.env=[(false,eval b X.env),(false,eval c X.env)]): PI X (.Tuple es kk tp) (.Call (.Name "zip" p) [a,b,c] [] pos) (λσ H R=>ta σ H λvs H1=>∃i g l2,vs=[.ref i,.ref g,.ref l2]/\(∃xs,gW X.K H1 i xs)/\(∃xs,gW X.K H1 g xs)/\(∃xs,gW X.K H1 l2 xs)/\R (RK X.K 3<|RL i g l2) H1):=by intro pins s σ H R I h;refine Call_<|fE I hg hm boot_zip<|PyProof.Rows.callWith_type1 (bp (ha pos pins s σ H _ I h) λus s1 ⟨vs,H1,d,J,t⟩=>?_) (by rw[G,n]) (by rw[n];rfl);obtain⟨i,g,l2,e,⟨O,F⟩,⟨Q,x⟩,⟨S,B⟩,q⟩:=t;subst e;obtain⟨u,v,z,rfl,r,w,l⟩:=J.three;cases r;cases w;cases l;obtain⟨C,M,m,_⟩:=d.tuple F;obtain⟨L,P,o,_⟩:=d.tuple x;obtain⟨A,N,p2,_⟩:=d.tuple B;refine CL (show s1.heap.IsTuple i C.toArray from m) (show s1.heap.IsTuple g L.toArray from o) (show s1.heap.IsTuple l2 A.toArray from p2) λh' zs kp=>?_;have E:ZN s1.heap.objs.size 3 (RL i g l2) 0 h':={zs.1,zs.2.1,zs.2.2.1,YM zs.2.2.2.1 zs.2.2.2.2.1 zs.2.2.2.2.2};refine wpAny_pyIter_zip (s:={s1 with heap:=h'}) zs.1 {_,_,_,_,H1,rfl,d.kept (t':=s1.toks) kp,vm (by decide) (by decide)<|YM m.lt o.lt p2.lt,E,λb y=>?_,q};obtain⟨j,_,rfl⟩:=q_ y;exact d.oj (Nat.le_add_right _ _)<|d.aG.fresh<|Nat.le_add_right _ _
end
section
variable{K:Φ}{X:Cx}{a c e:Δ}{t:iE}{p pos tp:Pos}{es:δ Δ}{kk:π}
theorem izn(hm:X.mg "zip"= none)(ha:DA K X [a,c] t)(hg:ψ (Gl X "zip") qQJ)(M:ψ (starEach [a,c] X.env=[(false,eval a X.env),(false,eval c X.env)]) qQJ)(E:ψ (starEach [c] X.env=[(false,eval c X.env)]) qQJ)(F:ψ (X.K=K) qQJ): DI K X (.Tuple es kk tp) (.Call (.Name "zip" p) [a,c] [] pos) (Wo t):=by subst F;exact⟨λy=>(RM (X:=y.cx) hg hm (ha.of y) M E).mono λτ H R ⟨σ,S,RI,Z,G,C,q,N,Y⟩=>{σ,S,_,Z,G,C,q,λds S1 vs H1 ⟨xs,ys,e,hl,U⟩ v1 s1 k1=>by subst e;obtain⟨v,u,rfl,ra,I⟩:=v1.two;obtain⟨a,l,rfl,z,ta⟩:=ra.tup;obtain⟨b,n,rfl,o,tb⟩:=I.tup;refine{a,b,rfl,{l,.of z},{n,.of o},N _ S1 _ H1 U (λi S2 H2 m s2 _=>?_) s1 k1};have B:gW X.K H2 a l:=.of<|m.t _ _ z;have r:gW X.K H2 b n:=.of<|m.t _ _ o;have la:l.length=xs.length:=ta.len;let f:π->δ V:=λj=>if j=0 then l else n;refine{λd hd=>?_,λh=>{f,YL B r,by show l.length<=i;unfold iN at h;rw[List.length_zipWith]at h;lia}};unfold iN at hd;obtain⟨x,y',e1,e2,e3⟩:=List.getElem?_zipWith_eq_some.mp hd;subst e3;obtain⟨w,P,J⟩:=(RvAll.ts m _ ta).get e1;obtain⟨s,O,L⟩:=(RvAll.ts m _ tb).get e2;let g:π->V:=λj=>if j=0 then w else s;have ok:∀j,j<2->gW X.K H2 (two a b j) (f j)/\(f j)[i]?=some (g j):=YL ⟨B,P⟩ ⟨r,O⟩;refine{⟨f,g,ok⟩,λx' H' ⟨T,A,e4,Q⟩=>?_};have:=Q f g ok;subst this e4;have kk:Kp X.K H2 (upd H2 T<|.tup [w,s]):=.new A;exact{iJ aC<|RvAll.ts kk _<|aO J<|aO L bu,kk,s2.grow A},Y}⟩
theorem abg(hm:X.mg "zip"= none)(ha:DA K X [a,c,e] t)(hg:ψ (Gl X "zip") qQJ)(hs:ψ (starEach [a,c,e] X.env=[(false,eval a X.env),(false,eval c X.env),(false,eval e X.env)]) qQJ)(N:ψ (starEach [c,e] X.env=[(false,eval c X.env),(false,eval e X.env)]) qQJ)(O:ψ (X.K=K) qQJ): DI K X (.Tuple es kk tp) (.Call (.Name "zip" p) [a,c,e] [] pos) (RG t):=by subst O;exact⟨λy=>(RO (X:=y.cx) hg hm (ha.of y) hs N).mono λτ H R ⟨σ,S,RI,Z,P,L,q,hR,hZ⟩=>{σ,S,_,Z,P,L,q,λds S1 vs H1 ⟨xs,ys,zs,e,hl,xW,r1⟩ v1 s1 k1=>by subst e;obtain⟨v,u,w,rfl,ra,Q,rc⟩:=v1.thr;obtain⟨a,n,rfl,F,ta⟩:=ra.tup;obtain⟨b,r,rfl,A,tb⟩:=Q.tup;obtain⟨c,o,rfl,J,tc⟩:=rc.tup;refine{a,b,c,rfl,{n,.of F},{r,.of A},{o,.of J},hR _ S1 _ H1 r1 (λi S2 H2 l s2 _=>?_) s1 k1};have I:gW X.K H2 a n:=.of<|l.t _ _ F;have B:gW X.K H2 b r:=.of<|l.t _ _ A;have m:gW X.K H2 c o:=.of<|l.t _ _ J;have M:n.length=xs.length:=ta.len;let f:π->δ V:=λj=>if j=0 then n else if j=1 then r else o;refine{λd hd=>?_,λh=>{f,YM I B m,by show n.length<=i;rw[M,<-oG hl xW];exact h}};obtain⟨x,y',z,e1,e2,e3,e4⟩:=oH hd;subst e4;obtain⟨E,f1,U⟩:=(RvAll.ts l _ ta).get e1;obtain⟨C,f2,Y⟩:=(RvAll.ts l _ tb).get e2;obtain⟨s,f3,g3⟩:=(RvAll.ts l _ tc).get e3;let g:π->V:=λj=>if j=0 then E else if j=1 then C else s;have ok:∀j,j<3->gW X.K H2 (RL a b c j) (f j)/\(f j)[i]?=some (g j):=YM ⟨I,f1⟩ ⟨B,f2⟩ ⟨m,f3⟩;refine{⟨f,g,ok⟩,λx' H' ⟨T,G,e4,e5⟩=>?_};have:=e5 f g ok;subst this e4;have kk:Kp X.K H2 (upd H2 T<|.tup [E,C,s]):=.new G;exact{iJ aC<|RvAll.ts kk _<|aO U<|aO Y<|aO g3 bu,kk,s2.grow G},hZ}⟩
end
end L2
namespace My
open PySem L2
def top(i:π):Stmt:=PySem.Challenge.pw_pageturns_k56_faults_of_walks.main.body.getD i<|.Pass {0,0,0,0}
abbrev GV:Stmt:=top 19
abbrev JH:Stmt:=top 20
abbrev GW:Stmt:=top 21
abbrev qC:Stmt:=top 28
abbrev C3:Stmt:=top 30
abbrev wN:Stmt:=top 33
abbrev lG:Stmt:=top 41
abbrev C4:Stmt:=top 43
abbrev uB:Stmt:=top 51
abbrev AX:Stmt:=top 52
abbrev AY:Stmt:=top 56
abbrev sL:Stmt:=top 60
abbrev g_:Stmt:=top 62
abbrev hG:Stmt:=top 63
abbrev fJ:Stmt:=top 64
abbrev qD:Stmt:=top 77
abbrev C5:Stmt:=top 88
abbrev vn:Stmt:=top 90
abbrev sM:Stmt:=top 91
abbrev vo:Stmt:=top 93
abbrev vp:Stmt:=top 94
abbrev JI:Stmt:=top 96
abbrev C6:Stmt:=top 99
abbrev C7:Stmt:=top 104
abbrev br:Stmt:=top 73
abbrev iP:Stmt:=top 79
structure gY where
 (oJ lS OU mI sN wO jP jQ hU ji gy jR iQ ar aP gz aQ fi aJ:ε)
 (hW fK JJ gA jS:FuncData)
 (mJ oK mK sO kY AZ kZ mL:Tok)
 ts:δ ε
 (f C8 C9:π->ε)
 (d RP RQ:π->FuncData)
structure Txt(w:Ω)(K:Φ)(mg:ρ->θ ξ)(t:gY):η where
 fn:GS K mg top t.f t.d [16,17,18,19,20,21,22,23,24,25,28,29,30,31,32,33,34,39,40,41,42,43,44,45,51,52,53,54,55,56,57,59,60,61,63,67,68,69,71,74,76,77,78,80,82,83,84,85,86,87,88,89,90,91,92,93,94,95,96,97,98,99,100,101,102,103,104]
 eR:CY K t.ar "Shelf." br t.C8 t.RP [0,1,2,3,4,5,6,7,8,13]
 mM:CY K t.aP "Trail." iP t.C9 t.RQ [0,1,2,3,4]
 fL:OQ K mg "sorted_by_keys" (top 62) ["rows","way"] t.oJ t.hW
 eJ:OQ K mg "sorted_by_values" (top 64) ["columns","part","rows"] t.lS t.fK
 law:OQ K mg "law" (top 105) ["_law_script"] t.OU t.JJ
 cC:OR K t.ar "worths_at" "Shelf.worths_at" (inClass br 9) ["self","key","moment"] t.mI t.gA
 dj:Binds K t.gA ["self","key","moment"] [.none]
 iR:OR K t.ar "all_at" "Shelf.all_at" (inClass br 10) ["self","moment"] t.sN t.jS
 GX:Binds K t.jS ["self","moment"] [.none]
 lT:mg "MOST_NAME_SIGNS"= some (.int 8 t.mJ)
 mO:mg "MOST_KEY_SIGNS"= some (.int 12 t.oK)
 lU:mg "MOST_WORD_SIGNS"= some (.int 40 t.mK)
 qE:mg "MOST_COLUMNS"= some (.int 8 t.sO)
 jT:mg "MOST_PARTS_orders"= some (.int 8 t.kY)
 wQ:mg "MOST_DEEP"= some (.int 8 t.AZ)
 jU:mg "MOST_PARTS_sieves"= some (.int 200 t.kZ)
 lV:mg "MOST_IN_A_TUPLE"= some (.int 8 t.mL)
 JK:mg "KINDS"= some (.ref t.wO)
 JL:∀H,Rv K H (.kt [.str "number",.str "word"])<|.ref t.wO
 wR:mg "OTHER_WAY"= some (.ref t.jP)
 A1:Lq w K t.jP [("up",.str "down"),("down",.str "up")]
 wU:mg "OTHER_END"= some (.ref t.jQ)
 A2:Lq w K t.jQ [("first",.str "last"),("last",.str "first")]
 mP:mg "LENGTHS_sieves"= some (.ref t.hU)
 oM:Lq w K t.hU [("every",.int 1),("is",.int 3),("below",.int 3),("above",.int 3),("begins",.int 3),("key",.int 2),("not",.int 2),("and",.int 2),("or",.int 2)]
 oN:mg "LENGTHS_deeds"= some (.ref t.ji)
 qF:Lq w K t.ji [("put",.int 3),("change",.int 3),("take",.int 2)]
 aX:mg "len"= none
 jV:mg "all"= none
 OV:mg "any"= none
 aw:mg "isinstance"= none
 fq:mg "range"= none
 A3:mg "int"= none
 mQ:mg "str"= none
 RS:mg "bool"= none
 bz:mg "tuple"= none
 wV:mg "list"= none
 RT:mg "dict"= none
 OW:mg "set"= none
 OX:mg "zip"= none
 h_:mg "sorted"= none
 W7:mg "min"= none
 W8:mg "sum"= none
 pS:mg "enumerate"= none
 sP:mg "reversed"= none
 wW:mg "PageError"= some (.ref t.gy)
 jW:excIn K t.gy L2.Cu "ValueError.__new__"= true
 GY:mg "HasKey"= some (.ref t.jR)
 sQ:excIn K t.jR L2.Cu "ValueError.__new__"= true
 JM:mg "NoKey"= some (.ref t.iQ)
 wX:excIn K t.iQ L2.Cu "ValueError.__new__"= true
 dM:mroIn K t.jR (.ref t.gy)=ϑ true
 dU:mroIn K t.iQ (.ref t.gy)=ϑ true
 JN:mg "Shelf"= some (.ref t.ar)
 aq:qS K t.ar
 JO:Mk K t.ar (t.C8 0)
 cZ:findIn K (.ref t.ar) "columns"= some none
 cR:findIn K (.ref t.ar) "deeds"= some none
 bV:findIn K (.ref t.ar) "runs"= some none
 JP:mg "Trail"= some (.ref t.aP)
 aF:qS K t.aP
 JQ:Mk K t.aP (t.C9 0)
 bD:findIn K (.ref t.aP) "shelf"= some none
 cS:findIn K (.ref t.aP) "order"= some none
 fM:findIn K (.ref t.aP) "sieve"= some none
 bL:findIn K (.ref t.aP) "hinder"= some none
 gB:t.hW.code=.ref t.gz
 dW:codeHdIn K t.gz t.aQ=ϱ
 mR:t.aQ∈t.ts
 fj:t.fK.code=.ref t.fi
 dk:codeHdIn K t.fi t.aJ=ϱ
 k7:t.aJ∈t.ts
 np:[t.aQ,t.aJ].Nodup
 ta:∀b∈t.ts,b=t.aQ\/b=t.aJ
 bl:∀(s:ζ)(u:ξ),BindsTo s t.JJ {[u],[]} [("_law_script",u)]
section
variable{w:Ω}{K:Φ}{mg:ρ->θ ξ}{t:gY}(T:Txt w K mg t)
def Txt.mS:=T.fn 16<|by decide
def Txt.ia:=T.fn 17<|by decide
def Txt.oO:=T.fn 18<|by decide
def Txt.rf:=T.fn 19<|by decide
def Txt.oP:=T.fn 20<|by decide
def Txt.wY:=T.fn 21<|by decide
def Txt.wZ:=T.fn 22<|by decide
def Txt.mT:=T.fn 23<|by decide
def Txt.compared:=T.fn 24<|by decide
def Txt.dN:=T.fn 25<|by decide
def Txt.gN:=T.fn 28<|by decide
def Txt.oQ:=T.fn 29<|by decide
def Txt.mU:=T.fn 30<|by decide
def Txt.fN:=T.fn 31<|by decide
def Txt.ib:=T.fn 32<|by decide
def Txt.lW:=T.fn 33<|by decide
def Txt.cE:=T.fn 34<|by decide
def Txt.w4:=T.fn 39<|by decide
def Txt.C_:=T.fn 40<|by decide
def Txt.jX:=T.fn 41<|by decide
def Txt.w5:=T.fn 42<|by decide
def Txt.mV:=T.fn 43<|by decide
def Txt.fb:=T.fn 44<|by decide
def Txt.mW:=T.fn 45<|by decide
def Txt.jY:=T.fn 51<|by decide
def Txt.oR:=T.fn 52<|by decide
def Txt.dX:=T.fn 53<|by decide
def Txt.jZ:=T.fn 54<|by decide
def Txt.gO:=T.fn 55<|by decide
def Txt.passes:=T.fn 56<|by decide
def Txt.iS:=T.fn 57<|by decide
def Txt.fO:=T.fn 59<|by decide
def Txt.iT:=T.fn 60<|by decide
def Txt.sR:=T.fn 61<|by decide
def Txt.fP:=T.fn 63<|by decide
def Txt.fQ:=T.fn 67<|by decide
def Txt.rh:=T.fn 68<|by decide
def Txt.w6:=T.fn 69<|by decide
def Txt.j5:=T.fn 71<|by decide
def Txt.gC:=T.fn 74<|by decide
def Txt.eK:=T.fn 76<|by decide
def Txt.gQ:=T.fn 77<|by decide
def Txt.Dc:=T.fn 78<|by decide
def Txt.eS:=T.fn 80<|by decide
def Txt.dP:=T.fn 82<|by decide
def Txt.gD:=T.fn 83<|by decide
def Txt.rj:=T.fn 84<|by decide
def Txt.oS:=T.fn 85<|by decide
def Txt.rm:=T.fn 86<|by decide
def Txt.vq:=T.fn 87<|by decide
def Txt.j6:=T.fn 88<|by decide
def Txt.w9:=T.fn 89<|by decide
def Txt.iU:=T.fn 90<|by decide
def Txt.ic:=T.fn 91<|by decide
def Txt.lX:=T.fn 92<|by decide
def Txt.iV:=T.fn 93<|by decide
def Txt.rn:=T.fn 94<|by decide
def Txt.Dd:=T.fn 95<|by decide
def Txt.w_:=T.fn 96<|by decide
def Txt.dF:=T.fn 97<|by decide
def Txt.iW:=T.fn 98<|by decide
def Txt.sS:=T.fn 99<|by decide
def Txt.xa:=T.fn 100<|by decide
def Txt.JR:=T.fn 101<|by decide
def Txt.JS:=T.fn 102<|by decide
def Txt.iX:=T.fn 103<|by decide
def Txt.sT:=T.fn 104<|by decide
def Txt.fR:=T.eR 0<|by decide
def Txt.fz:=T.eR 1<|by decide
def Txt.c8:=T.eR 2<|by decide
def Txt.eL:=T.eR 3<|by decide
def Txt.cq:=T.eR 4<|by decide
def Txt.bO:=T.eR 5<|by decide
def Txt.cu:=T.eR 6<|by decide
def Txt.a_:=T.eR 7<|by decide
def Txt.fA:=T.eR 8<|by decide
def Txt.cw:=T.eR 13<|by decide
def Txt.fS:=T.mM 0<|by decide
def Txt.eM:=T.mM 1<|by decide
def Txt.fc:=T.mM 2<|by decide
def Txt.cy:=T.mM 3<|by decide
def Txt.dY:=T.mM 4<|by decide
end
def A4:=bU<|top 16
def xb:=bU<|top 17
def xc:=bU<|top 18
def Df:=bU<|top 19
def GZ:=bU<|top 20
def Dg:=bU<|top 21
def Dh:=bU<|top 22
def A5:=bU<|top 23
def pT:=bU<|top 24
def eE:=bU<|top 25
def oU:=bU<|top 28
def xf:=bU<|top 29
def A6:=bU<|top 30
def uC:=bU<|top 31
def xg:=bU<|top 32
def uD:=bU<|top 33
def A7:=bU<|top 34
def G0:=bU<|top 39
def G1:=bU<|top 40
def fT:=bU<|top 41
def Di:=bU<|top 42
def pU:=bU<|top 43
def bE:=bU<|top 44
def pV:=bU<|top 45
def bF:=bU<|top 51
def xh:=bU<|top 52
def mX:=bU<|top 53
def j7:=bU<|top 54
def eN:=bU<|top 55
def vt:=bU<|top 56
def qG:=bU<|top 57
def mY:=bU<|top 59
def jj:=bU<|top 60
def gE:=bU<|top 61
def mZ:=bU<|top 62
def cN:=bU<|top 63
def k9:=bU<|top 64
def uE:=bU<|top 67
def Dj:=bU<|top 68
def Dk:=bU<|top 69
def cg:=bU<|top 71
def j8:=bU<|top 74
def dy:=bU<|top 76
def oV:=bU<|top 77
def G4:=bU<|top 78
def oW:=bU<|top 80
def xj:=bU<|top 82
def cT:=bU<|top 83
def Dm:=bU<|top 84
def c9:=bU<|top 85
def sU:=bU<|top 86
def A8:=bU<|top 87
def A9:=bU<|top 88
def eO:=bU<|top 89
def cU:=bU<|top 90
def eW:=bU<|top 91
def fB:=bU<|top 92
def sV:=bU<|top 93
def fU:=bU<|top 94
def ie:=bU<|top 95
def G5:=bU<|top 96
def dO:=bU<|top 97
def bw:=bU<|top 98
def bB:=bU<|top 99
def Dn:=bU<|top 100
def JT:=bU<|top 101
def fV:=bU<|top 102
def fe:=bU<|top 103
def bP:=bU<|top 104
def fW:=bU<|top 105
def m6:=bU<|inClass br 0
def xk:=bU<|inClass br 1
def qH:=bU<|inClass br 2
def uF:=bU<|inClass br 3
def jv:=bU<|inClass br 4
def ig:=bU<|inClass br 5
def eF:=bU<|inClass br 6
def j9:=bU<|inClass br 7
def xm:=bU<|inClass br 8
def fX:=bU<|inClass br 9
def fg:=bU<|inClass br 10
def jw:=bU<|inClass br 13
def m7:=bU<|inClass iP 0
def bZ:=bU<|inClass iP 1
def lY:=bU<|inClass iP 2
def cK:=bU<|inClass iP 3
def m8:=bU<|inClass iP 4
theorem sm(h:n<=1000):n<=sizeLine:=yR<|kG h
theorem lZ:0<=sizeLine:=sm<|by decide
theorem sW:1<=sizeLine:=sm<|by decide
theorem bY:2<=sizeLine:=sm<|by decide
theorem uG:3<=sizeLine:=sm<|by decide
theorem sX:4<=sizeLine:=sm<|by decide
theorem G6:8<=sizeLine:=sm<|by decide
theorem W9:12<=sizeLine:=sm<|by decide
def Gt(S:ak)(d:D):Prop:=(∃k,VY S d k)/\∀z,d=.str z->z.cps.size<=1000
noncomputable def isLet(c:π):Bool:=ω (97<=c)&&ω (c<=122)
noncomputable def E3(c:π):Bool:=ω (48<=c)&&ω (c<=57)
noncomputable def E6(c:π):Bool:=ω (32<=c)&&ω (c<=126)
noncomputable def m9(z:ρ):Bool:=ω (1<=z.cps.size)&&ω (z.cps.size<=8)&&z.cps.toList.all isLet
noncomputable def l4(z:ρ):Bool:=ω (1<=z.cps.size)&&ω (z.cps.size<=12)&&(z.cps.toList.head?.any isLet)&&z.cps.toList.all λc=>isLet c||E3 c
noncomputable def pW(z:ρ):Bool:=ω (z.cps.size<=40)&&z.cps.toList.all E6
noncomputable def ofStr(f:ρ->χ):D->χ|.str z=>f z|_=>false
noncomputable def sY:D->χ|.int _=>true|_=>false
noncomputable def iY(kind:ρ)(d:D):Bool:=ah d||if kind ="number" then sY d else ofStr pW d
def Nc(f:D->χ):qY:=λds S R _=>∃d,ds=[d]/\Gt S d/\R (.bl<|f d) S
def JU(f:π->χ):qY:=λds S R _=>∃c,ds=[.str ⟨#[c]⟩]/\R (.bl<|f c) S
theorem pX:∀{xs ys:δ D}{a b:D},Paired rel xs ys->rel a b->Paired rel (xs++[a]) (ys++[b])|_,_,_,_,.nil,r=>.cons r .nil|_,_,_,_,.cons q t,r=>.cons q<|pX t r
theorem take_snoc{α:Type}{l:δ α}{i:π}{d:α}(h:l[i]?=some d):l.take (i+1)=l.take i++[d]:=by rw[List.take_add_one,h];rfl
theorem m_{I:n8}{S1:ak}{g:AF}{te:TD}{σ:SD}{src:δ<|θ π}{R:KD}(rel:D->D->η)(aG:I.ok S1)(hz:I.xs.length<=1000) (step:∀d,d∈I.xs->∀Q:KD,(∀v,rel d v->Q v S1)->g d (mE σ src) S1 λgm S3=>te gm S3 Q Zf) (c:∀out,Paired rel I.xs out->∀p,S1 p=ϐ->R (.ref p) (S1.set p<|.lst out)): AH σ src g mF te R I S1:=by
 refine{λi out S=>S=S1/\Paired rel (I.xs.take i) out,{rfl,.nil},λi out S h=>by rw[h.1];exact aG,?_,?_};rintro i d out S hd ⟨rfl,hp⟩;have hlen:=yH hp;rw[zE]at hlen;refine{kG<|by lia,?_};have e:(λ(gm:SD)(S3:ak)=>mF gm S3 (λb j=>if b=ϱ then te gm j (λv a=>a=S/\Paired rel (I.xs.take<|i+1) (out++[v])) Zf else j=S/\Paired rel (I.xs.take<|i+1) out) Zf)=λgm S3=>te gm S3 (λv a=>a=S/\Paired rel (I.xs.take<|i+1) (out++[v])) Zf:=by funext gm S3;simp[mF]
 rw[e];exact step d (zD hd) _ λv l=>{rfl,by rw[take_snoc hd];exact pX hp l};rintro out m ⟨rfl,hp⟩;rw[yP]at hp;exact c out hp
theorem sZ:∀{xs out:δ D},Paired (λd v=>v=f d) xs out->out=xs.map f|_,_,.nil=>rfl|_,_,.cons r t=>by rw[r,sZ t];rfl
theorem comp_map(f:D->D)(aG:I.ok S1)(hz:I.xs.length<=1000) (step:∀d,d∈I.xs->∀Q:KD,Q (f d) S1->g d (mE σ src) S1 λgm S3=>te gm S3 Q Zf) (a:∀p,S1 p=ϐ->R (.ref p) (S1.set p<|.lst<|I.xs.map f)): AH σ src g mF te R I S1:=m_ (λd v=>v=f d) aG hz (λd hd Q h=>step d hd Q<|h _ rfl) λout hp p c=>by rw[sZ hp];exact a p c
theorem eP{I:n8}{S1:ak}{g:AF}{tc:kW}{te:TD}{σ:SD}{src:δ<|θ π}{R:KD}(keep:D->χ)(f:D->D)(aG:I.ok S1)(hz:I.xs.length<=1000) (step:∀d,d∈I.xs->∀(Q:KD)(c:ak->η),(keep d=ϱ->Q (f d) S1)->(keep d=ϰ->c S1)->g d (mE σ src) S1 λgm S3=>tc gm S3 (λb S4=>if b=ϱ then te gm S4 Q Zf else c S4) Zf) (a:∀p,S1 p=ϐ->R (.ref p) (S1.set p<|.lst<|(I.xs.filter keep).map f)): AH σ src g tc te R I S1:=by refine{λi out S=>S=S1/\out=((I.xs.take i).filter keep).map f,⟨rfl,rfl⟩,λi out S h=>by rw[h.1];exact aG,?_,?_};rintro i d out S hd ⟨rfl,rfl⟩;have hlen:((I.xs.take i).filter keep).length<=(I.xs.take i).length:=yE _ _;rw[zE]at hlen;refine{by rw[zb];exact kG<|by lia,?_};refine step d (zD hd) _ (λS4=>S4=S/\_=_) (λhk=>{rfl,?_}) λhk=>{rfl,?_};rw[take_snoc hd,List.filter_append,zI,yT,qb hk];rfl;rw[take_snoc hd,List.filter_append,yT,qa<|by rw[hk];exact zd];simp;rintro out e ⟨rfl,rfl⟩;rw[yP];exact a
variable{P:Ψ}{w:Ω}{K:Φ}{mg:ρ->θ ξ}{base:Γ}{t:gY}
theorem pY(T:Txt w K mg t):Ok P w base T.mS 1 (Nc sY):=by
 refine T.mS.F.b_ A4 ?_;obtain⟨d,e,⟨⟨k,hk⟩,hz⟩,q⟩;refine{_,(s1<|sr<|qz (cb cB T.aw ao<|ap 0<|ac (qy T.A3 rZ) an)<|HI<|Q5<|cb cB T.aw ao<|ap 0<|ac (qy T.RS Mg) an),?_};refine !{_,_,_,_,rfl,Mj,hk,_,rfl,?_};have:(Cq k=ϱ/\((sY d=ϱ/\wj k=ϰ)\/(sY d=ϰ/\wj k=ϱ)))\/(Cq k=ϰ/\sY d=ϰ):=by cases d with|ay=>(cases hk;exact .inr ⟨rfl,rfl⟩)|bl b=>(cases hk;exact .inl {rfl,.inr ⟨rfl,rfl⟩})|int b=>(cases hk;exact .inl {rfl,.inl ⟨rfl,rfl⟩})|str b=>(cases hk;exact .inr ⟨rfl,rfl⟩)|tup b=>(cases hk;exact .inr ⟨rfl,rfl⟩)|ref a=>(rcases hk with⟨rfl,_⟩|⟨rfl,_⟩<;>exact .inr ⟨rfl,rfl⟩)|_=>exact hk.elim
 rcases this with⟨h1,h2⟩|⟨h1,h2⟩;rw[h1];refine cj !{_,_,_,_,rfl,IP,hk,_,rfl,?_};rcases h2 with⟨h2,c⟩|⟨h2,c⟩<;>(rw[c];rw[h2]at q;exact fo q);rw[h1];rw[h2]at q;exact aL<|fo q
theorem iZ(T:Txt w K mg t):Ok P w base T.ia 1 (JU isLet):=by refine T.ia.F.b_ xb ?_;obtain⟨c,e,q⟩;refine{_,(s1<|sr<|cc lP lP hr.u ds (dv 0) ds),?_};refine !!⟨?_⟩;have e1:HF "a" ⟨#[c]⟩=ω (97<=c):=kH 97 c;have e2:HF ⟨#[c]⟩ "z"= ω (c<=122):=kH c 122;unfold isLet at q;refine bC (λh=>?_) λh=>?_;rw[e1.symm.trans h,yp,<-e2]at q;exact fo q;rw[e1.symm.trans h,zY]at q;exact fo q
theorem xn(T:Txt w K mg t):Ok P w base T.oO 1 (JU E3):=by refine T.oO.F.b_ xc ?_;obtain⟨c,e,q⟩;refine{_,(s1<|sr<|cc lP lP hr.u ds (dv 0) ds),?_};refine !!⟨?_⟩;have e1:HF "0" ⟨#[c]⟩=ω (48<=c):=kH 48 c;have e2:HF ⟨#[c]⟩ "9"= ω (c<=57):=kH c 57;unfold E3 at q;refine bC (λh=>?_) λh=>?_;rw[e1.symm.trans h,yp,<-e2]at q;exact fo q;rw[e1.symm.trans h,zY]at q;exact fo q
theorem G7(h:d∈fG z):∃c,c∈z.cps.toList/\d=.str ⟨#[c]⟩:=by unfold fG at h;obtain⟨c,a,e⟩:=zh.mp h;exact⟨c,a,e.symm⟩
noncomputable def E7(f:π->χ):D->D|.str z=>.bl (z.cps.toList.head?.any f)|_=>.ay
theorem G8:(fG z).map (E7 f)=(z.cps.toList.map f).map D.bl:=by unfold fG;rw[zy,zy];rfl
theorem all_map{α:Type}{l:δ α}{f:α->χ} : (l.map f).all id=l.all f:=by rw[List.all_map];rfl
theorem oX{z:ρ}{f:π->χ}{g:AF}{te:TD}{σ:SD}{src:δ<|θ π}{S:ak}{R:KD}{Z:KX}{i:π}(e:σ[i]?=some (some<|.str z))(hz:z.cps.size<=1000) (step:∀c,c∈z.cps.toList->∀Q:KD,Q (.bl<|f c) S->g (.str ⟨#[c]⟩) (mE σ src) S λgm S3=>te gm S3 Q Zf) (q:R (.bl<|z.cps.toList.all f) S): Yl V2 (Ov (vg (OG<|VJ i) src g mF te) MH) σ S (λd S'=>Fo S'<|R d) Z:=by refine{_,e,z,rfl,?_};refine My.comp_map (I:={fG z,λ_=>True}) (E7 f) trivial (by show(fG z).length<=1000;unfold fG;rw[zb,yh];exact hz) (λd hd Q h=>?_) λp hp=>?_;obtain⟨c,a,rfl⟩:=G7 hd;exact step c a Q (by simpa [E7]using h);refine{.ref p,z.cps.toList.map f,rfl,?_,S,.new hp,?_};show(S.set p<|.lst<|(fG z).map<|E7 f) p=_;rw[aa,G8];rw[all_map];exact q
theorem Dq{S:ak}{d:D}{k:Kd}(hk:VY S d k):(∃z,d=.str z/\Cr k=ϱ)\/(Cr k=ϰ/\∀f,ofStr f d=ϰ):=by cases d with|str b=>(cases hk;exact .inl ⟨b,rfl,rfl⟩)|ay=>(cases hk;exact .inr {rfl,λ_=>rfl})|bl b=>(cases hk;exact .inr {rfl,λ_=>rfl})|int b=>(cases hk;exact .inr {rfl,λ_=>rfl})|tup b=>(cases hk;exact .inr {rfl,λ_=>rfl})|ref a=>(rcases hk with⟨rfl,_⟩|⟨rfl,_⟩<;>exact .inr {rfl,λ_=>rfl})|_=>exact hk.elim
theorem RU{S:ak}{d:D}{k:Kd}(hk:VY S d k):(∃ds,d=.tup ds/\r_ k=ϱ)\/(r_ k=ϰ/\∀ds,d≠.tup ds):=by cases d with|tup b=>(cases hk;exact .inl ⟨b,rfl,rfl⟩)|ay=>(cases hk;exact .inr {rfl,λ_=>nofun})|bl b=>(cases hk;exact .inr {rfl,λ_=>nofun})|int b=>(cases hk;exact .inr {rfl,λ_=>nofun})|str b=>(cases hk;exact .inr {rfl,λ_=>nofun})|ref a=>(rcases hk with⟨rfl,_⟩|⟨rfl,_⟩<;>exact .inr {rfl,λ_=>nofun})|_=>exact hk.elim
theorem s9(T:Txt w K mg t):Ok P w base T.rf 2 (Nc<|ofStr m9):=by
 refine T.rf.F.b_ Df ?_;obtain⟨d,e,⟨⟨k,hk⟩,hz⟩,q⟩;refine{_,(sc (si (twd<|twor (cJ<|tv<|cb cB T.aw ao<|ap 0<|ac (qy T.mQ iH) an)<|tw1<|cJ<|tcc lP lP hr.u di (cb ba T.aX aI<|ap 0 an)<|dg (v:=.int 8) T.lT {_,rfl} λ_=>aN _) (s1<|sr db) s0)<|s1<|sr<|cb jL T.jV fF<|ac (y_ (N:=["sign"]) (src:=[none]) (lR GV) (Rk<|dv 0) qZ<|aU T.ia (iZ T) hr<|ap 0 an) an),?_};refine !{_,_,_,_,rfl,bM,hk,_,rfl,?_};rcases Dq hk with⟨z,rfl,h0⟩|⟨h0,h1⟩;have hz:=hz z rfl;rw[h0];refine aL ?_;refine !!⟨{sm hz,?_}⟩;refine{_,rfl,?_};have e1:ω ((1:ν)<=(z.length:π))=ω (1<=z.cps.size):=by rw[decide_eq_decide];show(1:ν)<=((z.cps.size:π):ν)↔_;omega
 have e2:ω (((z.length:π):ν)<=8)=ω (z.cps.size<=8):=by rw[decide_eq_decide];show((z.cps.size:π):ν)<=8↔_;omega
 unfold ofStr m9 at q;dsimp only at q;refine bC (λh2=>?_) λh2=>?_;rw[e1.symm.trans h2,yp]at q;refine{_,rfl,?_};refine bC (λa=>?_) λa=>?_;rw[e2.symm.trans<|nt a,zY]at q;exact fo q;rw[e2.symm.trans<|nf a,yp]at q;exact oX rfl hz (λc h Q g=>!⟨c,rfl,g⟩) q;rw[e1.symm.trans h2,zY,zY]at q;refine{_,rfl,?_};exact cj<|fo q;rw[h0];rw[h1]at q;exact cj<|cj<|fo q
def aA(c:ρ×ρ):D:=.tup [.str c.1,.str c.2]
def Gd(cs:δ<|ρ×ρ):Prop:=cs.length<=8/\(cs.map Prod.fst).Nodup/\∀c∈cs,m9 c.1=ϱ/\(c.2 ="number"\/c.2 ="word")
noncomputable def ng(cs:δ<|ρ×ρ):D->χ|.tup ws=>ω (ws.length=cs.length)&&(List.zipWith (λc v=>iY c.2 v) cs ws).all id|_=>false
noncomputable def oY(cs:δ<|ρ×ρ)(k v:D):Bool:=ofStr l4 k&&ng cs v
def T_(S:ak)(d:D):Prop:=Gt S d/\∀ws,d=.tup ws->ws.length<=1000/\∀v∈ws,Gt S v
theorem kJ(T:Txt w K mg t):Ok P w base T.oP 2 (Nc<|ofStr l4):=by
 refine T.oP.F.b_ GZ ?_;obtain⟨d,e,⟨⟨k,hk⟩,hz⟩,q⟩;refine{_,(sc (si (twd<|twor (cJ<|tv<|cb cB T.aw ao<|ap 0<|ac (qy T.mQ iH) an)<|tw1<|cJ<|tcc lP lP hr.u di (cb ba T.aX aI<|ap 0 an)<|dg (v:=.int 12) T.mO {_,rfl} λ_=>aN _) (s1<|sr db) s0)<|sc (si (cJ<|tv<|aU T.ia (iZ T) hr<|ac (ix hr.u (dv 0) di) an) (s1<|sr db) s0)<|s1<|sr<|cb jL T.jV fF<|ac (y_ (N:=["sign"]) (src:=[none]) (lR JH) (Rk<|dv 0) qZ<|eor (aU T.ia (iZ T) hr<|ap 0 an)<|HI<|aU T.oO (xn T) hr<|ap 0 an) an),?_};refine !{_,_,_,_,rfl,bM,hk,_,rfl,?_};rcases Dq hk with⟨z,rfl,h0⟩|⟨h0,h1⟩;have hz:=hz z rfl;rw[h0];refine aL ?_;refine !!⟨{sm hz,?_}⟩;refine{_,rfl,?_};have e1:ω ((1:ν)<=(z.length:π))=ω (1<=z.cps.size):=by rw[decide_eq_decide];show(1:ν)<=((z.cps.size:π):ν)↔_;omega
 have e2:ω (((z.length:π):ν)<=12)=ω (z.cps.size<=12):=by rw[decide_eq_decide];show((z.cps.size:π):ν)<=12↔_;omega
 unfold ofStr l4 at q;dsimp only at q;refine bC (λh2=>?_) λh2=>?_;have l:=e1.symm.trans h2;rw[l,yp]at q;refine{_,rfl,?_};refine bC (λg=>?_) λg=>?_;rw[e2.symm.trans<|nt g,zY,zY]at q;exact fo q;rw[e2.symm.trans<|nf g,yp]at q;obtain⟨c,r,j⟩:=len_pos (z:=z)<|zG l;have m:z.cps.toList.head?.any isLet=isLet c:=by rw[j];rfl
 rw[m]at q;refine !{c,sm hz,at0 j,c,rfl,_,rfl,?_};refine bC (λi=>?_) λi=>?_;rw[nt i,zY]at q;exact fo q;rw[nf i,yp]at q;refine oX (f:=λc=>isLet c||E3 c) rfl hz (λc n Q a=>?_) q;refine !{c,rfl,_,rfl,?_};refine bC (λh=>?_) λh=>?_;rw[h,Bool.true_or]at a;exact a;rw[h,Bool.false_or]at a;exact{_,rfl,c,rfl,a};rw[e1.symm.trans h2,zY,zY,zY]at q;refine{_,rfl,?_};exact cj<|fo q;rw[h0];rw[h1]at q;exact cj<|cj<|fo q
theorem Ds(T:Txt w K mg t):Ok P w base T.wY 2 (Nc<|ofStr pW):=by
 refine T.wY.F.b_ Dg ?_;obtain⟨d,e,⟨⟨k,hk⟩,hz⟩,q⟩;refine{_,(sc (si (twd<|twor (cJ<|tv<|cb cB T.aw ao<|ap 0<|ac (qy T.mQ iH) an)<|tw1<|aR qA hr.u (cb ba T.aX aI<|ap 0 an)<|dg (v:=.int 40) T.lU {_,rfl} λ_=>aN _) (s1<|sr db) s0)<|s1<|sr<|cb jL T.jV fF<|ac (y_ (N:=["sign"]) (src:=[none]) (lR GW) (Rk<|dv 0) qZ<|cc lP lP hr.u ds (dv 0) ds) an),?_};refine !{_,_,_,_,rfl,bM,hk,_,rfl,?_};rcases Dq hk with⟨z,rfl,h0⟩|⟨h0,h1⟩;have hz:=hz z rfl;rw[h0];refine aL ?_;refine !!⟨{sm hz,?_}⟩;refine{_,rfl,?_};have e2:ω ((40:ν)<((z.length:π):ν))=!decide (z.cps.size<=40):=by rw[yj];simp only[decide_eq_true_iff,yu,yy];show(40:ν)<((z.cps.size:π):ν)↔_;omega
 unfold ofStr pW at q;dsimp only at q;refine bC (λg=>?_) λg=>?_;rw[nt<|e2.symm.trans g,zY]at q;exact fo q;rw[nf<|e2.symm.trans g,yp]at q;refine oX (f:=E6) rfl hz (λc i Q a=>?_) q;refine !!⟨?_⟩;have e3:HF " " ⟨#[c]⟩=ω (32<=c):=kH 32 c;have e4:HF ⟨#[c]⟩ "~"= ω (c<=126):=kH c 126;unfold E6 at a;refine bC (λh=>?_) λh=>?_;rw[e3.symm.trans h,yp,<-e4]at a;exact a;rw[e3.symm.trans h,zY]at a;exact a;rw[h0];rw[h1]at q;exact cj<|cj<|fo q
inductive s_ (ds:δ D) (S:ak) (R:KD) (Z:KX):η where
 |mk (kind d) (_:ds=[.str kind,d]) (_:Gt S d) (_:R (.bl<|iY kind d) S)
theorem pZ(T:Txt w K mg t):Ok P w base T.mT 3 s_:=by refine T.mT.F.b_ A5 ?_;obtain⟨kind,d,e,hd,q⟩;refine{_,(sc (si (aR gq hr.u (dv 1) dn) (s1<|sr db) s0)<|sc (si (aR aK hr.u (dv 0) ds) (s1<|sr<|aU T.mS (pY T) hr<|ap 1 an) s0)<|s1<|sr<|aU T.wY (Ds T) hr<|ap 1 an),?_};refine !!⟨?_⟩;unfold iY at q;refine bC (λh=>?_) λh=>?_;rw[h,Bool.true_or]at q;exact fo q;rw[h,Bool.false_or]at q;refine !!⟨?_⟩;refine bC (λh=>?_) λh=>?_;rw[qb<|zG h]at q;exact !{d,rfl,hd,fo q};rw[qa<|yn h]at q;exact !{d,rfl,hd,fo q}
theorem gt_str(h:z.cps.size<=1000):Gt S (.str z):={{.str,rfl},λy e=>by cases e;exact h}
theorem oZ(h:m9 z=ϱ):z.cps.size<=1000:=by unfold m9 at h;simp only[zJ,zP]at h;lia
theorem G9(h:∀c v,f (.tup [aA c,v])=.bl (iY c.2 v)):(iN (cs.map aA) ws).map f=(List.zipWith (λc v=>iY c.2 v) cs ws).map D.bl:=by unfold iN;induction cs generalizing ws with|nil=>(cases ws<;>rfl)|cons c cs a=>cases ws with|nil=>rfl|cons v ws=>show f (.tup [aA c,v])::(List.zipWith _ (cs.map aA) ws).map f=.bl (iY c.2 v)::_;rw[h,a]
noncomputable def pairF:D->D|.tup [.tup [_,.str k],v]=>.bl (iY k v)|_=>.ay
inductive vA (ds:δ D) (S:ak) (R:KD) (Z:KX):η where
 |mk (z) (_:ds=[.str z]) (_:(z ="number"\/z ="word")) (_:R (.bl true) S)
theorem Du(T:Txt w K mg t):Ok P w base T.wZ 1 vA:=by
 refine T.wZ.F.b_ Dh ?_;obtain⟨z,e,hz,q⟩;refine{_,(s1<|sr<|qz (cb cB T.aw ao<|ap 0<|ac (qy T.mQ iH) an)<|HI<|cm uy hr.u (dv 0)<|dg (v:=.ref t.wO) T.JK rfl T.JL),?_};refine !{_,_,_,_,rfl,bM,rfl,_,rfl,cj !{rfl,rfl,?_}};have e:Cd (kX<|.str z) ([D.str "number",D.str "word"].map kX)=ϱ:=by rcases hz with rfl|rfl<;>decide +kernel
 show Fo S (R<|.bl<|if false=ϱ then _ else Cd (kX<|.str z) ([D.str "number",D.str "word"].map kX));rw[qa zd,e];exact fo q
inductive p_ (ds:δ D) (S:ak) (R:KD) (Z:KX):η where
 |mk (c) (_:ds=[aA c]) (_:m9 c.1=ϱ) (_:(c.2 ="number"\/c.2 ="word")) (_:R (.bl true) S)
theorem xo(T:Txt w K mg t):Ok P w base T.oQ 3 p_:=by refine T.oQ.F.b_ xf ?_;obtain⟨c,e,h1,h2,q⟩;refine{_,(sc (si (twd<|twor (cJ<|tv<|cb cB T.aw ao<|ap 0<|ac (qy T.bz aZ) an)<|tw1<|aR g9 hr.u (cb ba T.aX aI<|ap 0 an) di) (s1<|sr db) s0)<|s1<|sr<|qz (aU T.rf (s9 T) hr<|ac (ix hr.u (dv 0) di) an)<|HI<|aU T.wZ (Du T) hr<|ac (ix hr.u (dv 0) di) an),?_};refine !{_,_,_,_,rfl,aE,rfl,_,rfl,?_};refine aL !!!⟨aL ?_⟩;refine !!!{gt_str<|oZ h1,_,rfl,?_};show if m9 c.1=ϱ then _ else _;rw[h1];exact cj !!!{h2,fo q}
inductive tj (ds:δ D) (S:ak) (R:KD) (Z:KX):η where
 |mk (cs:δ<|ρ×ρ) (_:ds=[.tup<|cs.map aA]) (_:cs.length<=8) (_:∀p,S p=ϐ->R (.ref p) (S.set p<|.lst<|(cs.map Prod.fst).map D.str))
theorem qd(T:Txt w K mg t):Ok P w base T.mU 1 tj:=by
 refine T.mU.F.b_ A6 ?_;obtain⟨cs,e,hl,q⟩;refine{_,(s1<|sr<|TN (N:=["name","kind"]) (src:=[none,none]) (lR C3) (HM<|dv 0) (Ws<|show(["name","kind"]:δ ρ).Nodup by trivial) (mz rfl rfl) mG (λ_ _ _ _ _=>qZ) λ_ _ _ _ _=>(dv 0)),?_};refine !{_,.inl rfl,?_};refine comp_map (λd=>match d with|.tup (x::_)=>x|_=>.ay) trivial (by show(cs.map aA).length<=1000;rw[zb];lia) (λd hd Q a=>?_) λp hp=>?_;obtain⟨c,g,rfl⟩:=zh.mp hd;exact !{rfl,_,_,rfl,_,_,rfl,rfl,_,rfl,a};have e:(cs.map aA).map (λd=>match d with|.tup (x::_)=>x|_=>.ay)=(cs.map Prod.fst).map D.str:=by rw[zy,zy];rfl
 show Fo (S.set p<|.lst<|(cs.map aA).map _) (R<|.ref p);rw[e];exact fo<|q p hp
inductive jk (ds:δ D) (S:ak) (R:KD) (Z:KX):η where
 |mk (cs) (_:ds=[.tup<|cs.map aA]) (_:Gd cs) (_:R .ay S)
theorem o_(T:Txt w K mg t):Ok P w base T.gN 4 jk:=by
 refine T.gN.F.b_ oU ?_;obtain⟨cs,e,⟨hl,hn,hg⟩,q⟩;refine{_,(sc (si (twd<|twor (cJ<|tv<|cb cB T.aw ao<|ap 0<|ac (qy T.bz aZ) an)<|tw1<|aR qA hr.u (cb ba T.aX aI<|ap 0 an)<|dg (v:=.int 8) T.qE {_,rfl} λ_=>aN _) (s1 z_) s0)<|sc (si (cJ<|tv<|cb jL T.jV fF<|ac (y_ (N:=["column"]) (src:=[none]) (lR qC) (HM<|dv 0) qZ<|aU T.oQ (xo T) hr<|ap 0 an) an) (s1 z_) s0)<|s1<|si (aR g9 hr.u (lse (aU T.mU (qd T) hr<|ap 0 an) T.aX T.OW)<|cb ba T.aX aI<|ap 0 an) (s1 z_) s0),?_};refine !{_,_,_,_,rfl,aE,rfl,_,rfl,?_};have e1:ω ((8:ν)<((cs.map aA).length:π))=ϰ:=zw (by rw[zb];lia);refine aL !!!⟨?_⟩;show if ω ((8:ν)<((cs.map aA).length:π))=ϱ then _ else _;rw[e1];refine aL ?_;refine !{_,.inl rfl,?_};refine comp_map (λ_=>.bl true) trivial (by show(cs.map aA).length<=1000;rw[zb];lia) (λd hd Q g=>?_) λp hp=>?_;obtain⟨c,a,rfl⟩:=zh.mp hd;exact !{c,rfl,(hg c a).1,(hg c a).2,g};have e2:(cs.map aA).map (λ_=>D.bl true)=(cs.map λ_=>true).map D.bl:=by rw[zy,zy];rfl
 have e3:(cs.map λ_=>true).all id=ϱ:=by rw[all_map];exact zZ.mpr λ_ _=>rfl
 refine{.ref p,cs.map λ_=>true,rfl,?_,_,rfl,?_};show(S.set p<|.lst<|(cs.map aA).map _) p=_;rw[aa,e2];rw[e3];refine aL ?_;refine !{cs,rfl,hl,λp2 h=>?_};refine{cs.map Prod.fst,aa,by rw[zb];lia,_,rfl,_,rfl,_,rfl,?_};have e4:ω ((((jG<|cs.map Prod.fst).length:π):ν)=(((cs.map aA).length:π):ν))=ϱ:=zx (by rw[(ve _).mpr hn,zb,zb]);show if (if true=ϱ then !decide ((((jG<|cs.map Prod.fst).length:π):ν)=(((cs.map aA).length:π):ν)) else _)=ϱ then _ else _;rw[qb rfl,e4];exact aL {S,(Sub.new hp).trans<|.new h,q}
inductive nh (ds:δ D) (S:ak) (R:KD) (Z:KX):η where
 |mk (cs d) (_:ds=[.tup<|cs.map aA,d]) (_:cs.length<=8) (_:T_ S d) (_:R (.bl<|ng cs d) S)
theorem uH(T:Txt w K mg t):Ok P w base T.lW 4 nh:=by
 refine T.lW.F.b_ uD ?_;obtain⟨cs,d,e,hl,⟨⟨⟨k,hk⟩,hz⟩,hw⟩,q⟩;refine{_,(sc (si (twd<|twor (cJ<|tv<|cb cB T.aw ao<|ap 1<|ac (qy T.bz aZ) an)<|tw1<|aR g9 hr.u (cb ba T.aX aI<|ap 1 an)<|cb ba T.aX aI<|ap 0 an) (s1<|sr db) s0)<|s1<|sr<|cb jL T.jV fF<|ac (TN (N:=["column","value"]) (src:=[none,none]) (lR wN) (izn T.OX<|ap 0<|ap 1 an) (Ws<|show(["column","value"]:δ ρ).Nodup by trivial) (mz rfl rfl) mG (λ_ _ _ _ _=>qZ) λ_ _ _ _ _=>(aU T.mT (pZ T) hr<|ac (ix hr.u (dv 0) di)<|ap 1 an)) an),?_};refine !{_,_,_,_,rfl,aE,hk,_,rfl,?_};rcases RU hk with⟨ws,rfl,h0⟩|⟨h0,h1⟩;obtain⟨l,j⟩:=hw ws rfl;rw[h0];refine aL !!!!!⟨?_⟩;have e1:ω (((ws.length:π):ν)=(((cs.map aA).length:π):ν))=ω (ws.length=cs.length):=by rw[decide_eq_decide,zb];lia
 unfold ng at q;dsimp only at q;show if (if true=ϱ then !decide (((ws.length:π):ν)=(((cs.map aA).length:π):ν)) else _)=ϱ then _ else _;rw[qb rfl,e1];refine bC (λh=>?_) λh=>?_;rw[nt h,zY]at q;exact fo q;have h:=nf h;rw[h,yp]at q;have h:=zG h;refine !!{cs.map aA,ws,rfl,by rw[zb];exact h.symm,?_};refine comp_map pairF trivial (by show(iN (cs.map aA) ws).length<=1000;unfold iN;rw[List.length_zipWith,zb];lia) (λd hd Q g=>?_) λp hp=>?_;unfold iN at hd;obtain⟨i,m⟩:=yq hd;obtain⟨x,y,e2,e3,e4⟩:=List.getElem?_zipWith_eq_some.mp m;subst e4;rw[zm]at e2;cases a:cs[i]? with|none=>(rw[a]at e2;cases e2)|some c=>rw[a]at e2;cases e2;exact !{rfl,_,_,rfl,_,_,rfl,rfl,_,rfl,_,rfl,_,rfl,c.2,y,rfl,j y<|zD e3,g}
 refine{.ref p,List.zipWith (λc v=>iY c.2 v) cs ws,rfl,?_,S,.new hp,q};show(S.set p<|.lst<|(iN (cs.map aA) ws).map pairF) p=_;rw[aa,G9 λ_ _=>rfl];rw[h0];have e:ng cs d=ϰ:=by cases d with|tup ws=>exact absurd rfl (h1 ws)|_=>rfl
 rw[e]at q;exact cj<|cj<|fo q
inductive qf (t:gY) (ds:δ D) (S:ak) (R:KD) (Z:KX):η where
 |mk (cs k v) (_:ds=[.tup<|cs.map aA,.tup [k,v]]) (_:cs.length<=8) (_:Gt S k) (_:T_ S v) (_:(oY cs k v=ϱ->R .ay S)) (_:oY cs k v=ϰ->False)
theorem i4(T:Txt w K mg t):Ok P w base T.ib 5 (qf t):=by refine T.ib.F.b_ xg ?_;obtain⟨cs,k,v,e,hl,hk,d,c,a⟩;refine{_,(sc (si (twd<|twor (cJ<|tv<|cb cB T.aw ao<|ap 1<|ac (qy T.bz aZ) an)<|tw1<|aR g9 hr.u (cb ba T.aX aI<|ap 1 an) di) (s1 z_) s0)<|sc (si (cJ<|tv<|aU T.oP (kJ T) hr<|ac (ix hr.u (dv 1) di) an) (s1 z_) s0)<|s1<|si (cJ<|tv<|aU T.lW (uH T) hr<|ap 0<|ac (ix hr.u (dv 1) di) an) (s1 z_) s0),?_};refine !{_,_,_,_,rfl,aE,rfl,_,rfl,?_};refine aL !!!⟨aL ?_⟩;refine !!{k,rfl,hk,_,rfl,?_};unfold oY at c a;refine bC (λh=>?_) λh=>?_;rw[nt h,zY]at a;exact a rfl;rw[nf h,yp]at c a;refine !!!{cs,v,rfl,hl,d,_,rfl,?_};refine bC (λh=>?_) λh=>?_;exact a<|nt h;exact fo<|c<|nf h
theorem bg(h:n<=100000):n<sizeLine:=by rw[yf];lia
structure Std where
 b:π
 e:θ π
 ws:δ D
def eD:θ π->D|none=>.ay|some n=>.int (n:π)
def j_(s:Std):D:=.tup [.int (s.b:π),eD s.e,.tup s.ws]
noncomputable def Ua:δ Std->ν->D|[],_=>.ay|s::r,m=>if (s.b:ν)<=m then (match s.e with|none=>.tup s.ws|some n=>if m<=(n:ν) then .tup s.ws else .ay) else Ua r m
noncomputable def wt(l:δ Std)(m:ν):D:=Ua l.reverse m
abbrev Ra:=δ<|ρ×ε×δ Std
abbrev rq:=δ<|ρ×δ Std
def ij(ra:Ra):rq:=ra.map λr=>(r.1,r.2.2)
def dZ(ra:Ra):δ (Key×D):=ra.map λr=>(Sum.inr r.1,D.ref r.2.1)
noncomputable def lu(rs:rq)(k:ρ):θ (δ Std):=(rs.find? λr=>ω<|r.1=k).map (·.2)
noncomputable def uf(ra:Ra)(k:ρ):θ (ε×δ Std):=(ra.find? λr=>ω<|r.1=k).map (·.2)
noncomputable def ug(ra:Ra)(k:ρ)(s:δ Std):Ra:=ra.map λr=>if r.1=k then (r.1,r.2.1,s) else r
noncomputable def Dz(rs:rq)(k:ρ)(s:δ Std):rq:=if (lu rs k).isSome then rs.map λr=>if r.1=k then (r.1,s) else r else rs++[(k,s)]
theorem gR(ra:Ra)(k:ρ):lu (ij ra) k=(uf ra k).map (·.2):=by unfold lu uf ij;induction ra with|nil=>rfl|cons r ra a=>rw[zA,yd,yd];by_cases h:r.1=k;rw[zx h];rfl;rw[zw h];exact a
theorem ik(ra:Ra)(k:ρ):bN (dZ ra) (.inr k)=(uf ra k).map λp=>D.ref p.1:=by unfold bN uf dZ;induction ra with|nil=>rfl|cons r ra a=>rw[zA,yd,yd];by_cases h:r.1=k;rw[zx h];have:ω ((Sum.inr r.1:Key)=.inr k)=ϱ:=zx (by rw[h]);dsimp only;rw[this];rfl;rw[zw h];have:ω ((Sum.inr r.1:Key)=.inr k)=ϰ:=zw λe=>h<|yV e;dsimp only;rw[this];exact a
theorem dG(h:uf ra k=ϑ (l,s)):(k,l,s)∈ra:=by unfold uf at h;cases q:ra.find? λr=>ω (r.1=k) with|none=>(rw[q]at h;cases h)|some r=>rw[q]at h;have h1:=List.find?_some q;have h2:=List.mem_of_find?_eq_some q;obtain⟨k',a,s'⟩:=r;have e:k'=k:=zG h1;cases h;rw[<-e];exact h2
theorem nj(h:uf ra k=ϐ):∀r∈ra,r.1≠k:=by unfold uf at h;intro r hr e;have:=List.find?_eq_none.mp (Option.map_eq_none_iff.mp h) r hr;simp[e]at this
theorem i5:∀{l:δ α}{x y:α},(l.map f).Nodup->x∈l->y∈l->f x=f y->x=y|z::l,x,y,nd,hx,hy,e=>by rw[zA]at nd;obtain⟨n1,n2⟩:=yr.mp nd;rcases zj.mp hx with ex|d;rcases zj.mp hy with c|a;rw[ex,c];exact absurd (zh.mpr {y,a,by rw[<-e,ex]}) n1;rcases zj.mp hy with c|a;exact absurd (zh.mpr {x,d,by rw[e,c]}) n1;exact i5 n2 d a e
structure DB(C:ε)(S:ak)(a ld lr:ε)(cs:δ (ρ×ρ))(dl:δ D)(ra:Ra):η where
 ins:S a=ϑ (.ins C [("columns",.tup<|cs.map aA),("deeds",.ref ld),("runs",.ref lr)])
 BP:S ld=ϑ (.lst dl)
 run:S lr=ϑ (.cM<|dZ ra)
 cell:∀r∈ra,S r.2.1=ϑ (.lst<|r.2.2.map j_)
 kn:(ra.map (·.1)).Nodup
 an:(ld::ra.map (·.2.1)).Nodup
 sz:∀r∈ra,r.2.2.length<=dl.length
def fp(a ld lr:ε)(ra:Ra):δ Addr:=a::ld::lr::ra.map (·.2.1)
def cF(C:ε)(S:ak)(a:ε)(F:δ ε)(cs:δ<|ρ×ρ)(dl:δ D)(rs:rq):Prop:=∃ld lr ra,DB C S a ld lr cs dl ra/\F=fp a ld lr ra/\rs=ij ra
def DC(F F':δ ε)(S S':ak):Prop:=∀b c,b∉F->S b=ϑ c->b∉F'/\S' b=ϑ c
theorem DC.trans(a:DC F F1 S S1)(b:DC F1 F2 S1 S2):DC F F2 S S2:=λp c h e=>by obtain⟨h1,e1⟩:=a p c h e;exact b p c h1 e1
section
variable{C a ld lr:ε}{S:ak}{cs:δ (ρ×ρ)}{dl:δ D}{ra:Ra}
theorem DB.DD(h:DB C S a ld lr cs dl ra){l:ε}{ds:δ D}(e:S l=ϑ (.lst ds)):l≠a/\l≠lr:=by constructor;rintro rfl;rw[h.ins]at e;cases e;rintro rfl;rw[h.run]at e;cases e
theorem DB.put(h:DB C S a ld lr cs dl ra)(hk:uf ra k=ϑ (l,s))(m:s'.length<=dl.length):DB C (S.set l<|.lst<|s'.map j_) a ld lr cs dl (ug ra k s'):=by
 have hm:=dG hk;have hl:=h.cell _ hm;obtain⟨j,n⟩:=h.DD hl;obtain⟨d,g⟩:=yr.mp h.an;have o:l≠ld:=λe=>d (by rw[<-e];exact zh.mpr {_,hm,rfl});have e1:(ug ra k s').map (·.1)=ra.map (·.1):=by unfold ug;rw[zy];exact zX λr _=>by dsimp only[Function.comp];split<;>rfl
 have e2:(ug ra k s').map (·.2.1)=ra.map (·.2.1):=by unfold ug;rw[zy];exact zX λr _=>by dsimp only[Function.comp];split<;>rfl
 have e3:dZ (ug ra k s')=dZ ra:=by unfold dZ ug;rw[zy];exact zX λr _=>by dsimp only[Function.comp];split<;>rfl
 refine{by rw[ae j.symm];exact h.ins,by rw[ae o.symm];exact h.BP,by rw[ae n.symm,e3];exact h.run,λr hr=>?_,by rw[e1];exact h.kn,by rw[e2];exact h.an,λr hr=>?_};unfold ug at hr;obtain⟨r0,c,e⟩:=zh.mp hr;by_cases q:r0.1=k;rw[qb q]at e;have i:r0=(k,l,s):=i5 h.kn c hm q;subst i e;rw[aa];rw[qa q]at e;subst e;have:r0.2.1≠l:=λe=>q (by have:=i5 g c hm e;rw[this]);rw[ae this];exact h.cell _ c;unfold ug at hr;obtain⟨r0,c,e⟩:=zh.mp hr;by_cases q:r0.1=k;rw[qb q]at e;subst e;exact m;rw[qa q]at e;subst e;exact h.sz _ c
theorem DB.add(h:DB C S a ld lr cs dl ra)(hk:uf ra k=ϐ)(hl:S l=ϐ)(g:s.length<=dl.length)(e1:S' l=ϑ (.lst<|s.map j_))(e2:S' lr=ϑ (.cM<|dZ<|ra++[(k,l,s)]))(e3:∀b,b≠l->b≠lr->S' b=S b):DB C S' a ld lr cs dl (ra++[(k,l,s)]):=by
 have i:a≠l:=gM h.ins hl;have d:ld≠l:=gM h.BP hl;have n:a≠lr:=by rintro rfl;have:=h.run;rw[h.ins]at this;cases this
 have j:ld≠lr:=by rintro rfl;have:=h.run;rw[h.BP]at this;cases this
 refine{by rw[e3 _ i n];exact h.ins,by rw[e3 _ d j];exact h.BP,e2,λr hr=>?_,?_,?_,λr hr=>?_};rcases zO.mp hr with hr|hr;have c:=h.cell r hr;rw[e3 _ (gM c hl) (h.DD c).2];exact c;rw[zL.mp hr];exact e1;rw[zI];exact mx h.kn λm=>by obtain⟨r,hr,e⟩:=zh.mp m;exact nj hk r hr e
 rw[zI,<-List.cons_append];refine mx h.an λm=>?_;rcases zj.mp m with e|m;exact d e.symm;obtain⟨r,hr,e⟩:=zh.mp m;exact gM (h.cell r hr) hl e;rcases zO.mp hr with hr|hr;exact h.sz r hr;rw[zL.mp hr];exact g
theorem DB.JV(h:DB C S a ld lr cs dl ra)(d:D):DB C (S.set ld<|.lst<|dl++[d]) a ld lr cs (dl++[d]) ra:=by obtain⟨i,j⟩:=h.DD h.BP;obtain⟨c,g⟩:=yr.mp h.an;refine{by rw[ae i.symm];exact h.ins,aa,by rw[ae j.symm];exact h.run,λr hr=>?_,h.kn,h.an,λr hr=>by rw[zo];exact zH (h.sz r hr)<|Nat.le_add_right _ _};rw[ae λe=>c<|by rw[<-e];exact zh.mpr ⟨r,hr,rfl⟩];exact h.cell r hr
end
inductive OY (C:ε) (ds:δ D) (S:ak) (R:KD) (Z:KX):η where
 |mk (a F cs dl rs) (_:ds=[.ref a]) (_:cF C S a F cs dl rs) (_:R (.int (dl.length:π)) S)
theorem xp(T:Txt w K mg t):vk P w mg base T.fA 1 (OY t.ar):=by refine T.fA.F.b_ xm ?_;obtain⟨a,F,cs,dl,rs,e,⟨ld,lr,ra,h,_⟩,q⟩;refine{_,(s1<|sr<|cb ba T.aX aI<|ac (fl T.aq T.cR<|dv 0) an),?_};exact !{a,_,_,rfl,h.ins,rfl,_,rfl,.inl {dl,h.BP,fo q}}
inductive fk (t:gY) (ds:δ D) (S:ak) (R:KD) (Z:KX):η where
 |mk (a F cs dl rs) (_:ds=[.ref a]) (_:cF t.ar S a F cs dl rs) (_:R (.tup<|cs.map aA) S)
theorem cW(T:Txt w K mg t):vk P w mg base T.a_ 1 (fk t):=by refine T.a_.F.b_ j9 ?_;obtain⟨a,F,cs,dl,rs,e,⟨ld,lr,ra,h,_⟩,q⟩;refine{_,(s1<|sr<|fl T.aq T.cZ<|dv 0),?_};exact !{a,_,_,rfl,h.ins,rfl,fo q}
noncomputable def uI(n:π):D->θ ν|.ay=>some n|.int i=>(if 0<=i/\i<=(n:ν) then some i else none)|_=>none
inductive E9 (C:ε) (ds:δ D) (S:ak) (R:KD) (Z:KX):η where
 |mk (a F cs dl rs m) (_:ds=[.ref a,m]) (_:cF C S a F cs dl rs) (_:Gt S m) (_:(∀i,uI dl.length m=ϑ i->R (.int i) S)) (_:uI dl.length m=ϐ->False)
theorem jl(T:Txt w K mg t):vk P w mg base T.cw 2 (E9 t.ar):=by
 refine T.cw.F.b_ jw ?_;obtain⟨a,F,cs,dl,rs,m,e,g,hm,l,j⟩;obtain⟨ld,lr,ra,h,o,n⟩:=id g;refine{_,(sc (si (aR gq hr.u (dv 1) dn) (s1<|sr<|wM (dv 0) T.aq T.fA (xp T) hr) s0)<|sc (si (twd<|twor (cJ<|tv<|aU T.mS (pY T) hr<|ap 1 an)<|tw1<|cJ<|tcc lP lP hr.u di (dv 1)<|wM (dv 0) T.aq T.fA (xp T) hr) (s1 z_) s0)<|s1<|sr<|dv 1),?_};refine !!⟨?_⟩;refine bC (λh1=>?_) λh1=>?_;have e:m=.ay:=by cases m<;>first|rfl|cases h1
 subst e;exact !{a,_,rfl,h.ins,rfl,a,F,cs,dl,rs,rfl,g,fo<|l _ rfl};refine !{m,rfl,hm,_,rfl,?_};refine bC (λh2=>?_) λh2=>?_;have h2:=nt h2;have e:uI dl.length m=ϐ:=by cases m with|ay=>(cases h1)|int i=>(cases h2)|_=>rfl
 exact cj<|j e;have h2:=nf h2;obtain⟨i,rfl⟩:∃i,m=.int i:=by cases m<;>first|exact{_,rfl}|cases h2
 refine !!⟨?_⟩;refine bC (λc=>?_) λc=>?_;have c:0<=i:=zG c;refine !{a,_,rfl,h.ins,rfl,a,F,cs,dl,rs,rfl,g,_,rfl,?_};refine bC (λd=>?_) λd=>?_;have d:¬i<=((dl.length:π):ν):=yn<|nt d;exact j<|qa λz=>d z.2;have d:i<=((dl.length:π):ν):=zG<|nf d;exact{_,rfl,fo<|l i<|qb ⟨c,d⟩};have c:¬0<=i:=yn c;exact{_,rfl,cj<|j<|qa λz=>c z.1}
inductive lH (ds:δ D) (S:ak) (R:KD) (Z:KX):η where
 |mk (l vB m) (_:ds=[.ref l,.int m]) (_:S l=ϑ (.lst<|vB.map j_)) (_:R (wt vB m) S)
theorem ke(T:Txt w K mg t):Ok P w base T.gC 1 lH:=by
 refine T.gC.F.b_ j8 ?_;obtain⟨l,vB,m,e,hl,q⟩;refine{_,(sc (qB<|AG (irv T.sP<|ap 0 an) (gn (i:=2) j8.nd)<|s1<|si (aR lP hr.u (ix hr.u (dv 2) di)<|dv 1) (s1<|sr<|TH (twd<|twor (aR gq hr.u (ix hr.u (dv 2) di) dn)<|tw1<|aR lP hr.u (dv 1)<|ix hr.u (dv 2) di) (ix hr.u (dv 2) di) dn) s0)<|s1<|sr dn),?_};refine{λav S'=>S'=S/\wt vB m=.ay,?_,?_};refine !{_,_,rfl,hl,?_};refine{λi av S'=>(∃o,av=[some<|.ref l,some<|.int m,o])/\S'=S/\wt vB m=Ua (vB.reverse.drop i) m,{⟨none,rfl⟩,rfl,by rw[y3];rfl},λi av S' h=>by rw[h.2.1];exact hl,?_,?_};rintro i d av S' hd ⟨⟨o,rfl⟩,rfl,hw⟩;rw[<-List.map_reverse,zm]at hd;cases e1:vB.reverse[i]? with|none=>(rw[e1]at hd;cases hd)|some sd=>rw[e1]at hd;cases hd;have e2:vB.reverse.drop i=sd::vB.reverse.drop (i+1):=(by obtain⟨hi,e⟩:=ze.mp e1;rw[yc hi,e]);obtain⟨sb,se,a⟩:=sd;rw[e2]at hw;refine !!!!⟨?_⟩;unfold Ua at hw;refine bC (λh=>?_) λh=>?_;rw[qb<|zG h]at hw;refine !!!⟨?_⟩;(cases se with|none=>refine cj<|cj !!⟨?_⟩;rw[hw]at q;exact fo q|some n=>refine aL !!!!⟨?_⟩;dsimp only at hw;refine bC (λh=>?_) λh=>?_;rw[qb<|zG h]at hw;rw[hw]at q;exact !!⟨fo q⟩;rw[qa<|yn h]at hw;rw[hw]at q;exact fo q);rw[qa<|yn h]at hw;exact{{_,rfl},rfl,hw}
 rintro av S' ⟨_,rfl,hw⟩;refine fo {rfl,?_};rw[hw,yM,zb,yB<|by rw[yM];exact zk _];rfl;rintro av S' ⟨rfl,hw⟩;rw[hw]at q;exact fo q
noncomputable def A_(rs:rq)(k:D)(i:ν):D:=match k with|.str z=>(if l4 z=ϱ then wt ((lu rs z).getD []) i else .ay)|_=>.ay
inductive OZ (C:ε) (ds:δ D) (S:ak) (R:KD) (Z:KX):η where
 |mk (a F cs dl rs k m) (_:ds=[.ref a,k,m]) (_:cF C S a F cs dl rs) (_:Gt S k) (_:Gt S m) (_:(∀i,uI dl.length m=ϑ i->R (A_ rs k i) S)) (_:uI dl.length m=ϐ->False)
theorem i6(T:Txt w K mg t):vk P w mg base T.cC 3 (OZ t.ar):=by
 refine T.cC.F.b_ fX ?_;obtain⟨a,F,cs,dl,rs,k,m,e,d,hk,hm,j,n⟩;obtain⟨ld,lr,ra,h,r,g⟩:=id d;refine{_,(sc (bR (i:=3) fX.nd<|q9 (dv 0) T.aq T.cw (jl T) hr<|ap 2 an)<|sc (si (cJ<|tv<|aU T.oP (kJ T) hr<|ap 1 an) (s1<|sr dn) s0)<|s1<|sr<|aU T.gC (ke T) hr<|ac (mg2 hr.u (fl T.aq T.bV<|dv 0) (dv 1)<|bT an)<|ap 3 an),?_};refine !{a,_,rfl,h.ins,rfl,_,rfl,a,F,cs,dl,rs,m,rfl,d,hm,λi hi=>?_,n};have q:=j i hi;refine !{k,rfl,hk,_,rfl,?_};refine bC (λh1=>?_) λh1=>?_;have e:A_ rs k i=.ay:=by cases k with|str z=>exact qa (by rw[show l4 z=ϰ from nt h1];exact zd)|_=>rfl
 rw[e]at q;exact fo q;have h1:=nf h1;obtain⟨z,rfl⟩:∃z,k=.str z:=by cases k with|str z=>exact⟨z,rfl⟩|_=>cases h1
 have e:A_ rs (.str z) i=wt ((lu rs z).getD []) i:=qb h1;rw[e]at q;refine !{a,_,_,rfl,h.ins,rfl,lr,_,rfl,h.run,_,rfl,sm<|by decide,λp hp=>{dZ ra,.inr z,?_,rfl,?_}};rw[ae<|gM h.run hp];exact h.run;rw[ik];refine{_,rfl,?_};cases e1:uf ra z with|none=>have e2:lu rs z=ϐ:=(by rw[g,gR,e1];rfl);rw[e2]at q;exact{p,[],i,rfl,aa,S,.new hp,q}|some o=>obtain⟨l,vB⟩:=o;have e2:lu rs z=ϑ vB:=(by rw[g,gR,e1];rfl);rw[e2]at q;have c:=h.cell _<|dG e1;exact{l,vB,i,rfl,by rw[ae<|gM c hp];exact c,S,.new hp,q}
theorem O0(h:uf ra k=ϑ (l,s)):Dz (ij ra) k s'=ij (ug ra k s'):=by unfold Dz;rw[gR,h,qb<|show(Option.map (λx:ε×δ Std=>x.2)<|some (l,s)).isSome=ϱ from rfl];unfold ij ug;rw[zy,zy];exact zX λr _=>by dsimp only[Function.comp];split<;>rfl
theorem RV(h:uf ra k=ϐ):Dz (ij ra) k s=ij (ra++[(k,l,s)]):=by unfold Dz;rw[gR,h,qa<|show ¬(Option.map (λx:ε×δ Std=>x.2) none).isSome=ϱ from zd];unfold ij;rw[zI];rfl
theorem RW(h:uf ra k=ϐ):dput (dZ ra) (.inr k) (.ref l)=dZ (ra++[(k,l,s)]):=by
 unfold dput;have e:((dZ ra).any λa=>ω<|a.1=.inr k)=ϰ:=by rw[List.any_eq_false];intro x hx;unfold dZ at hx;obtain⟨r,hr,rfl⟩:=zh.mp hx;simp only[zP];exact λe=>nj h r hr<|yV e
 rw[e,qa zd];unfold dZ;rw[zI];rfl
theorem JW:fp a ld lr (ug ra k s)=fp a ld lr ra:=by unfold fp ug;rw[zy];congr 3;exact zX λr _=>by dsimp only[Function.comp];split<;>rfl
theorem tm(h:l∈F):DC F F S (S.set l c):=λb x a e=>{a,by rw[ae<|show b≠l from λz=>a<|by rw[z];exact h];exact e}
theorem JX(h:r∈ra):r.2.1∈fp a ld lr ra:=zg _<|zg _<|zg _<|zh.mpr ⟨r,h,rfl⟩
inductive E_ (C:ε) (ds:δ D) (S:ak) (R:KD) (Z:KX):η where
 |mk (a F cs dl rs z ws) (_:ds=[.ref a,.str z,.tup ws]) (_:cF C S a F cs dl rs) (_:((lu rs z).getD []).length<dl.length) (_:dl.length<=9000) (_:rs.length<=9000) (_:∀S' F',cF C S' a F' cs dl (Dz rs z<|(lu rs z).getD []++[Std.mk dl.length none ws])->DC F F' S S'->R .ay S')
theorem Ba(T:Txt w K mg t):vk P w mg base T.bO 2 (E_ t.ar):=by
 refine T.bO.F.b_ ig ?_;rintro _ _ _ _ _ _ _ S R Z hr ⟨a,F,cs,dl,rs,z,ws,e,⟨ld,lr,ra,h,H,G⟩,hl,hd,hn,q⟩;subst e H G;have J:(dZ ra).length<=9000:=by unfold ij at hn;unfold dZ;rw[zb]at hn⊢;exact hn
 refine{_,(s1<|se<|bm zQ z0 ya cA (ms2 (fl T.aq T.bV<|dv 0) (dv 1)<|bT an)<|ac (bq<|ac (wM (dv 0) T.aq T.fA (xp T) hr)<|ac dn<|ap 2 an) an),?_};refine !{a,_,_,rfl,h.ins,rfl,lr,dZ ra,rfl,h.run,_,rfl,sm<|by decide,λp hp=>{dZ ra,.inr z,?_,rfl,bg<|by lia,λd o=>?_,λhn=>?_}};rw[ae<|gM h.run hp];exact h.run;rw[ik]at o;cases e1:uf ra z with|none=>(rw[e1]at o;cases o)|some E=>obtain⟨l,vB⟩:=E;rw[e1]at o;cases o;have e2:lu (ij ra) z=ϑ vB:=(by rw[gR,e1];rfl);rw[e2]at q hl;have B:=h.cell _<|dG e1;have C:(S.set p<|.lst []) l=ϑ (.lst<|vB.map j_):=(by rw[ae<|gM B hp];exact B);have x:(S.set p<|.lst []) a=ϑ (.ins t.ar [("columns",.tup<|cs.map aA),("deeds",.ref ld),("runs",.ref lr)]):=(by rw[ae<|gM h.ins hp];exact h.ins);have y:DB t.ar (S.set p<|.lst []) a ld lr cs dl ra:={x,by rw[ae<|gM h.BP hp];exact h.BP,by rw[ae<|gM h.run hp];exact h.run,λr hr=>by rw[ae<|gM (h.cell r hr) hp];exact h.cell r hr,h.kn,h.an,h.sz};refine{{rfl,_,C},_,rfl,a,_,rfl,x,rfl,a,_,cs,dl,_,rfl,⟨ld,lr,ra,y,rfl,rfl⟩,_,rfl,uG,?_};have I:vB.length<dl.length:=hl;refine{l,vB.map j_,_,rfl,rfl,C,bg<|by rw[zb];lia,S.set l<|.lst<|(vB++[Std.mk dl.length none ws]).map j_,λb c g=>?_,q _ _ {ld,lr,_,h.put e1<|by rw[zo];show vB.length+1<=_;lia,rfl,O0 e1} ?_};by_cases n:b=l;subst n;rw[aa]at g⊢;rw[zI]at g;exact g;rw[ae n]at g;rw[ae n,ae<|gM g hp];exact g;rw[JW];exact tm<|JX<|dG e1
 rw[ik]at hn;cases e1:uf ra z with|some E=>(rw[e1]at hn;cases hn)|none=>have e2:lu (ij ra) z=ϐ:=(by rw[gR,e1];rfl);rw[e2]at q hl;have v:p≠lr:=(gM h.run hp).symm;generalize A:(S.set p<|.lst []).set lr _=S1;have i:S1 p=ϑ (.lst []):=(by rw[<-A,ae v,aa]);have s:S1 lr=ϑ (.cM<|dZ<|ra++[(z,p,[])]):=(by rw[<-A,aa,RW e1]);have j:∀b,b≠p->b≠lr->S1 b=S b:=λb h1 h2=>(by rw[<-A,ae h2,ae h1]);have y:DB t.ar S1 a ld lr cs dl (ra++[(z,p,[])]):=h.add e1 hp (yb _) i s j;refine{{rfl,_,i},_,rfl,a,_,rfl,y.ins,rfl,a,_,cs,dl,_,rfl,{ld,lr,_,y,rfl,rfl},_,rfl,uG,?_};refine{p,[],_,rfl,rfl,i,bg<|by show 0<=_;lia,S1.set p<|.lst<|[Std.mk dl.length none ws].map j_,.refl _,q _ _ {ld,lr,ra++[(z,p,[Std.mk dl.length none ws])],h.add e1 hp (by show 1<=_;have:0<dl.length:=hl;lia) aa ?_ λb h1 h2=>by rw[ae h1];exact j b h1 h2,rfl,RV e1} ?_};rw[ae v.symm,s];unfold dZ;rw[zI,zI];rfl;intro b c g e;have h1:b≠p:=gM e hp;have h2:b≠lr:=λz=>g (by rw[z];exact zg _<|zg _ zq);refine{λm=>?_,by rw[ae h1,j b h1 h2];exact e};unfold fp at m g;rw[zI]at m;rcases zj.mp m with m|m;exact g<|m ▸ zq;rcases zj.mp m with m|m;exact g<|m ▸ zg _ zq;rcases zj.mp m with m|m;exact h2 m;rcases zO.mp m with m|m;exact g<|zg _<|zg _<|zg _ m;exact h1<|zL.mp m
noncomputable def pf(n:π)(l:δ Std):δ Std:=l.dropLast++(l.getLast?.map λs=>Std.mk s.b (some n) s.ws).toList
noncomputable def tq(rs:rq)(z:ρ)(n:π):rq:=Dz rs z<|pf n<|(lu rs z).getD []
noncomputable def Bb(rs:rq)(z:ρ)(n:π)(ws:δ D):rq:=Dz rs z<|(lu rs z).getD []++[Std.mk n none ws]
theorem JY(h:cF C S a F cs dl rs)(z:ρ):((lu rs z).getD []).length<=dl.length:=by obtain⟨ld,lr,ra,h,_,rfl⟩:=h;rw[gR];cases e:uf ra z with|none=>exact yb _|some c=>exact h.sz _<|dG (l:=c.1) (s:=c.2) e
theorem Nd(rs:rq)(z:ρ)(s:δ Std):(Dz rs z s).length<=rs.length+1:=by unfold Dz;split;rw[zb];lia;rw[zo];exact zk _
theorem ft:lu (r::rs) k=if r.1=k then some r.2 else lu rs k:=by unfold lu;rw[yd];by_cases h:r.1=k;rw[zx h,qb h];rfl;rw[zw h,qa h]
theorem ph:lu (Dz rs z s) k=if k=z then some s else lu rs k:=by
 unfold Dz;by_cases a:(lu rs z).isSome=ϱ;rw[qb a];by_cases hk:k=z;subst hk;rw[qb rfl];induction rs with|nil=>(cases a)|cons r rs c=>rw[zA,ft];by_cases h:r.1=k;rw[qb h,qb h];rw[qa h,qa h];rw[ft,qa h]at a;exact c a
 rw[qa hk];clear a;induction rs with|nil=>rfl|cons r rs c=>rw[zA,ft,ft,c];by_cases h:r.1=z;rw[qb h,qa<|show ¬r.1=k from λe=>hk<|e.symm.trans h,qa<|show ¬r.1=k from λe=>hk<|e.symm.trans h];rw[qa h]
 rw[qa a];have hn:lu rs z=ϐ:=by cases e:lu rs z<;>simp_all
 clear a;induction rs with|nil=>rw[List.nil_append,ft];by_cases hk:k=z;rw[qb hk,qb hk.symm];rw[qa hk,qa λe=>hk e.symm]|cons r rs c=>rw[ft]at hn;by_cases h:r.1=z;rw[qb h]at hn;cases hn;rw[qa h]at hn;rw[List.cons_append,ft,ft,c hn];by_cases h2:r.1=k;rw[qb h2,qb h2,qa<|show ¬k=z from λe=>h<|h2.trans e];rw[qa h2,qa h2]
inductive O3 (C:ε) (ds:δ D) (S:ak) (R:KD) (Z:KX):η where
 |mk (a F cs dl rs z) (_:ds=[.ref a,.str z]) (_:cF C S a F cs dl rs) (_:(∃s,lu rs z=ϑ s/\s≠[])) (_:dl.length<=9000) (_:∀S',cF C S' a F cs dl (tq rs z dl.length)->DC F F S S'->R .ay S')
theorem rA(h:l≠[]):∃r s,l=r++[s]:={l.dropLast,l.getLast h,(List.dropLast_concat_getLast h).symm}
theorem kf(n:π)(r:δ Std)(s:Std):pf n (r++[s])=r++[Std.mk s.b (some n) s.ws]:=by unfold pf;rw[List.dropLast_concat,List.getLast?_concat];rfl
theorem JZ(T:Txt w K mg t):vk P w mg base T.cu 2 (O3 t.ar):=by refine T.cu.F.b_ eF ?_;rintro _ _ _ _ _ _ _ S R Z hr ⟨a,F,cs,dl,rs,z,e,⟨ld,lr,ra,h,p,n⟩,⟨s0,d,o⟩,hd,q⟩;subst e p n;rw[gR]at d;cases e1:uf ra z with|none=>(rw[e1]at d;cases d)|some y=>obtain⟨l,vB⟩:=y;rw[e1]at d;cases d;obtain⟨r,sd,rfl⟩:=rA o;have hlen:=h.sz _<|dG e1;dsimp only at hlen;rw[zo]at hlen;have hlen:r.length+1<=dl.length:=hlen;have g:=h.cell _<|dG e1;dsimp only at g;have A:bN (dZ ra) (.inr z)=ϑ (.ref l):=(by rw[ik,e1];rfl);refine{_,(sc (bR (i:=2) eF.nd<|bm0 zQ PySem.F.slot_list_pop PySem.F.type_list_pop VU<|ix hr.u (fl T.aq T.bV<|dv 0)<|dv 1)<|s1<|se<|bm zQ z0 ya cA (ix hr.u (fl T.aq T.bV<|dv 0)<|dv 1)<|ac (bq<|ac (ix hr.u (dv 2) di)<|ac (wM (dv 0) T.aq T.fA (xp T) hr)<|ac (ix hr.u (dv 2) di) an) an),?_};refine !{a,_,_,rfl,h.ins,rfl,_,rfl,dZ ra,_,h.run,A,{rfl,_,g},l,_,j_ sd,rfl,rfl,g,?_,?_};rw[zI,zo];show(r.map j_++[j_ sd])[(r.map j_).length+1-1]?=_;simp;have e2:((r++[sd]).map j_).dropLast=r.map j_:=(by rw[zI];exact List.dropLast_concat);rw[e2];have h1:DB t.ar (S.set l<|.lst<|r.map j_) a ld lr cs dl (ug ra z r):=h.put e1 (by lia);generalize v:S.set l _=S1 at h1;have c:uf (ug ra z r) z=ϑ (l,r):=(by have hm:(z,l,r)∈ug ra z r:=(by unfold ug;exact zh.mpr {_,dG e1,qb rfl});cases e3:uf (ug ra z r) z with|none=>exact absurd rfl (nj e3 _ hm)|some x=>exact congrArg some<|congrArg Prod.snd<|i5 (f:=λr:ρ×ε×δ Std=>r.1) h1.kn (dG (l:=x.1) (s:=x.2) e3) hm rfl);have j:bN (dZ<|ug ra z r) (.inr z)=ϑ (.ref l):=(by rw[ik,c];rfl);have m:=h1.cell _<|dG c;refine !{a,_,_,rfl,h1.ins,rfl,_,rfl,_,_,h1.run,j,{rfl,_,m},_,rfl,_,rfl,_,rfl,a,_,rfl,h1.ins,rfl,a,_,cs,dl,_,rfl,{ld,lr,_,h1,rfl,rfl},_,rfl,_,rfl,uG,l,_,_,rfl,rfl,m,bg<|by rw[zb];show r.length<=_;lia,?_};have h2:=h1.put (s':=r++[Std.mk sd.b (some dl.length) sd.ws]) c (by rw[zo];exact hlen);have e4:tq (ij ra) z dl.length=ij (ug (ug ra z r) z<|r++[Std.mk sd.b (some dl.length) sd.ws]):=(by unfold tq;rw[gR,e1];show Dz (ij ra) z (pf dl.length<|r++[sd])=_;rw[kf,O0 e1];unfold ij ug;rw[zy,zy,zy];exact zX λx _=>by dsimp only[Function.comp];by_cases hx:x.1=z<;>simp[hx]);refine{_,?_,q _ {ld,lr,_,h2,by rw[JW,JW],e4} ?_};show Sub (S1.set l<|.lst<|(r++[_]).map j_) (S1.set l<|.lst<|r.map j_++[_]);rw[zI];exact .refl _;rw[<-v,bK];exact tm<|JX<|dG e1
theorem Fc(h:ofStr l4 d=ϱ):∃z,d=.str z/\l4 z=ϱ:=by cases d with|str z=>exact⟨z,rfl,h⟩|_=>cases h
theorem Fd(h:oY cs k v=ϱ):∃z ws,k=.str z/\v=.tup ws/\l4 z=ϱ:=by unfold oY at h;rw[zJ]at h;obtain⟨z,rfl,hz⟩:=Fc h.1;cases v with|tup ws=>exact⟨z,ws,rfl,rfl,hz⟩|_=>exact absurd h.2 zd
theorem tw:Gt S .ay:={{.ay,rfl},λ_=>nofun}
theorem O4(h:ah (wt l m)=ϰ):l≠[]:=by rintro rfl;cases h
theorem xq(hz:l4 z=ϱ)(i:ν):A_ rs (.str z) i=wt ((lu rs z).getD []) i:=qb hz
inductive eX (t:gY) (ds:δ D) (S:ak) (R:KD) (Z:KX):η where
 |mk (a F cs dl rs k) (_:ds=[.ref a,k]) (_:cF t.ar S a F cs dl rs) (_:Gt S k) (_:(ah (A_ rs k dl.length)=ϰ->R .ay S)) (_:(ah (A_ rs k dl.length)=ϱ->Z t.iQ S))
theorem jm(T:Txt w K mg t):vk P w mg base T.cq 4 (eX t):=by refine T.cq.F.b_ jv ?_;obtain⟨a,F,cs,dl,rs,k,e,c,hk,d,g⟩;obtain⟨ld,lr,ra,h,_⟩:=id c;refine{_,(s1<|si (aR gq hr.u (Yn (dv 0) T.aq T.cC.e ((i6 T).mono<|by decide) hr T.dj d1<|ap 1 an) dn) (s1<|sra ⟨T.wX⟩ T.JM<|ac ds an) s0),?_};refine !{a,_,rfl,h.ins,rfl,_,rfl,a,F,cs,dl,rs,k,.ay,rfl,c,hk,tw,λi hi=>?_,λhn=>by cases hn};cases hi;refine{_,rfl,?_};refine bC (λh1=>?_) λh1=>?_;exact{sW,fo<|g h1};exact fo<|d h1
inductive kj (t:gY) (ds:δ D) (S:ak) (R:KD) (Z:KX):η where
 |mk (a F cs dl rs k v) (_:ds=[.ref a,k,v]) (_:cF t.ar S a F cs dl rs) (_:cs.length<=8) (_:Gt S k) (_:T_ S v) (_:dl.length<=8000) (_:rs.length<=8000) (_:oY cs k v=ϰ->False) (_:(oY cs k v=ϱ->ah (A_ rs k dl.length)=ϰ->Z t.jR S)) (_:(∀z ws,k=.str z->v=.tup ws->oY cs k v=ϱ->ah (A_ rs k dl.length)=ϱ->∀S' F',cF t.ar S' a F' cs (dl++[.tup [.str "put",k,v]]) (Bb rs z (dl.length+1) ws)->DC F F' S S'->R .ay S'))
theorem RX(T:Txt w K mg t):vk P w mg base T.fz 6 (kj t):=by refine T.fz.F.b_ xk ?_;obtain⟨a,F,cs,dl,rs,k,v,e,c,m,hk,x,hd,hn,o,q,s⟩;obtain⟨ld,lr,ra,h,j,n⟩:=id c;refine{_,(sc (se<|aU T.ib (i4 T) hr<|ac (fl T.aq T.cZ<|dv 0)<|ac (bq<|ap 1<|ap 2 an) an)<|sc (si (aR dJ hr.u (Yn (dv 0) T.aq T.cC.e ((i6 T).mono<|by decide) hr T.dj d1<|ap 1 an) dn) (s1<|sra ⟨T.sQ⟩ T.GY<|ac ds an) s0)<|sc (se<|bm zQ z0 ya cA (fl T.aq T.cR<|dv 0)<|ac (bq<|ac ds<|ap 1<|ap 2 an) an)<|s1<|se<|q9 (dv 0) T.aq T.bO (Ba T) hr<|ap 1<|ap 2 an),?_};refine !{a,_,_,rfl,h.ins,rfl,_,rfl,_,rfl,bY,cs,k,v,rfl,m,hk,x,λd=>?_,o};refine !{a,_,rfl,h.ins,rfl,_,rfl,a,F,cs,dl,rs,k,.ay,rfl,c,hk,tw,λi hi=>?_,λhn=>by cases hn};cases hi;refine{_,rfl,?_};refine bC (λh1=>?_) λh1=>?_;exact{sW,fo<|q d<|nt h1};obtain⟨z,ws,rfl,rfl,hz⟩:=Fd d;refine !{a,_,_,rfl,h.ins,rfl,{rfl,_,h.BP},_,rfl,_,rfl,uG,ld,dl,_,rfl,rfl,h.BP,bg<|by lia,?_};have l:=h.JV<|.tup [.str "put",.str z,.tup ws];have p:cF t.ar (S.set ld<|.lst<|dl++[.tup [.str "put",.str z,.tup ws]]) a F cs (dl++[.tup [.str "put",.str z,.tup ws]]) rs:=⟨ld,lr,ra,l,j,n⟩;have hl:=JY c z;refine !{a,_,rfl,l.ins,rfl,_,rfl,_,rfl,a,F,cs,_,rs,z,ws,rfl,p,by rw[zo];exact Nat.lt_succ_of_le hl,by rw[zo];show dl.length+1<=_;lia,by lia,λS' F' g r=>fo<|s z ws rfl rfl d (nf h1) S' F' ?_ ?_};have:(dl++[D.tup [.str "put",.str z,.tup ws]]).length=dl.length+1:=zo;rw[this]at g;exact g;refine DC.trans (tm ?_) r;rw[j];exact zg _ zq
inductive fY (t:gY) (ds:δ D) (S:ak) (R:KD) (Z:KX):η where
 |mk (a F cs dl rs k v) (_:ds=[.ref a,k,v]) (_:cF t.ar S a F cs dl rs) (_:cs.length<=8) (_:Gt S k) (_:T_ S v) (_:dl.length<=8000) (_:rs.length<=8000) (_:oY cs k v=ϰ->False) (_:(oY cs k v=ϱ->ah (A_ rs k dl.length)=ϱ->Z t.iQ S)) (_:(∀z ws,k=.str z->v=.tup ws->oY cs k v=ϱ->ah (A_ rs k dl.length)=ϰ->∀S' F',cF t.ar S' a F' cs (dl++[.tup [.str "change",k,v]]) (Bb (tq rs z dl.length) z (dl.length+1) ws)->DC F F' S S'->R .ay S'))
theorem Ha(T:Txt w K mg t):vk P w mg base T.c8 6 (fY t):=by
 refine T.c8.F.b_ qH ?_;obtain⟨a,F,cs,dl,rs,k,v,e,d,r,hk,G,hd,hn,x,B,E⟩;obtain⟨ld,lr,ra,h,J,H⟩:=id d;refine{_,(sc (se<|aU T.ib (i4 T) hr<|ac (fl T.aq T.cZ<|dv 0)<|ac (bq<|ap 1<|ap 2 an) an)<|sc (se<|q9 (dv 0) T.aq T.cq (jm T) hr<|ap 1 an)<|sc (se<|q9 (dv 0) T.aq T.cu (JZ T) hr<|ap 1 an)<|sc (se<|bm zQ z0 ya cA (fl T.aq T.cR<|dv 0)<|ac (bq<|ac ds<|ap 1<|ap 2 an) an)<|s1<|se<|q9 (dv 0) T.aq T.bO (Ba T) hr<|ap 1<|ap 2 an),?_};refine !{a,_,_,rfl,h.ins,rfl,_,rfl,_,rfl,bY,cs,k,v,rfl,r,hk,G,λn=>?_,x};refine !{a,_,rfl,h.ins,rfl,_,rfl,a,F,cs,dl,rs,k,rfl,d,hk,λh1=>?_,λh1=>fo<|B n h1};obtain⟨z,ws,rfl,rfl,hz⟩:=Fd n;have A:∃s,lu rs z=ϑ s/\s≠[]:=by rw[xq hz]at h1;have:=O4 h1;cases e:lu rs z with|none=>rw[e]at this;exact absurd rfl this|some s=>rw[e]at this;exact⟨s,rfl,this⟩
 refine !{a,_,rfl,h.ins,rfl,_,rfl,a,F,cs,dl,rs,z,rfl,d,A,by lia,λS1 p g=>?_};obtain⟨j,i,m,c,q,y⟩:=id p;refine !{a,_,_,rfl,c.ins,rfl,{rfl,_,c.BP},_,rfl,_,rfl,uG,j,dl,_,rfl,rfl,c.BP,bg<|by lia,?_};have h2:=c.JV<|.tup [.str "change",.str z,.tup ws];have l:cF t.ar (S1.set j<|.lst<|dl++[.tup [.str "change",.str z,.tup ws]]) a F cs (dl++[.tup [.str "change",.str z,.tup ws]]) (tq rs z dl.length):=⟨j,i,m,h2,q,y⟩;have hl:=JY p z;have I:(tq rs z dl.length).length<=rs.length+1:=Nd _ _ _;refine !{a,_,rfl,h2.ins,rfl,_,rfl,_,rfl,a,F,cs,_,_,z,ws,rfl,l,by rw[zo];exact Nat.lt_succ_of_le hl,by rw[zo];show dl.length+1<=_;lia,by lia,λS' F' o C=>fo<|E z ws rfl rfl n h1 S' F' ?_ ?_};have:(dl++[D.tup [.str "change",.str z,.tup ws]]).length=dl.length+1:=zo;rw[this]at o;exact o;refine g.trans<|DC.trans (tm ?_) C;rw[q];exact zg _ zq
inductive i7 (t:gY) (ds:δ D) (S:ak) (R:KD) (Z:KX):η where
 |mk (a F cs dl rs k) (_:ds=[.ref a,k]) (_:cF t.ar S a F cs dl rs) (_:Gt S k) (_:dl.length<=8000) (_:ofStr l4 k=ϰ->False) (_:(ofStr l4 k=ϱ->ah (A_ rs k dl.length)=ϱ->Z t.iQ S)) (_:(∀z,k=.str z->l4 z=ϱ->ah (A_ rs k dl.length)=ϰ->∀S',cF t.ar S' a F cs (dl++[.tup [.str "take",k]]) (tq rs z dl.length)->DC F F S S'->R .ay S'))
theorem Nf(T:Txt w K mg t):vk P w mg base T.eL 6 (i7 t):=by
 refine T.eL.F.b_ uF ?_;obtain⟨a,F,cs,dl,rs,k,e,d,hk,hd,n,r,v⟩;obtain⟨ld,lr,ra,h,y,x⟩:=id d;refine{_,(sc (si (cJ<|tv<|aU T.oP (kJ T) hr<|ap 1 an) (s1 z_) s0)<|sc (se<|q9 (dv 0) T.aq T.cq (jm T) hr<|ap 1 an)<|sc (se<|q9 (dv 0) T.aq T.cu (JZ T) hr<|ap 1 an)<|s1<|se<|bm zQ z0 ya cA (fl T.aq T.cR<|dv 0)<|ac (bq<|ac ds<|ap 1 an) an),?_};refine !{k,rfl,hk,_,rfl,?_};refine bC (λh0=>?_) λh0=>?_;exact n<|nt h0;have h0:=nf h0;refine !{a,_,rfl,h.ins,rfl,_,rfl,a,F,cs,dl,rs,k,rfl,d,hk,λh1=>?_,λh1=>fo<|r h0 h1};obtain⟨z,rfl,hz⟩:=Fc h0;have p:∃s,lu rs z=ϑ s/\s≠[]:=by rw[xq hz]at h1;have:=O4 h1;cases e:lu rs z with|none=>rw[e]at this;exact absurd rfl this|some s=>rw[e]at this;exact⟨s,rfl,this⟩
 refine !{a,_,rfl,h.ins,rfl,_,rfl,a,F,cs,dl,rs,z,rfl,d,p,by lia,λS1 q g=>?_};obtain⟨l,i,j,c,m,o⟩:=id q;refine !{a,_,_,rfl,c.ins,rfl,{rfl,_,c.BP},_,rfl,bY,l,dl,_,rfl,rfl,c.BP,bg<|by lia,?_};refine fo<|v z rfl hz h1 _ {l,i,j,c.JV _,m,o}<|g.trans<|tm ?_;rw[m];exact zg _ zq
inductive ip (t:gY) (ds:δ D) (S:ak) (R:KD) (Z:KX):η where
 |mk (a cs) (_:ds=[.ref a,.tup<|cs.map aA]) (_:Gd cs) (_:S a=ϑ (.ins t.ar [])) (_:∀S' F,cF t.ar S' a F cs [] []->DC [a] F S S'->R .ay S')
theorem Ng(T:Txt w K mg t):vk P w mg base T.fR 5 (ip t):=by
 refine T.fR.F.b_ m6 ?_;obtain⟨a,cs,e,hg,ha,q⟩;refine{_,(sc (se<|aU T.gN (o_ T) hr<|ap 1 an)<|sc (sf T.aq T.cZ (dv 0)<|dv 1)<|sc (sf T.aq T.cR (dv 0)<|bT an)<|s1<|sf T.aq T.bV (dv 0) Q6),?_};refine !{cs,rfl,hg,_,rfl,_,rfl,a,[],rfl,ha,(show 0<1000 by decide),?_};refine{lZ,λld g=>!{a,[("columns",.tup<|cs.map aA)],rfl,?_,(show 1<1000 by decide),λlr d=>!{a,[("columns",.tup<|cs.map aA),("deeds",.ref ld)],rfl,?_,(show 2<1000 by decide),?_}}};have j:a≠ld:=by rintro rfl;rw[aa]at g;cases g
 rw[ae j,aa];rfl;have j:a≠lr:=by rintro rfl;rw[aa]at d;cases d
 rw[ae j,aa];rfl;have h:a≠ld:=by rintro rfl;rw[aa]at g;cases g
 have l:a≠lr:=by rintro rfl;rw[aa]at d;cases d
 have p:ld≠lr:=by rintro rfl;rw[ae h.symm,aa]at d;cases d
 rw[ae h.symm]at g;rw[ae l.symm,ae p.symm,ae l.symm]at d;refine fo<|q _ (fp a ld lr []) {ld,lr,[],{aa,?_,?_,λr hr=>(nomatch hr),List.nodup_nil,(by simp),λr hr=>(nomatch hr)},rfl,rfl} λb c s e=>?_;rw[ae h.symm,ae p,ae h.symm,aa];rw[ae l.symm,aa];rfl;have i:b≠a:=λz=>s (by rw[z];exact zq);have o:b≠ld:=gM e g;have n:b≠lr:=gM e d;refine{λm=>?_,by rw[ae i,ae n,ae i,ae o,ae i];exact e};unfold fp at m;simp only[y4,zj,zN,or_false]at m;rcases m with m|m|m;exact i m;exact o m;exact n m
noncomputable def xr(rs:rq)(i:ν)(z:ρ):D:=.tup [.str z,wt ((lu rs z).getD []) i]
noncomputable def l5(rs:rq)(i:ν)(ss:δ ρ):δ D:=(ss.filter λz=>!ah (wt ((lu rs z).getD []) i)).map<|xr rs i
noncomputable def xt:D->χ|.tup [_,x]=>!ah x|_=>false
theorem Bc(ss:δ ρ):((ss.map<|xr rs i).filter xt).map id=l5 rs i ss:=by unfold l5;rw[List.map_id,List.filter_map];rfl
inductive O5 (C:ε) (ds:δ D) (S:ak) (R:KD) (Z:KX):η where
 |mk (a F cs dl rs m) (_:ds=[.ref a,m]) (_:cF C S a F cs dl rs) (_:rs.length<64) (_:Gt S m) (_:(∀i ss,uI dl.length m=ϑ i->ss.Perm (rs.map (·.1))->PyProof.Rows.sortedS ss=ϱ->∀p,S p=ϐ->R (.ref p) (S.set p<|.lst<|l5 rs i ss))) (_:uI dl.length m=ϐ->False)
theorem Hb(T:Txt w K mg t):vk P w mg base T.iR 3 (O5 t.ar):=by
 refine T.iR.F.b_ fg ?_;obtain⟨a,F,cs,dl,rs,m,e,C,hn,hm,I,L⟩;obtain⟨ld,lr,ra,h,hF,q⟩:=id C;have M:(dZ ra).map (·.1)=(rs.map (·.1)).map Sum.inr:=by rw[q];unfold dZ ij;rw[zy,zy,zy];rfl
 have X:(dZ ra).length<64:=by rw[q]at hn;unfold ij at hn;unfold dZ;rw[zb]at hn⊢;exact hn
 refine{_,(sc (bR (i:=2) fg.nd<|q9 (dv 0) T.aq T.cw (jl T) hr<|ap 1 an)<|sc (uA (N:=["key","then","self"]) (src:=[none,some 2,some 0]) 3 fg.nd (lR<|inClass br 10) (il<|cb AJ T.h_ fw<|ac (fl T.aq T.bV<|dv 0) an) qZ<|bq<|ap 0<|ac (aU T.gC (ke T) hr<|ac (ix hr.u (fl T.aq T.bV<|dv 2)<|dv 0)<|ap 1 an) an)<|s1<|sr<|y_ (N:=["row"]) (src:=[none]) (lR<|inClass br 10) (il<|dv 3) (if1<|aR dJ hr.u (ix hr.u (dv 0) di) dn)<|dv 0),?_};refine !{a,_,rfl,h.ins,rfl,_,rfl,a,F,cs,dl,rs,m,rfl,C,hm,λi hi=>?_,L};refine !{a,_,_,rfl,h.ins,rfl,lr,dZ ra,rs.map (·.1),rfl,h.run,M,X,λss hp O p j=>?_};have hlen:ss.length<64:=by rw[hp.length_eq,zb];exact hn
 refine{_,aa,?_};refine comp_map (λd=>match d with|.str z=>xr rs i z|_=>.ay) aa (by show(ss.map D.str).length<=1000;rw[zb];omega) (λd hd Q n=>?_) λp2 H=>?_;obtain⟨z,hz,rfl⟩:=zh.mp hd;have Z:z∈rs.map (·.1):=hp.mem_iff.mp hz;obtain⟨r,B,e⟩:=zh.mp Z;rw[q]at B;unfold ij at B;obtain⟨r0,A,rfl⟩:=zh.mp B;have e1:uf ra z=ϑ r0.2:=by cases e3:uf ra z with|none=>exact absurd e (nj e3 _ A)|some x=>exact congrArg some<|congrArg Prod.snd<|i5 (f:=λr:ρ×ε×δ Std=>r.1) h.kn (dG (l:=x.1) (s:=x.2) e3) A e.symm
 have R:bN (dZ ra) (.inr z)=ϑ (.ref r0.2.1):=by rw[ik,e1];rfl
 have G:=h.cell _ A;have eq:(lu rs z).getD []=r0.2.2:=by rw[q,gR,e1];rfl
 have n:Q (.tup [.str z,wt ((lu rs z).getD []) i]) (S.set p<|.lst<|ss.map D.str):=n;rw[eq]at n;have y:(S.set p<|.lst<|ss.map D.str) a=_:=(ae<|gM h.ins j).trans h.ins;have G_:(S.set p<|.lst<|ss.map D.str) lr=_:=(ae<|gM h.run j).trans h.run;have Y:(S.set p<|.lst<|ss.map D.str) r0.2.1=_:=(ae<|gM G j).trans G;exact !!{a,_,_,rfl,y,rfl,_,rfl,dZ ra,_,G_,R,_,rfl,_,_,i,rfl,Y,bY,n};have E:(ss.map D.str).map (λd=>match d with|.str z=>xr rs i z|_=>.ay)=ss.map (xr rs i):=by rw[zy];rfl
 refine !{ss.map<|xr rs i,by show((S.set p _).set p2<|.lst<|(ss.map D.str).map _) p2=_;rw[aa,E],?_};refine eP xt id (by show((S.set p _).set p2<|.lst<|(ss.map D.str).map _) p2=_;rw[aa,E]) (by show(ss.map<|xr rs i).length<=1000;rw[zb];omega) (λd hd Q Q' n U=>?_) λp3 J=>?_;obtain⟨z,hz,rfl⟩:=zh.mp hd;refine !!!⟨?_⟩;exact bC (λh=>!⟨n h⟩) λh=>U h;have Hc:S p3=ϐ:=by cases e:S p3 with|none=>rfl|some c=>exact absurd J<|by rw[ae (gM e<|by have:(S.set p<|.lst<|ss.map D.str) p2=ϐ:=H;cases e':S p2 with|none=>rfl|some c'=>rw[ae<|gM e' j,e']at this;cases this),ae<|gM e j,e];exact nofun
 refine{S.set p3<|.lst<|l5 rs i ss,λb c o=>?_,I i ss hi hp O p3 Hc};show((((S.set p<|.lst<|ss.map D.str).set p2 _).set p3<|.lst<|((ss.map<|xr rs i).filter xt).map id)) b=ϑ c;rw[Bc];by_cases g:b=p3;subst g;rw[aa]at o⊢;exact o;rw[ae g]at o;have v:S p2=ϐ:=by cases e':S p2 with|none=>rfl|some c'=>have:(S.set p<|.lst<|ss.map D.str) p2=ϐ:=H;rw[ae<|gM e' j,e']at this;cases this
 rw[ae g,ae<|gM o v,ae<|gM o j];exact o
theorem Hd{S:ak}{p:ε}{c:Ce}(h:S p=ϑ c):S.set p c=S:=by funext b;by_cases e:b=p;subst e;rw[aa,h];rw[ae e]
theorem J1{S:ak}{p q:ε}{c e:Ce}(h:S q=ϐ)(hn:p≠q):Sub (S.set p c) ((S.set q e).set p c):=λb x a=>by by_cases d:b=p;subst d;rw[aa]at a⊢;exact a;rw[ae d]at a⊢;exact(Sub.new h) _ _ a
theorem dpI:∀xs:δ ν,DpAll S (xs.map D.int) (xs.map PyData.int)/\PyData.canLayAll0 (xs.map PyData.int)=ϱ/\PyData.depthAll (xs.map PyData.int)<=0|[]=>{by simp only[y4,DpAll],rfl,yb _}|x::xs=>by obtain⟨a,b,c⟩:=dpI (S:=S) xs;exact{by simp only[zA,DpAll];exact{_,_,rfl,by simp only[Dp],a},by simp only[zA,PyData.canLayAll0,PyData.canLay0,b,Bool.and_self],by simp only[zA,PyData.depthAll,PyData.depth];lia}
theorem Nh{S:ak}{a b:ε}{xs:δ ν}{R:KD}(e1:S a=ϑ (.lst<|xs.map D.int))(e2:S b=ϑ (.lst []))(q:R (.bl xs.isEmpty) S):HJ false (.ref a) (.ref b) S R:=by obtain⟨c,d,e⟩:=dpI (S:=S) xs;refine{.list<|xs.map PyData.int,.list [],{_,_,e1,rfl,c},{[],[],e2,rfl,by simp only[DpAll]},by simp only[PyData.canLay0];exact d,by simp only[PyData.canLay0,PyData.canLayAll0],.inl<|by simp only[PyData.depth];lia,?_};rw[qa zd,show PyData.eqv (.list<|xs.map PyData.int) (.list [])=xs.isEmpty by cases xs<;>simp[PyData.eqv,PyData.eqvAll]];exact q
theorem Ni{k n:π}(h:k<n):seqIndex? ((k:π):ν) n=ϑ k:=by have e:(if ((k:π):ν)<0 then ((k:π):ν)+(n:ν) else ((k:π):ν))=((k:π):ν):=qa (by lia);unfold seqIndex?;dsimp only;rw[e,qb<|by simp;lia];rfl
theorem kK{p:χ}{A B:η}(h:p=ϰ)(q:B):if p=ϱ then A else B:=by rw[h];exact aL q
theorem ify{p:χ}{A B:η}(h:p=ϱ)(q:A):if p=ϱ then A else B:=by rw[h];exact cj q
theorem cz{L:δ D}{S:ak}{p:ε}{n:ν}{R:KD}(h0:0<=n)(h1:n<(L.length:ν))(hp:S p=ϐ)(q:∀d,d∈L->R d S):AtL p n (S.set p<|.lst L) λd S'=>Fo S' (R d):=by obtain⟨v,e1,e2⟩:=wg (l:=L) h0 h1;exact{L,v,aa,e1,S,.new hp,q v<|zD e2}
theorem kl{xs:δ ν}{i:ν}{P:ν->η}(h0:0<=i)(h1:i<((xs.map D.int).length:ν))(h:∀x∈xs,P x):∃x,gI (xs.map D.int) i=ϑ (.int x)/\P x:=by obtain⟨d,e1,e2⟩:=wg (l:=xs.map D.int) h0 h1;obtain⟨x,hx,rfl⟩:=zh.mp<|zD e2;exact{x,e1,h x hx}
inductive qg (ds:δ D) (S:ak) (R:KD) (Z:KX):η where
 |mk (ns:δ ν) (k:π) (_:ds=[.jH<|ns.map D.int,.int k]) (_:∀c:ν,R (.int c) S)
theorem eQ(T:Txt w K mg t):Ok P w base T.dP 1 qg:=by
 refine T.dP.F.b_ xj ?_;obtain⟨ns,k,e,q⟩;refine{_,(sc (si (aR oz hr.u (dv 1)<|cb ba T.aX aI<|ap 0 an) (s1<|sr<|ix hr.u (dv 0)<|dv 1) s0)<|s1<|sr di),?_};refine !!!!⟨?_⟩;refine bC (λh=>?_) λh=>?_;have h:(k:ν)<(((ns.map D.int).length:π):ν):=zG h;have hk:k<ns.length:=by rw[zb]at h;lia
 exact !!{.int ns[k],cL<|by rw[zm];simp[hk],fo<|q _};exact fo<|q 0
inductive Dv (S:ak) (c:ν) (n:π) (lf:ε) (av:SD) (S':ak):η where
 |mk (r:ν) (xs:δ ν) (_:av=[some<|.int c,some<|.int (n:π),some<|.ref lf,some<|.int r,none,none]) (_:S'=S.set lf (.lst<|xs.map D.int)) (_:xs.length<=n) (_:∀x∈xs,0<=x):Dv S c n lf av S'
inductive Dw (S:ak) (c:ν) (n:π) (lf:ε) (m:π) (av:SD) (S':ak):η where
 |mk (r:ν) (xs:δ ν) (_:av=[some<|.int c,some<|.int (n:π),some<|.ref lf,some<|.int r,none,none]) (_:S'=S.set lf (.lst<|xs.map D.int)) (_:xs.length+m=n) (_:∀x∈xs,0<=x):Dw S c n lf m av S'
inductive Dx (S:ak) (c:ν) (n:π) (lf:ε) (r:ν) (av:SD) (S':ak):η where
 |mk (o4 o5:θ D) (xs:δ ν) (_:av=[some<|.int c,some<|.int (n:π),some<|.ref lf,some<|.int r,o4,o5]) (_:S'=S.set lf (.lst<|xs.map D.int)) (_:n<=xs.length) (_:xs.length<=40) (_:∀x∈xs,0<=x):Dx S c n lf r av S'
inductive Dy (S:ak) (c:ν) (n:π) (lf:ε) (r:ν) (xl i:π) (av:SD) (S':ak):η where
 |mk (nu:ν) (o5:θ D) (xs:δ ν) (_:av=[some<|.int c,some<|.int (n:π),some<|.ref lf,some<|.int r,some<|.int nu,o5]) (_:0<=nu) (_:nu<1000000000000048280) (_:S'=S.set lf (.lst<|xs.map D.int)) (_:xs.length=xl+(i-3)) (_:∀x∈xs,0<=x):Dy S c n lf r xl i av S'
inductive vE (ds:δ D) (S:ak) (R:KD) (Z:KX):η where
 |mk (c:ν) (n:π) (_:ds=[.int c,.int (n:π)]) (_:n<=20) (_:∀(xs:δ ν) p,xs.length=n->(∀x∈xs,0<=x)->S p=ϐ->R (.ref p) (S.set p<|.lst<|xs.map D.int))
theorem iq(T:Txt w K mg t):Ok P w base T.gD 1 vE:=by
 refine T.gD.F.b_ cT ?_;obtain⟨c,n,e,hn,q⟩;refine{_,(sc (bR (i:=2) cT.nd<|bT an)<|sc (bR (i:=3) cT.nd di)<|sc (qB<|si (aR aan hr.u (dv 0)<|bo mC hr.u di di) (s1<|bR (i:=3) cT.nd<|bo Az hr.u (dv 0)<|bo mC hr.u di di) s0)<|sc (qB<|swh (twd<|twand (aR qA hr.u (dv 3) di)<|tw1<|aR oz hr.u (cb ba T.aX aI<|ap 2 an)<|dv 1)<|sc (se<|bm zQ z0 ya cA (dv 2)<|ac (bo bh hr.u (dv 3)<|bo mC hr.u di di) an)<|s1<|bR (i:=3) cT.nd<|bo dh hr.u (dv 3)<|bo mC hr.u di di)<|sc (bR (i:=4) cT.nd<|bo aS hr.u (bo bh hr.u (dv 0)<|bo aS hr.u (bo mC hr.u di di) di) di)<|sc (qB<|AG (MN T.fq<|ac (bo aS hr.u (dv 1) di) an) (gn (i:=5) cT.nd)<|sc (bR (i:=4) cT.nd<|bo bh hr.u (bo aS hr.u (bo aS hr.u (bo vf hr.u (dv 4)<|dv 4)<|bo vf hr.u di<|dv 4)<|dv 5)<|bo aS hr.u (bo mC hr.u di di) di)<|s1<|si (aR qA hr.u (dv 5) di) (s1<|se<|bm zQ z0 ya cA (dv 2)<|ac (bo bh hr.u (bo vf hr.u (dv 4)<|bo aS hr.u (bo dh hr.u (dv 4) di) di)<|bo aS hr.u (bo mC hr.u di di) di) an) s0)<|s1<|sr<|oI (dv 2) o0<|o1<|dv 1),?_};refine{lZ,λlf G=>?_};refine{λav S'=>∃r:ν,av=[some<|.int c,some<|.int (n:π),some<|.ref lf,some<|.int r,none,none]/\S'=S.set lf (.lst []),?_,?_};refine{_,rfl,{by decide,by decide,by decide},_,rfl,bC (λh=>?_) λh=>fo {0,rfl,rfl}};exact{_,rfl,{by decide,by decide,by decide},fo !⟨rfl⟩};rintro av S' ⟨r,rfl,rfl⟩;refine{Dv S c n lf,?_,?_};refine{Dw S c n lf,{n,r,[],rfl,rfl,Nat.zero_add _,λ_ h=>(nomatch h)},?_};rintro m av S' ⟨r,xs,rfl,rfl,hl,hx⟩;have g:(S.set lf<|.lst<|xs.map D.int) lf=ϑ (.lst<|xs.map D.int):=aa;refine !!⟨bC (λh1=>!!⟨.inl {_,g,_,rfl,_,rfl,bC (λh2=>?_) λh2=>?_}⟩) λh1=>aL<|fo {r,xs,rfl,rfl,by lia,hx}⟩;have h2:(((xs.map D.int).length:π):ν)<((n:π):ν):=zG h2;rw[zb]at h2;refine{_,rfl,{rfl,_,g},_,rfl,{by decide,by decide,by decide},by decide,lf,_,_,rfl,rfl,g,bg<|by rw[zb];lia,?_};refine{_,rfl,{by decide,by decide,by decide},{by decide,by trivial},m-1,by lia,_,xs++[r%10^(15:ν).toNat],rfl,?_,by rw[zo];show xs.length+1+_=_;lia,λx l=>?_};rw[bK,zI];rfl;rcases zO.mp l with h|h;exact hx x h;rw[zL.mp h];exact zV _ (by decide);exact fo {r,xs,rfl,rfl,by lia,hx};rintro av S' ⟨r,xs,rfl,rfl,hl,hx⟩;have A:∀z:ν,0<=z%1000000000000000009/\z%1000000000000000009<1000000000000000009:=λz=>{zV z<|by decide,zU z<|by decide};have o:((10:ν)^(18:ν).toNat+9)=1000000000000000009:=by decide
 refine{_,rfl,{by decide,by decide,by decide},by decide,?_};refine{Dx S c n lf r,?_,?_};refine !{((n:π):ν)+3,rfl,by lia,by lia,?_};refine{Dy S c n lf r xs.length,?_,λ_ _ _ _=>trivial,?_,?_};have:=A c;rw[o];exact{_,none,xs,rfl,by lia,by lia,rfl,rfl,hx};rintro i d av S' hd ⟨nu,o5,ys,rfl,I,H,rfl,v,j⟩;have hd:(eV 0 (((n:π):ν)+3).toNat)[i]?=some d:=hd;obtain⟨hi,rfl⟩:=dw hd;refine !!{.inl {by lia,by lia},_,rfl,.inl {by decide,by decide},_,rfl,{by decide,by decide,by decide},by decide,?_};rw[o];have E:=A<|nu*nu+48271*nu+(0+(i:π));generalize (nu*nu+48271*nu+(0+(i:π)))%1000000000000000009=a at E⊢;have g:(S.set lf<|.lst<|ys.map D.int) lf=ϑ (.lst<|ys.map D.int):=aa;refine !!⟨bC (λh=>?_) λh=>?_⟩;have h:(2:ν)<0+((i:π):ν):=zG h;refine{_,rfl,{rfl,_,g},_,rfl,_,rfl,{by decide,by trivial},.inl {by lia,by lia},{by decide,by decide,by decide},by decide,lf,_,_,rfl,rfl,g,bg<|by rw[zb];lia,?_};refine{a,_,ys++[a*(a/1009+69621)%(10^(18:ν).toNat+9)],rfl,by lia,by lia,?_,by rw[zo];show ys.length+1=_;lia,λx l=>?_};rw[bK,zI];rfl;rcases zO.mp l with h|h;exact j x h;rw[zL.mp h];exact zV _ (by decide);have h:¬(2:ν)<0+((i:π):ν):=yn h;exact{a,_,ys,rfl,by lia,by lia,rfl,by lia,j};rintro av S' ⟨nu,o5,ys,rfl,_,_,rfl,v,j⟩;rw[show({eV 0 (((n:π):ν)+3).toNat,λ_=>True}:n8).xs.length=(((n:π):ν)+3).toNat from cQ]at v;exact fo {_,_,ys,rfl,rfl,by lia,by lia,j};rintro av S' ⟨o4,o5,ys,rfl,rfl,C,J,j⟩;refine !!!{_,aa,λp hp=>?_};have B:S p=ϐ:=by rw[ae<|show p≠lf by rintro rfl;rw[aa]at hp;cases hp]at hp;exact hp
 have e:cP (ys.map D.int) none (some ((n:π):ν))=(ys.take n).map D.int:=by unfold cP;rw[HT.sIx_nat,HT.sIx_none,zb,Nat.min_eq_left C,y3,Nat.sub_zero,yY]
 rw[e];refine{_,λb x s=>?_,q (ys.take n) p (by rw[zE];lia) (λx l=>j x<|List.mem_of_mem_take l) B};by_cases y:b=p;subst y;rw[aa]at s⊢;exact s;rw[ae y]at s⊢;exact(Sub.new G) _ _ s
inductive vF (ds:δ D) (S:ak) (R:KD) (Z:KX):η where
 |mk (p:ε) (xs:δ ν) (_:ds=[.ref p]) (_:S p=ϑ (.lst<|xs.map D.int)) (_:xs.length<=20) (_:∀x∈xs,0<=x) (_:∀(x:ν)(ys:δ ν),0<=x->ys.length<=xs.length->(∀y∈ys,0<=y)->R (.int x) (S.set p<|.lst<|ys.map D.int))
theorem Bd(T:Txt w K mg t):Ok P w base T.rj 1 vF:=by refine T.rj.F.b_ Dm ?_;obtain⟨p,xs,e,hp,hl,hx,q⟩;refine{_,(sc (si (aR aK hr.u (dv 0)<|bT an) (s1<|sr di) s0)<|s1<|sr<|bm zQ PySem.F.slot_list_pop PySem.F.type_list_pop MJ (dv 0)<|ac di an),?_};refine !{lZ,λp2 a=>Nh ((Sub.new a) _ _ hp) aa !⟨?_⟩};cases xs with|nil=>refine ify rfl {S.set p<|.lst [],?_,q 3 [] (by decide) (zk _) λ_ h=>(nomatch h)};rw[Hd<|show S p=ϑ (.lst []) from hp];exact .new a|cons x xs=>refine kK rfl !⟨{rfl,_,(Sub.new a) _ _ hp},p,_,_,0,.int x,rfl,rfl,(Sub.new a) _ _ hp,by decide,by decide,Ni (k:=0)<|by simp,rfl,?_⟩;refine{_,?_,q x xs (hx x zq) (by simp) λy c=>hx y<|zg _ c};exact J1 a λe=>by rw[e,a]at hp;cases hp
noncomputable abbrev KW:δ Str:=["a","ab","b","abc","z","a1","b22","aa","m","m0","ba","zzzzzzzzz"]
noncomputable abbrev KU:δ Str:=["","0","b7","zz","9"]
noncomputable abbrev KS:δ Str:=KW.flatMap λa=>KU.map λb=>a++b
theorem i8:∀z∈KS,l4 z=ϱ/\z.cps.size<=12/\PyData.strOk z=ϱ:=by trivial
theorem Xc:∀a∈KW,∀b∈KU,a.length+b.length<=1000:=by trivial
noncomputable abbrev BQ:δ Str:=["key","a","ab","at","up","mark","b","price"]
theorem J2:∀z∈BQ,m9 z=ϱ/\PyData.strOk z=ϱ:=by trivial
noncomputable abbrev WDS:δ Str:=["","a","ab","b","a b","B","~","=b"]
theorem RZ:∀z∈WDS,pW z=ϱ:=by trivial
noncomputable def bc:D->χ|.ay=>true|.int _=>true|.str z=>ω (z.cps.size<=40)&&PyData.strOk z|_=>false
theorem fu(h:bc d=ϱ):d=.ay\/(∃i,d=.int i)\/∃z,d=.str z:=by cases d<;>first|exact .inl rfl|exact .inr (.inl {_,rfl})|exact .inr (.inr {_,rfl})|cases h
def Vg(kind:ρ)(d:D):Prop:=iY kind d=ϱ/\bc d=ϱ
theorem Nk(h:pW z=ϱ):bc (.str z)=ϱ:=by unfold pW at h;rw[zJ,zZ]at h;show(ω (z.cps.size<=40)&&PyData.strOk z)=ϱ;rw[h.1,yp];unfold PyData.strOk;rw[<-Array.all_toList,zZ];intro c a;have:=h.2 c a;unfold E6 at this;simp only[zJ,zP]at this⊢;lia
theorem R1{k:ρ}(h:k ="number")(i:ν):Vg k (.int i):={by rw[h];rfl,rfl}
theorem R3{k:ρ}(h:¬k ="number")(hz:pW z=ϱ):Vg k (.str z):={by unfold iY;rw[qa h];exact hz,Nk hz}
theorem R4(k:ρ):Vg k .ay:=⟨rfl,rfl⟩
inductive vG (ds:δ D) (S:ak) (R:KD) (Z:KX):η where
 |mk (k:ρ) (x:ν) (_:ds=[.str k,.int x]) (_:∀d,Vg k d->R d S)
theorem Be(T:Txt w K mg t):Ok P w base T.rm 1 vG:=by refine T.rm.F.b_ sU ?_;obtain⟨k,x,e,q⟩;refine{_,(sc (si (aR aK hr.u (bo bh hr.u (dv 1) di) di) (s1<|sr dn) s0)<|sc (si (aR aK hr.u (dv 0) ds) (sc (bR (i:=2) sU.nd<|bo vf hr.u (bo bh hr.u (bo dh hr.u (dv 1) di)<|bo mC hr.u di di)<|bo mC hr.u di di)<|s1<|sr<|xZ<|ix hr.u (bT<|ac di<|ac di<|ac di<|ac di<|ac (IY di)<|ac (IY di)<|ap 2<|ac (bo Az hr.u di<|dv 2) an)<|bo bh hr.u (bo dh hr.u (dv 1) di) di) s0)<|s1<|sr<|xZ<|ix hr.u (bT<|ac ds<|ac ds<|ac ds<|ac ds<|ac ds<|ac ds<|ac ds<|ac ds an)<|bo bh hr.u (bo dh hr.u (dv 1) di) di),?_};refine !{by decide,_,rfl,bC (λ_=>fo<|q _<|R4 k) λ_=>!!⟨?_⟩};have g:0<=x/5%8:=zV _ (by decide);have a:x/5%8<8:=zU _ (by decide);refine bC (λh=>?_) λh=>?_;have h:k ="number":=zG h;have g0:0<=x/40%10^(15:ν).toNat:=zV _ (by decide);have j:x/40%10^(15:ν).toNat<10^(15:ν).toNat:=zU _ (by decide);refine{_,rfl,{by decide,by trivial},{by decide,by decide,by decide},by decide,{by decide,by decide,by decide},.inl {Int.lt_of_lt_of_le (by decide) g0,Int.lt_trans j<|by decide},?_};generalize x/40%10^(15:ν).toNat*10^(44:ν).toNat=c;refine !!!!{G6,λp hp=>!⟨{by decide,by trivial},by decide,cz g a hp λd hd=>?_⟩};have hd:d∈[D.int 0,.int 1,.int 2,.int 10,.int (-1),.int (-2),.int c,.int<|0-c]:=hd;simp only[zj,zN,or_false]at hd;rcases hd with rfl|rfl|rfl|rfl|rfl|rfl|rfl|rfl<;>exact fo (q _<|R1 h _);refine{G6,λp hp=>!⟨{by decide,by trivial},by decide,cz g a hp λd hd=>?_⟩};have hd:d∈WDS.map D.str:=hd;obtain⟨z,hz,rfl⟩:=zh.mp hd;exact fo<|q _<|R3 (yn h)<|RZ z hz
inductive Fe (ds:δ D) (S:ak) (R:KD) (Z:KX):η where
 |mk (x:ν) (_:ds=[.int x]) (_:∀z∈KS,R (.str z) S)
theorem xu(T:Txt w K mg t):Ok P w base T.vq 1 Fe:=by
 refine T.vq.F.b_ A8 ?_;obtain⟨x,e,q⟩;refine{_,(sc (bR (i:=1) A8.nd<|xZ<|ix hr.u (bT<|ac ds<|ac ds<|ac ds<|ac ds<|ac ds<|ac ds<|ac ds<|ac ds<|ac ds<|ac ds<|ac ds<|ac ds an)<|bo bh hr.u (dv 0) di)<|s1<|sr<|bo aS hr.u (dv 1)<|xZ<|ix hr.u (bT<|ac ds<|ac ds<|ac ds<|ac ds<|ac ds<|ac ds<|ac ds<|ac ds an)<|bo bh hr.u (bo dh hr.u (dv 0) di) di),?_};refine{W9,λp hp=>!{by decide,cz (zV _<|by decide) (zU _<|by decide) hp λd hd=>?_}};have hd:d∈KW.map D.str:=hd;obtain⟨a,ha,rfl⟩:=zh.mp hd;refine !{G6,λp hp=>!⟨{by decide,by trivial},by decide,cz (zV _<|by decide) (zU _<|by decide) hp λd hd=>?_⟩};obtain⟨b,c,rfl⟩:∃b∈KU,d=.str b:=by have hd:d∈[D.str "",.str "",.str "",.str "",.str "0",.str "b7",.str "zz",.str "9"]:=hd;simp only[zj,zN,or_false]at hd;rcases hd with h|h|h|h|h|h|h|h<;>exact{_,by simp,h}
 exact{sm<|Xc a ha b c,fo<|q _<|List.mem_flatMap.mpr {a,ha,zh.mpr ⟨b,c,rfl⟩}}
theorem eY{α β:Type}{rel:α->β->η}{l:δ α}{m:δ β}(h:Paired rel l m):∀{i:π}{b:β},m[i]?=some b->∃a,l[i]?=some a/\rel a b:=by induction h with|nil=>intro i a h;simp at h|cons r t c=>intro i a h;cases i with|zero=>(rw[List.getElem?_cons_zero]at h⊢;cases h;exact{_,rfl,r})|succ i=>rw[List.getElem?_cons_succ]at h⊢;exact c h
theorem vH{α β:Type}{rel:α->β->η} : ∀{l:δ α}{m:δ β},m.length=l.length->(∀(i:π) a b,l[i]?=some a->m[i]?=some b->rel a b)->Paired rel l m|[],[],_,_=>.nil|a::l,b::m,h,k=>.cons (k 0 a b rfl rfl)<|vH (by simpa using h) λi x y e1 e2=>k (i+1) x y (by rw[List.getElem?_cons_succ];exact e1)<|by rw[List.getElem?_cons_succ];exact e2
def Wg(cs:δ<|ρ×ρ)(ws:δ D):Prop:=Paired (λ(c:ρ×ρ) v=>Vg c.2 v) cs ws
noncomputable def tD(tr j:π):Str:=BQ.getD ((tr+3*j)%8) ""
theorem J3:∀tr<8,∀i<9,((List.range i).map<|tD tr).Nodup:=by trivial
theorem R5(tr j:π):tD tr j∈BQ:=by have:(tr+3*j)%8<8:=Nat.mod_lt _ (by decide);unfold tD;rw[zM,zf<|show(tr+3*j)%8<BQ.length from this];exact List.getElem_mem _
theorem R6(tr j:π):tD (tr%8) j=tD tr j:=by unfold tD;rw[show(tr%8+3*j)%8=(tr+3*j)%8 by lia]
def Cg(cs:δ<|ρ×ρ):Prop:=Gd cs/\∀c∈cs,c.1∈BQ
inductive Nw (S:ak) (c:ν) (lx ln lf:ε) (m tr:π) (x0:ν) (i:π) (av:SD) (S':ak):η where
 |mk (cs:δ<|ρ×ρ) (y2:ν) (o6:θ D) (_:av=[some<|.int c,some<|.ref lx,some<|.ref ln,some<|.int (m:π),some<|.ref lf,o6]) (_:cs.map Prod.fst=(List.range i).map (tD tr)) (_:(∀c∈cs,c.2 ="number"\/c.2 ="word")) (_:S' lx=ϑ (.lst<|[x0,((tr:π):ν),y2].map D.int)) (_:S' ln=ϑ (.lst<|BQ.map D.str)) (_:S' lf=ϑ (.lst<|cs.map aA)) (_:Sub S S'):Nw S c lx ln lf m tr x0 i av S'
inductive qh (ds:δ D) (S:ak) (R:KD) (Z:KX):η where
 |mk (c:ν) (_:ds=[.int c]) (_:∀cs,Cg cs->R (.tup<|cs.map aA) S)
theorem DH(T:Txt w K mg t):Ok P w base T.oS 2 qh:=by
 refine T.oS.F.b_ c9 ?_;obtain⟨c,e,q⟩;refine{_,(sc (bR (i:=1) c9.nd<|aU T.gD (iq T) hr<|ap 0<|ac di an)<|sc (bR (i:=2) c9.nd<|bT<|ac ds<|ac ds<|ac ds<|ac ds<|ac ds<|ac ds<|ac ds<|ac ds an)<|sc (bR (i:=3) c9.nd<|xZ<|ix hr.u (bT<|ac di<|ac di<|ac di<|ac di<|ac di<|ac di<|ac di<|ac di an)<|bo bh hr.u (ix hr.u (dv 1) di) di)<|sc (bR (i:=4) c9.nd<|bT an)<|sc (qB<|AG (MN T.fq<|ap 3 an) (gn (i:=5) c9.nd)<|sc (se<|bm zQ z0 ya cA (dv 4)<|ac (bq<|ac (ix hr.u (dv 2)<|bo bh hr.u (bo aS hr.u (ix hr.u (dv 1) di)<|bo vf hr.u di<|dv 5) di)<|ac (xZ<|ix hr.u (bT<|ac ds<|ac ds an)<|bo bh hr.u (ix hr.u (dv 1) di) di) an) an)<|s1<|sls (dv 1) di<|bo dh hr.u (ix hr.u (dv 1) di) di)<|s1<|sr<|ct iM T.bz aZ<|ap 4 an),?_};refine !{c,3,rfl,by decide,λxs lx Z hx R=>?_};obtain⟨x0,L,l,rfl⟩:∃x0 L l,xs=[x0,L,l]:=by match xs,Z with|[a,b,c],_=>exact⟨a,b,c,rfl⟩
 obtain⟨tr,rfl⟩:=Int.eq_ofNat_of_zero_le<|hx L (by simp);refine{G6,λln N=>?_};have s:((S.set lx<|.lst<|[x0,((tr:π):ν),l].map D.int).set ln<|.lst<|BQ.map D.str) lx=ϑ (.lst<|[x0,((tr:π):ν),l].map D.int):=(ae<|gM aa N).trans aa;have J:((S.set lx<|.lst<|[x0,((tr:π):ν),l].map D.int).set ln<|.lst<|BQ.map D.str) ln=ϑ (.lst<|BQ.map D.str):=aa;have s1:=(Sub.new (c:=.lst<|[x0,((tr:π):ν),l].map D.int) R).trans<|.new (c:=.lst<|BQ.map D.str) N;have I:lx≠ln:=gM aa N;rw[show[D.str "key",.str "a",.str "ab",.str "at",.str "up",.str "mark",.str "b",.str "price"]=BQ.map D.str from rfl];generalize (S.set lx<|.lst<|[x0,((tr:π):ν),l].map D.int).set ln (.lst<|BQ.map D.str)=S1 at s J s1⊢;refine{G6,λp hp=>!{_,_,(Sub.new hp) _ _ s,rfl,by decide,cz (zV _<|by decide) (zU _<|by decide) hp λd hd=>?_}};obtain⟨m,rfl,hm⟩:∃m:π,d=.int m/\m<=8:=by have hd:d∈[D.int 1,.int 2,.int 3,.int 0,.int 2,.int 1,.int 8,.int 3]:=hd;simp only[zj,zN,or_false]at hd;rcases hd with h|h|h|h|h|h|h|h;exact{1,h,by decide};exact{2,h,by decide};exact{3,h,by decide};exact{0,h,by decide};exact{2,h,by decide};exact{1,h,by decide};exact{8,h,by decide};exact{3,h,by decide}
 refine{lZ,λlf B=>?_};have a0:S1 lx≠none:=by rw[s];nofun
 have n:lx≠lf:=gM s B;have y:ln≠lf:=gM J B;have sz:=s1.trans<|Sub.new (c:=.lst []) B;have Y:S lf=ϐ:=by cases e:S lf with|none=>rfl|some z=>have:=s1 _ _ e;rw[B]at this;cases this
 refine{λav S'=>∃(cs:δ (ρ×ρ))(o6:θ D),av=[some<|.int c,some<|.ref lx,some<|.ref ln,some<|.int (m:π),some<|.ref lf,o6]/\Cg cs/\S' lf=ϑ (.lst<|cs.map aA)/\Sub S S',?_,?_};refine !{((m:π):ν),rfl,by lia,by lia,?_};refine{Nw S c lx ln lf m tr x0,{[],l,none,rfl,rfl,λ_ h=>(nomatch h),(ae n).trans s,(ae y).trans J,aa,sz},λ_ _ _ _=>trivial,?_,?_};rintro i d av S' hd ⟨cs,y2,o6,rfl,hn,hk,A,O,o,v⟩;have hd:(eV 0 ((m:π):ν).toNat)[i]?=some d:=hd;obtain⟨hi,rfl⟩:=dw hd;have X:cs.length=i:=by have:=congrArg List.length hn;simpa using this
 have E:gI (BQ.map D.str) ((((tr:π):ν)+3*(0+((i:π):ν)))%8)=ϑ (.str<|tD tr i):=by rw[show(((tr:π):ν)+3*(0+((i:π):ν)))%8=(((tr+3*i)%8:π):ν) by lia];have eI:(tr+3*i)%8<8:=Nat.mod_lt _ (by decide);refine cL ?_;rw[zm];unfold tD;rw[zM,zf<|show(tr+3*i)%8<BQ.length from eI];rfl
 refine{_,rfl,{rfl,_,o},_,rfl,_,rfl,_,_,A,rfl,_,rfl,.inl {by decide,by decide},by decide,_,_,O,E,bY,λp hp=>!{_,_,(Sub.new hp) _ _ A,rfl,by decide,cz (zV _<|by decide) (zU _<|by decide) hp λd hd=>?_}};obtain⟨r,rfl,G⟩:∃r:ρ,d=.str r/\(r ="number"\/r ="word"):=by have hd:d∈[D.str "number",.str "word"]:=hd;simp only[zj,zN,or_false]at hd;rcases hd with h|h;exact{_,h,.inl rfl};exact{_,h,.inr rfl}
 refine{bY,lf,_,_,rfl,rfl,o,bg<|by rw[zb];lia,?_};have Q:(S'.set lf<|.lst<|cs.map aA++[.tup [.str<|tD tr i,.str r]]) lx=ϑ (.lst<|[x0,((tr:π):ν),y2].map D.int):=(ae n).trans A;refine !{_,_,Q,rfl,{by decide,by trivial},_,rfl,lx,_,2,2,rfl,rfl,Q,rfl,?_};refine{cs++[(tD tr i,r)],y2/2,_,rfl,?_,?_,aa,(ae I.symm).trans<|(ae y).trans O,?_,λb x H=>?_};rw[zI,hn,List.range_succ,zI];rfl;intro c g;rcases zO.mp g with h|h;exact hk c h;rw[zL.mp h];exact G;rw[ae n.symm,aa,zI];rfl;have C:b≠lx:=gM H R;rw[ae C,ae<|gM H Y];exact v b x H;rintro av S' ⟨cs,y2,o6,rfl,hn,hk,A,O,o,v⟩;rw[show({eV 0 ((m:π):ν).toNat,λ_=>True}:n8).xs.length=((m:π):ν).toNat from cQ,show((m:π):ν).toNat=m by lia]at hn;have X:cs.length=m:=by have:=congrArg List.length hn;simpa using this
 have U:∀c∈cs,c.1∈BQ:=λc g=>by have:c.1∈cs.map Prod.fst:=zh.mpr ⟨c,g,rfl⟩;rw[hn]at this;obtain⟨j,_,e⟩:=zh.mp this;rw[<-e];exact R5 tr j
 have M:(cs.map Prod.fst).Nodup:=by rw[hn,zX λj _=>(R6 tr j).symm];exact J3 (tr%8) (Nat.mod_lt _<|by decide) m<|by lia
 exact fo {cs,_,rfl,{{by lia,M,λc g=>{(J2 _<|U c g).1,hk c g}},U},o,v};rintro av S' ⟨cs,o6,rfl,g,o,v⟩;exact !{_,_,rfl,.inl o,S,v,q cs g}
inductive tE (ds:δ D) (S:ak) (R:KD) (Z:KX):η where
 |mk (cs:δ<|ρ×ρ) (l:ε) (xs:δ ν) (_:ds=[.tup<|cs.map aA,.ref l]) (_:Gd cs) (_:S l=ϑ (.lst<|xs.map D.int)) (_:cs.length<=xs.length) (_:∀ws,Wg cs ws->R (.tup ws) S)
theorem pj(T:Txt w K mg t):Ok P w base T.j6 2 tE:=by
 refine T.j6.F.b_ A9 ?_;obtain⟨cs,l,xs,e,hg,hl,z,q⟩;have B:=hg.1;refine{_,(s1<|sr<|ct iM T.bz aZ<|ac (y_ (N:=["_law_k","_law_xs","_law_columns_here"]) (src:=[none,some 1,some 0]) (lR C5) (MN T.fq<|ac (cb ba T.aX aI<|ap 0 an) an) qZ<|aU T.rm (Be T) hr<|ac (ix hr.u (ix hr.u (dv 2)<|dv 0) di)<|ac (ix hr.u (dv 1)<|dv 0) an) an),?_};refine !!!{by rw[zb];lia,by rw[zb];lia,?_};rw[zb];refine m_ (λd v=>∃(j:π)(c:ρ×ρ),d=.int (0+(j:π))/\cs[j]?=some c/\Vg c.2 v) trivial (by show(eV 0 _).length<=_;rw[cQ];lia) (λd hd Q o=>?_) λout hp p s=>?_;obtain⟨j,i⟩:=yq hd;have i:(eV 0 ((cs.length:π):ν).toNat)[j]?=some d:=i;obtain⟨y,rfl⟩:=dw i;have g:j<cs.length:=by lia
 have a:=zf g;generalize cs[j]=c at a;have ex:(xs.map D.int)[j]?=some (.int<|xs[j]'(by lia)):=by rw[zm,zf<|show j<xs.length by lia];rfl
 generalize xs[j]'_=x at ex;have n:(0:ν)+((j:π):ν)=((j:π):ν):=Int.zero_add _;refine !!{aA c,by rw[n];exact cL<|by rw[zm,a];rfl,_,rfl,_,rfl,_,rfl,_,_,hl,by rw[n];exact cL ex,c.2,x,rfl,λv h=>o v ⟨j,c,rfl,a,h⟩};have hw:Wg cs out:=by have hlen:=yH hp;rw[show({eV 0 ((cs.length:π):ν).toNat,λ_=>True}:n8).xs=eV 0 ((cs.length:π):ν).toNat from rfl,cQ]at hlen;refine vH (by lia) λj c v a r=>?_;obtain⟨d,hd,m,A,e1,e2,h⟩:=eY hp r;have hd:(eV 0 ((cs.length:π):ν).toNat)[j]?=some d:=hd;obtain⟨_,e3⟩:=dw hd;rw[e3]at e1;have e1:(0:ν)+((j:π):ν)=0+((m:π):ν):=D.int.inj e1;obtain rfl:j=m:=(by lia);rw[a]at e2;cases e2;exact h
 exact{_,out,rfl,.inl aa,S,.new s,q out hw}
abbrev Kn:=δ<|ρ×δ D
noncomputable def d_(kn:Kn):δ (Key×D):=kn.map λr=>(Sum.inr r.1,D.tup r.2)
noncomputable def eG(kn:Kn)(z:ρ):θ (δ D):=(kn.find? λr=>ω<|r.1=z).map (·.2)
structure KI(cs:δ (ρ×ρ))(kn:Kn):η where
 nd:(kn.map (·.1)).Nodup
 ok:∀r∈kn,r.1∈KS/\Wg cs r.2
theorem bQ:eG (r::kn) k=if r.1=k then some r.2 else eG kn k:=by unfold eG;rw[yd];by_cases h:r.1=k;rw[zx h,qb h];rfl;rw[zw h,qa h]
theorem km(kn:Kn)(k:ρ):bN (d_ kn) (.inr k)=(eG kn k).map D.tup:=by induction kn with|nil=>rfl|cons r kn a=>rw[bQ];unfold bN d_ at *;rw[zA,yd];by_cases h:r.1=k;have:ω ((Sum.inr r.1:Key)=.inr k)=ϱ:=zx (by rw[h]);dsimp only;rw[this,qb h];rfl;have:ω ((Sum.inr r.1:Key)=.inr k)=ϰ:=zw λe=>h<|yV e;dsimp only;rw[this,qa h];exact a
theorem i9(h:eG kn k=ϑ ws):(k,ws)∈kn:=by induction kn with|nil=>(cases h)|cons r kn a=>rw[bQ]at h;by_cases hk:r.1=k;rw[qb hk]at h;cases h;rw[<-hk];exact zq;rw[qa hk]at h;exact zg _<|a h
theorem ko(h:k∈kn.map (·.1)):∃ws,eG kn k=ϑ ws:=by induction kn with|nil=>(cases h)|cons r kn a=>rw[bQ];by_cases hk:r.1=k;exact{r.2,qb hk};rw[qa hk];rw[zA]at h;rcases zj.mp h with e|h;exact absurd e.symm hk;exact a h
theorem sub_len[DecidableEq α]:∀{l m:δ α},l.Nodup->(∀x∈l,x∈m)->l.length<=m.length|[],m,_,_=>yb _|a::l,m,nd,h=>by obtain⟨n1,n2⟩:=yr.mp nd;have h1:=sub_len (m:=m.erase a) n2 λx hx=>(List.mem_erase_of_ne λe=>n1<|by rw[<-e];exact hx).mpr<|h x<|zg _ hx;have h2:=List.length_erase_of_mem<|h a zq;have c:0<m.length:=List.length_pos_of_mem<|h a zq;rw[zR];omega
theorem KI.len(h:KI cs kn):kn.length<=60:=by
 have:=sub_len h.nd (m:=KS) λx hx=>by obtain⟨r,hr,rfl⟩:=zh.mp hx;exact(h.ok r hr).1
 rw[zb]at this;exact zH this<|by trivial
noncomputable def ir(kn:Kn)(z:ρ)(ws:δ D):Kn:=if (eG kn z).isSome then kn.map λr=>if r.1=z then (r.1,ws) else r else kn++[(z,ws)]
noncomputable def pq(kn:Kn)(z:ρ):Kn:=kn.filter λr=>ω<|r.1≠z
theorem xw(kn:Kn)(z:ρ)(ws:δ D):dput (d_ kn) (.inr z) (.tup ws)=d_ (ir kn z ws):=by
 unfold dput ir;have e:((d_ kn).any λc=>ω<|c.1=.inr z)=(eG kn z).isSome:=by induction kn with|nil=>rfl|cons r kn a=>unfold d_ at *;rw[zA,yX,a,bQ];by_cases h:r.1=z;rw[qb h,zx<|by rw[h],Bool.true_or];rfl;rw[qa h,zw λe=>h<|yV e,Bool.false_or]
 rw[e];split;unfold d_;rw[zy,zy];refine zX λr _=>?_;dsimp only[Function.comp];by_cases h:r.1=z;rw[qb h,qb<|by rw[h]];rw[qa h,qa λe=>h<|yV e];unfold d_;rw[zI];rfl
theorem J5(kn:Kn)(z:ρ):AB (d_ kn) (.inr z)=d_ (pq kn z):=by unfold AB pq d_;rw[List.filter_map];congr 1;refine List.filter_congr λr _=>?_;dsimp only[Function.comp];rw[decide_eq_decide];exact{λh e=>h<|by rw[e],λh e=>h<|yV e}
theorem Nl:eG (ir kn z ws) k=if k=z then some ws else eG kn k:=by
 unfold ir;by_cases a:(eG kn z).isSome=ϱ;rw[qb a];by_cases hk:k=z;subst hk;rw[qb rfl];induction kn with|nil=>(cases a)|cons r rs c=>rw[zA,bQ];by_cases h:r.1=k;rw[qb h,qb h];rw[qa h,qa h];rw[bQ,qa h]at a;exact c a
 rw[qa hk];clear a;induction kn with|nil=>rfl|cons r rs c=>rw[zA,bQ,bQ,c];by_cases h:r.1=z;rw[qb h,qa<|show ¬r.1=k from λe=>hk<|e.symm.trans h,qa<|show ¬r.1=k from λe=>hk<|e.symm.trans h];rw[qa h]
 rw[qa a];have hn:eG kn z=ϐ:=by cases e:eG kn z<;>simp_all
 clear a;induction kn with|nil=>rw[List.nil_append,bQ];by_cases hk:k=z;rw[qb hk,qb hk.symm];rw[qa hk,qa λe=>hk e.symm]|cons r rs c=>rw[bQ]at hn;by_cases h:r.1=z;rw[qb h]at hn;cases hn;rw[qa h]at hn;rw[List.cons_append,bQ,bQ,c hn];by_cases h2:r.1=k;rw[qb h2,qb h2,qa<|show ¬k=z from λe=>h<|h2.trans e];rw[qa h2,qa h2]
theorem Nm:eG (pq kn z) k=if k=z then none else eG kn k:=by unfold pq;induction kn with|nil=>(split<;>rfl)|cons r kn a=>rw[yT,bQ];by_cases h:r.1=z;rw[qa<|by simp[h],a];by_cases hk:k=z;rw[qb hk,qb hk];rw[qa hk,qa hk,qa<|show ¬r.1=k from λe=>hk<|e.symm.trans h];rw[qb<|by simp[h],bQ,a];by_cases hk:k=z;rw[qb hk,qb hk,qa<|show ¬r.1=k from λe=>h<|e.trans hk];rw[qa hk,qa hk]
set_option tactic.hygienic true in
theorem KI.put(h:KI cs kn)(hz:z∈KS)(hw:Wg cs ws):KI cs (ir kn z ws):=by
 unfold ir;split;refine{?_,λr hr=>?_};have:(kn.map λr=>if r.1=z then (r.1,ws) else r).map (·.1)=kn.map (·.1):=by rw[zy];exact zX λr _=>by dsimp only[Function.comp];split<;>rfl
 rw[this];exact h.nd;obtain⟨r0,a,e⟩:=zh.mp hr;by_cases q:r0.1=z;rw[qb q]at e;subst e;exact{(h.ok r0 a).1,hw};rw[qa q]at e;subst e;exact h.ok r0 a;rename_i hs;refine{?_,λr hr=>?_};rw[zI];refine mx h.nd λm=>hs ?_;obtain⟨c,e⟩:=ko m;show(eG kn z).isSome=ϱ;rw[show eG kn z=ϑ c from e];rfl;rcases zO.mp hr with hr|hr;exact h.ok r hr;rw[zL.mp hr];exact⟨hz,hw⟩
theorem KI.del(h:KI cs kn)(z:ρ):KI cs (pq kn z):={(List.Sublist.map _ yN).nodup h.nd,λr hr=>h.ok r (ye.mp hr).1}
def GD(ks:δ ρ)(cs:δ<|ρ×ρ)(kn:Kn)(d:D):Prop:=(∃z ws,z∈ks/\Wg cs ws/\eG kn z=ϐ/\d=.tup [.str "put",.str z,.tup ws])\/(∃z ws,z∈KS/\Wg cs ws/\(eG kn z).isSome=ϱ/\d=.tup [.str "change",.str z,.tup ws])\/∃z,z∈KS/\(eG kn z).isSome=ϱ/\d=.tup [.str "take",.str z]
def Ly(S:ak)(n:π)(d:D):Prop:=∃p,Dp S d p/\p.canLay0=ϱ/\p.depth<=n
theorem Ly.all:∀{ds:δ D},(∀d∈ds,Ly S n d)->∃ps:δ PyData,DpAll S ds ps/\PyData.canLayAll0 ps=ϱ/\PyData.depthAll ps<=n/\ps.length=ds.length|[],_=>{[],by simp only[DpAll],rfl,yb _,rfl}|d::ds,h=>by obtain⟨p,h1,h2,h3⟩:=h d zq;obtain⟨ps,c,e,g,a⟩:=Ly.all λx hx=>h x<|zg _ hx;refine{p::ps,by simp only[DpAll];exact⟨p,ps,rfl,h1,c⟩,by simp only[PyData.canLayAll0,h2,e,Bool.and_self],by simp only[PyData.depthAll];lia,by rw[zR,zR,a]}
theorem Ly.tup{S:ak}{n:π}{ds:δ D}(h:∀d∈ds,Ly S n d):Ly S (n+1) (.tup ds):=by obtain⟨ps,a,c,e,_⟩:=Ly.all h;exact{.tuple ps,by simp only[Dp];exact⟨ps,rfl,a⟩,by simp only[PyData.canLay0];exact c,by simp only[PyData.depth];lia}
theorem Ly.str(h:PyData.strOk z=ϱ):Ly S 0 (.str z):={.str z,by simp only[Dp],by simp only[PyData.canLay0];exact h,by simp only[PyData.depth];lia}
theorem Ly.le(h:Ly S n d)(l:n<=m):Ly S m d:=by obtain⟨p,a,b,c⟩:=h;exact{p,a,b,zH c l}
theorem Ly.ay:Ly S 0 .ay:={.none,by simp only[Dp],by simp only[PyData.canLay0],by simp only[PyData.depth];lia}
theorem Ly.plain(h:bc d=ϱ):Ly S 0 d:=by cases d with|ay=>exact Ly.ay|int i=>exact{.int i,by simp only[Dp],by simp only[PyData.canLay0],by simp only[PyData.depth];lia}|str z=>have h:(ω (z.cps.size<=40)&&PyData.strOk z)=ϱ:=h;rw[zJ]at h;exact Ly.str h.2|_=>cases h
theorem Ly.dl(h:Ly S n d):∃p,Dl S d p/\p.canLay0=ϱ/\p.depth<=n:=by obtain⟨p,a,b,c⟩:=h;refine{p,?_,b,c};cases d with|ref x=>simp only[Dp]at a|_=>exact a
theorem eq_self(h:Ly S 64 d)(q:R (.bl<|!neg) S):HJ neg d d S R:=by
 obtain⟨p,a,b,c⟩:=h.dl;have e:(if neg then !PyData.eqv p p else PyData.eqv p p)=!neg:=by rw[SeqAt.eqv_refl p b];cases neg<;>rfl
 have g:∃p q,Dl S d p/\Dl S d q/\p.canLay0=ϱ/\q.canLay0=ϱ/\(p.depth<=64\/q.depth<=64)/\R (.bl<|if neg then !PyData.eqv p q else PyData.eqv p q) S:={p,p,a,a,b,b,.inl c,by rw[e];exact q};cases d with|int i=>(show R (.bl<|if neg then !decide (i=i) else ω (i=i)) S;rw[zx rfl];cases neg<;>exact q)|str i=>(show R (.bl<|if neg then !decide (i=i) else ω (i=i)) S;rw[zx rfl];cases neg<;>exact q)|_=>exact g
theorem tG(ps:δ PyData):PyData.eqv (.list ps) (.list [])=ps.isEmpty:=by cases ps<;>simp[PyData.eqv,PyData.eqvAll]
theorem J6(ps:δ PyData):PyData.eqv (.tuple ps) (.tuple [])=ps.isEmpty:=by cases ps<;>simp[PyData.eqv,PyData.eqvAll]
theorem eq_nil{S:ak}{a b:ε}{ds:δ D}{R:KD}(e1:S a=ϑ (.lst ds))(e2:S b=ϑ (.lst []))(h:∀d∈ds,Ly S 60 d)(q:R (.bl ds.isEmpty) S):HJ false (.ref a) (.ref b) S R:=by obtain⟨ps,e,g,i,c⟩:=Ly.all h;refine{.list ps,.list [],⟨ds,ps,e1,rfl,e⟩,{[],[],e2,rfl,by simp only[DpAll]},by simp only[PyData.canLay0];exact g,by simp only[PyData.canLay0,PyData.canLayAll0],.inl<|by simp only[PyData.depth];lia,?_};rw[qa zd,tG,show ps.isEmpty=ds.isEmpty by cases ps<;>cases ds<;>first|rfl|cases c];exact q
theorem Nn{S:ak}{ds:δ D}{R:KD}(h:∀d∈ds,Ly S 60 d)(q:R (.bl ds.isEmpty) S):HJ false (.tup ds) (.tup []) S R:=by obtain⟨ps,c,e,g,a⟩:=Ly.all h;refine{.tuple ps,.tuple [],by simp only[Dl,Dp];exact⟨ps,rfl,c⟩,by simp only[Dl,Dp];exact{[],rfl,by simp only[DpAll]},by simp only[PyData.canLay0];exact e,by simp only[PyData.canLay0,PyData.canLayAll0],.inl<|by simp only[PyData.depth];lia,?_};rw[qa zd,J6,show ps.isEmpty=ds.isEmpty by cases ps<;>cases ds<;>first|rfl|cases a];exact q
theorem Wg.all(h:Wg cs ws):∀d∈ws,bc d=ϱ:=by unfold Wg at h;induction h with|nil=>exact λ_ h=>(nomatch h)|cons r t a=>intro d hd;rcases zj.mp hd with e|hd;rw[e];exact r.2;exact a d hd
theorem Wg.ly{cs:δ<|ρ×ρ}{ws:δ D}(h:Wg cs ws){S:ak} : Ly S 1 (.tup ws):=Ly.tup λd hd=>Ly.plain<|h.all d hd
def Mo(sp:qY):qY:=λds S R Z=>∃R0 Z0,sp ds S R0 Z0/\(∀d S',R0 d S'->R d S')/\∀C S',Z0 C S'->Z C S'
theorem R8{P:Ψ}{w:Ω}{K:Φ}{mg:ρ->θ ξ}{base:Γ}{k:π}{f:ε}{fd:FuncData}{ps:δ ρ}{sp:qY}(F:bS P w K mg base (f_ P w mg) k f fd ps<|ud K sp):bS P w K mg base (f_ P w mg) k f fd ps (ud K<|Mo sp):=F.imp<|by rintro vs H Q E ⟨ds,S,R,Z,v,a,⟨g,c,h,h1,h2⟩,e,i⟩;exact{ds,S,g,c,v,a,h,λd S' u H' r=>e d S' u H'<|h1 _ _ r,λC S' H' z=>i C S' H'<|h2 _ _ z}
abbrev O6:=kj
abbrev Bf:=fY
abbrev J_:=i7
def KnD(kn:Kn)(d:D)(eZ:Kn):Prop:=(∃(n:ρ) (z:ρ) (ws:δ D),(n ="put"\/n ="change")/\d=.tup [.str n,.str z,.tup ws]/\eZ=ir kn z ws)\/∃z,(eG kn z).isSome=ϱ/\d=.tup [.str "take",.str z]/\eZ=pq kn z
inductive DJ (t:gY) (ds:δ D) (S:ak) (R:KD) (Z:KX):η where
 |mk (a fs) (_:S a=ϑ (.ins t.ar fs)) (_:fs.map Prod.fst=(["columns","deeds","runs"]:δ ρ)) (_:((∃k v,ds=[.ref a,.tup [.str "put",k,v]]/\O6 t [.ref a,k,v] S R Z)\/(∃k v,ds=[.ref a,.tup [.str "change",k,v]]/\Bf t [.ref a,k,v] S R Z)\/∃k,ds=[.ref a,.tup [.str "take",k]]/\J_ t [.ref a,k] S R Z))
theorem lk0:∀{fs:δ (ρ×D)},m∉fs.map Prod.fst->fs.lookup m=ϐ|[],_=>rfl| (a,b)::fs,h=>by rw[zA,zj]at h;rw[yk,show(m==a)=ϰ from beq_false_of_ne λe=>h<|.inl e];exact lk0 λq=>h<|.inr q
theorem lk3{fs:δ<|ρ×D}(h:fs.map Prod.fst=(["columns","deeds","runs"]:δ ρ)){m:ρ}(hm:m∉(["columns","deeds","runs"]:δ ρ)):fs.lookup m=ϐ:=lk0<|by rw[h];exact hm
def Dd3(d:D):Prop:=(∃k v,d=.tup [.str "put",k,v])\/(∃k v,d=.tup [.str "change",k,v])\/∃k,d=.tup [.str "take",k]
inductive nq (ds:δ D) (S:ak) (R:KD) (Z:KX):η where
 |mk (d) (_:ds=[d]) (_:Dd3 d) (_:R .ay S)
theorem gT(T:Txt w K mg t):Ok P w base T.fQ 1 nq:=by refine T.fQ.F.b_ uE ?_;obtain⟨d,e,hd,q⟩;refine{_,(sc (si (twd<|twor (cJ<|tv<|cb cB T.aw ao<|ap 0<|ac (qy T.bz aZ) an)<|twor (aR aK hr.u (cb ba T.aX aI<|ap 0 an) di)<|tw1<|cJ<|tv<|cb cB T.aw ao<|ac (ix hr.u (dv 0) di)<|ac (qy T.mQ iH) an) (s1 z_) s0)<|s1<|si (aR g9 hr.u (mgk T.qF (by decide) (gK T.oN)<|ix hr.u (dv 0) di)<|cb ba T.aX aI<|ap 0 an) (s1 z_) s0),?_};rcases hd with⟨k,v,rfl⟩|⟨k,v,rfl⟩|⟨k,rfl⟩;exact !{_,_,_,_,rfl,aE,rfl,_,rfl,aL !!!⟨kK rfl !!{_,_,_,_,rfl,bM,rfl,_,rfl,aL !!!!!!⟨kK rfl<|fo q⟩}⟩};exact !{_,_,_,_,rfl,aE,rfl,_,rfl,aL !!!⟨kK rfl !!{_,_,_,_,rfl,bM,rfl,_,rfl,aL !!!!!!⟨kK rfl<|fo q⟩}⟩};exact !{_,_,_,_,rfl,aE,rfl,_,rfl,aL !!!⟨kK rfl !!{_,_,_,_,rfl,bM,rfl,_,rfl,aL !!!!!!⟨kK rfl<|fo q⟩}⟩}
def O7(t:gY):qY:=λds S R Z=>DJ t ds S (λ_=>R .ay) Z
theorem Np(T:Txt w K mg t):Ok P w base T.rh 7 (O7 t):=by have i:vk P w mg base T.fz 6 (Mo<|O6 t):=R8<|RX T;have g:vk P w mg base T.c8 6 (Mo<|Bf t):=R8<|Ha T;have c:vk P w mg base T.eL 6 (Mo<|J_ t):=R8<|Nf T;refine T.rh.F.ok Dj (by rintro ds S R Z ⟨_,_,_,_,h⟩;rcases h with⟨_,_,e,_⟩|⟨_,_,e,_⟩|⟨_,e,_⟩<;>rw[e]<;>rfl) ?_;rintro gv A outer s H E ds S R Z hr ⟨a,fs,ha,hf,h⟩;rcases h with⟨k,v,e,h⟩|⟨k,v,e,h⟩|⟨k,e,h⟩;subst e;refine{_,(sc (se<|aU T.fQ (gT T) hr<|ap 1 an)<|s1<|si (aR aK hr.u (ix hr.u (dv 1) di) ds) (s1<|se<|q9 (dv 0) T.aq T.fz i hr<|ac (ix hr.u (dv 1) di)<|ac (ix hr.u (dv 1) di) an)<|s1<|si (aR aK hr.u (ix hr.u (dv 1) di) ds) (s1<|se<|q9 (dv 0) T.aq T.c8 g hr<|ac (ix hr.u (dv 1) di)<|ac (ix hr.u (dv 1) di) an)<|s1<|se<|q9 (dv 0) T.aq T.eL c hr<|ac (ix hr.u (dv 1) di) an),?_};refine !!{.inl ⟨k,v,rfl⟩,?_};refine !!!⟨?_⟩;refine bC (λ_=>?_) λh=>absurd h (by decide);exact !{a,_,rfl,ha,lk3 hf<|by decide,_,rfl,_,rfl,_,rfl,_,rfl,λ_=>R .ay,Z,h,λd S' r=>fo r,λC S' z=>fo z};subst e;refine{_,(sc (se<|aU T.fQ (gT T) hr<|ap 1 an)<|s1<|si (aR aK hr.u (ix hr.u (dv 1) di) ds) (s1<|se<|q9 (dv 0) T.aq T.fz i hr<|ac (ix hr.u (dv 1) di)<|ac (ix hr.u (dv 1) di) an)<|s1<|si (aR aK hr.u (ix hr.u (dv 1) di) ds) (s1<|se<|q9 (dv 0) T.aq T.c8 g hr<|ac (ix hr.u (dv 1) di)<|ac (ix hr.u (dv 1) di) an)<|s1<|se<|q9 (dv 0) T.aq T.eL c hr<|ac (ix hr.u (dv 1) di) an),?_};refine !!{.inr<|.inl ⟨k,v,rfl⟩,?_};refine !!!⟨?_⟩;refine bC (λh=>absurd h<|by decide) λ_=>?_;refine !!!⟨?_⟩;refine bC (λ_=>?_) λh=>absurd h (by decide);exact !{a,_,rfl,ha,lk3 hf<|by decide,_,rfl,_,rfl,_,rfl,_,rfl,λ_=>R .ay,Z,h,λd S' r=>fo r,λC S' z=>fo z};subst e;refine{_,(sc (se<|aU T.fQ (gT T) hr<|ap 1 an)<|s1<|si (aR aK hr.u (ix hr.u (dv 1) di) ds) (s1<|se<|q9 (dv 0) T.aq T.fz i hr<|ac (ix hr.u (dv 1) di)<|ac (ix hr.u (dv 1) di) an)<|s1<|si (aR aK hr.u (ix hr.u (dv 1) di) ds) (s1<|se<|q9 (dv 0) T.aq T.c8 g hr<|ac (ix hr.u (dv 1) di)<|ac (ix hr.u (dv 1) di) an)<|s1<|se<|q9 (dv 0) T.aq T.eL c hr<|ac (ix hr.u (dv 1) di) an),?_};refine !!{.inr<|.inr ⟨k,rfl⟩,?_};refine !!!⟨?_⟩;refine bC (λh=>absurd h<|by decide) λ_=>?_;refine !!!⟨?_⟩;refine bC (λh=>absurd h<|by decide) λ_=>?_;exact !{a,_,rfl,ha,lk3 hf<|by decide,_,rfl,_,rfl,λ_=>R .ay,Z,h,λd S' r=>fo r,λC S' z=>fo z}
noncomputable def p3(p:ρ×ρ×ρ):D:=.tup [.str p.1,.str p.2.1,.str p.2.2]
noncomputable def pz(z:ρ):Bool:=ω (z ="up")||ω (z ="down")
noncomputable def Ka(z:ρ):Bool:=ω (z ="first")||ω (z ="last")
theorem O8(z a b:ρ)(x y:V):(([(a,x),(b,y)]:δ (ρ×V)).lookup z).isSome=(ω (z=a)||ω (z=b)):=by rw[yk,yk];by_cases h:z=a;rw[show(z==a)=ϱ by simp[h],zx h];rfl;rw[show(z==a)=ϰ by simp[h],zw h];by_cases h2:z=b;rw[show(z==b)=ϱ by simp[h2],zx h2];rfl;rw[show(z==b)=ϰ by simp[h2],zw h2];rfl
noncomputable def Ff(cs:δ<|ρ×ρ)(p:ρ×ρ×ρ):Bool:=ω (p.1∈cs.map Prod.fst)&&(pz p.2.1&&Ka p.2.2)
noncomputable def Kb(cs:δ<|ρ×ρ)(ps:δ<|ρ×ρ×ρ)(wy:ρ):Bool:=ω (ps.length<=8)&&(ps.all (Ff cs)&&(ω ((ps.map Prod.fst).Nodup)&&pz wy))
theorem xx(l:δ<|ρ×D)(z:ρ)(h:bN (sF l) (.inr z)=ϑ d):∃p∈l,p.1=z/\d=p.2:=by
 have all:∀(l:δ (ρ×D))(c:δ (Key×D)),bN (l.foldl (λc p=>dput c (.inr p.1) p.2) c) (.inr z)=ϑ d->(∃p∈l,p.1=z/\d=p.2)\/bN c (.inr z)=ϑ d:=by intro l;induction l with|nil=>intro c h;exact .inr h|cons p l a=>intro c h;rcases a _ h with⟨q,g,e⟩|h;exact .inl {q,zg _ g,e};rw[AK]at h;by_cases e:(.inr z:Key)=.inr p.1;rw[qb e]at h;exact .inl {p,zq,(yV e).symm,(zT h).symm};rw[qa e]at h;exact .inr h
 rcases all l [] h with h|h;exact h;cases h
def Pok(p:ρ×ρ×ρ):Prop:=p.1.cps.size<=1000/\p.2.1.cps.size<=1000/\p.2.2.cps.size<=1000
inductive Bg (ds:δ D) (S:ak) (R:KD) (Z:KX):η where
 |mk (z) (_:ds=[.str z]) (_:R (.bl<|pz z) S)
theorem vI(T:Txt w K mg t):Ok P w base T.w4 1 Bg:=by refine T.w4.F.b_ G0 ?_;obtain⟨z,e,q⟩;refine{_,(s1<|sr<|qz (cb cB T.aw ao<|ap 0<|ac (qy T.mQ iH) an)<|HI<|cmk T.A1 (dv 0)<|dg (v:=.ref t.jP) T.wR rfl λ_=>jJ _),?_};refine !{_,_,_,_,rfl,bM,rfl,_,rfl,cj !{z,rfl,rfl,?_}};rw[O8];exact fo q
inductive Bh (ds:δ D) (S:ak) (R:KD) (Z:KX):η where
 |mk (z) (_:ds=[.str z]) (_:R (.bl<|Ka z) S)
theorem Hg(T:Txt w K mg t):Ok P w base T.C_ 1 Bh:=by refine T.C_.F.b_ G1 ?_;obtain⟨z,e,q⟩;refine{_,(s1<|sr<|qz (cb cB T.aw ao<|ap 0<|ac (qy T.mQ iH) an)<|HI<|cmk T.A2 (dv 0)<|dg (v:=.ref t.jQ) T.wU rfl λ_=>jJ _),?_};refine !{_,_,_,_,rfl,bM,rfl,_,rfl,cj !{z,rfl,rfl,?_}};rw[O8];exact fo q
inductive nr (ds:δ D) (S:ak) (R:KD) (Z:KX):η where
 |mk (cs z) (_:ds=[.tup<|cs.map aA,.str z]) (_:Gd cs) (_:z.cps.size<=1000) (_:(∀k,(z,k)∈cs->R (.str k) S)) (_:(z∉cs.map Prod.fst->R .ay S))
theorem lJ(T:Txt w K mg t):Ok P w base T.fN 3 nr:=by
 refine T.fN.F.b_ uC ?_;obtain⟨cs,z,e,hg,hz,j,g⟩;refine{_,(sc (si (cJ<|tv<|aU T.rf (s9 T) hr<|ap 1 an) (s1<|sr dn) s0)<|s1<|sr<|mg1 hr.u (ct Rl T.RT Mh<|ap 0 an)<|dv 1),?_};refine !{.str z,rfl,gt_str hz,_,rfl,?_};refine bC (λh=>?_) λh=>?_;have h:m9 z=ϰ:=nt h;refine fo<|g λm=>?_;obtain⟨c,a,rfl⟩:=zh.mp m;rw[(hg.2.2 c a).1]at h;cases h;have l:cs.map aA=(cs.map λc=>(c.1,D.str c.2)).map Jm:=by rw[zy];rfl
 refine !{(cs.map λc=>(c.1,D.str c.2)),by rw[l],λp hp=>{p,_,rfl,aa,_,rfl,_,.inr z,aa,rfl,S,.new hp,?_}};have h1:=GK (cs.map λc=>(c.1,D.str c.2)) z;cases i:bN (sF<|cs.map λc=>(c.1,D.str c.2)) (.inr z) with|none=>(rw[i]at h1;refine g λm=>?_;obtain⟨c,a,e⟩:=zh.mp m;have:(cs.map λc=>(c.1,D.str c.2)).any (λp=>ω<|p.1=z)=ϱ:=yx.mpr {_,zh.mpr ⟨c,a,rfl⟩,zx e};rw[this]at h1;cases h1)|some d=>obtain⟨p,hp,e1,rfl⟩:=xx _ _ i;obtain⟨c,a,rfl⟩:=zh.mp hp;have e1:c.1=z:=e1;exact j c.2<|by rw[<-e1];exact a
inductive vJ (ds:δ D) (S:ak) (R:KD) (Z:KX):η where
 |mk (cs p) (_:ds=[.tup<|cs.map aA,p3 p]) (_:Gd cs) (_:Pok p) (_:R (.bl<|Ff cs p) S)
theorem DK(T:Txt w K mg t):Ok P w base T.w5 4 vJ:=by
 have a:Ok P w base T.fN 3 (λds S R _=>∃cs z,ds=[.tup<|cs.map aA,.str z]/\Gd cs/\z.cps.size<=1000/\∀d,ah d=!decide (z∈cs.map Prod.fst)->R d S):=(lJ T).Wk <| by rintro ds S R Z ⟨cs,z,e,hg,hz,q⟩;exact{cs,z,e,hg,hz,λk hk=>q _<|by rw[zx<|zh.mpr {_,hk,rfl}];rfl,λhn=>q _<|by rw[zw hn];rfl}
 refine T.w5.F.b_ Di ?_;obtain⟨cs,p,e,hg,hp,q⟩;refine{_,(sc (si (twd<|twor (cJ<|tv<|cb cB T.aw ao<|ap 1<|ac (qy T.bz aZ) an)<|tw1<|aR g9 hr.u (cb ba T.aX aI<|ap 1 an) di) (s1<|sr db) s0)<|s1<|sr<|qz (cm dJ hr.u (aU T.fN a hr<|ap 0<|ac (ix hr.u (dv 1) di) an) dn)<|qz (aU T.w4 (vI T) hr<|ac (ix hr.u (dv 1) di) an)<|HI<|aU T.C_ (Hg T) hr<|ac (ix hr.u (dv 1) di) an),?_};refine !{_,_,_,_,rfl,aE,rfl,_,rfl,aL !!!⟨aL ?_⟩};refine !!!{cs,p.1,rfl,hg,hp.1,λd hd=>!⟨?_⟩};unfold Ff at q;refine bC (λh=>?_) λh=>?_;have h:(!ah d)=ϱ:=h;rw[hd,Bool.not_not]at h;rw[h,yp]at q;refine !!{p.2.1,rfl,_,rfl,?_};refine bC (λh2=>?_) λh2=>?_;rw[h2,yp]at q;exact !!{p.2.2,rfl,fo q};rw[h2,zY]at q;exact fo q;have h:(!ah d)=ϰ:=h;rw[hd,Bool.not_not]at h;rw[h,zY]at q;exact fo q
inductive lK (ds:δ D) (S:ak) (R:KD) (Z:KX):η where
 |mk (cs ps wy) (_:ds=[.tup<|cs.map aA,.tup [.tup<|ps.map p3,.str wy]]) (_:Gd cs) (_:(∀p∈ps,Pok p)) (_:Kb cs ps wy=ϱ) (_:R .ay S)
theorem tH(T:Txt w K mg t):Ok P w base T.jX 5 lK:=by refine T.jX.F.b_ fT ?_;obtain⟨cs,ps,wy,e,hg,hp,g,q⟩;have c:(ps.map p3).length=ps.length:=zb _;unfold Kb at g;simp only[zJ,zP,zZ]at g;obtain⟨m,ha,hn,hw⟩:=g;refine{_,(sc (si (twd<|twor (cJ<|tv<|cb cB T.aw ao<|ap 1<|ac (qy T.bz aZ) an)<|tw1<|aR g9 hr.u (cb ba T.aX aI<|ap 1 an) di) (s1 z_) s0)<|sc (bR (i:=2) fT.nd<|ix hr.u (dv 1) di)<|sc (si (twd<|twor (cJ<|tv<|cb cB T.aw ao<|ap 2<|ac (qy T.bz aZ) an)<|tw1<|aR qA hr.u (cb ba T.aX aI<|ap 2 an)<|dg (v:=.int 8) T.jT {_,rfl} λ_=>aN _) (s1 z_) s0)<|sc (si (cJ<|tv<|cb jL T.jV fF<|ac (y_ (N:=["part","columns"]) (src:=[none,some 0]) (lR lG) (HM<|dv 2) qZ<|aU T.w5 (DK T) hr<|ap 1<|ap 0 an) an) (s1 z_) s0)<|sc (uA (N:=["part"]) (src:=[none]) 3 fT.nd (lR lG) (HM<|dv 2) qZ<|ix hr.u (dv 0) di)<|sc (si (aR g9 hr.u (lse (dv 3) T.aX T.OW)<|cb ba T.aX aI<|ap 3 an) (s1 z_) s0)<|s1<|si (cJ<|tv<|aU T.w4 (vI T) hr<|ac (ix hr.u (dv 1) di) an) (s1 z_) s0),?_};refine !{_,_,_,_,rfl,aE,rfl,_,rfl,aL !!!⟨aL ?_⟩};refine !!!{_,_,_,_,rfl,aE,rfl,_,rfl,aL !!!⟨bI ?_<|zw<|by rw[c];lia⟩};refine !{_,.inl rfl,?_};refine comp_map (λ_=>.bl true) trivial (by show(ps.map p3).length<=_;lia) (λd hd Q a=>?_) λp l=>?_;obtain⟨p,h,rfl⟩:=zh.mp hd;refine !!{cs,p,rfl,hg,hp p h,?_};rw[ha p h];exact a;rw[show({ps.map p3,λ_=>True}:n8).xs.map (λ_=>D.bl true)=(ps.map λ_=>true).map D.bl by show(ps.map p3).map _=_;rw[zy,zy];rfl];refine{.ref p,ps.map λ_=>true,rfl,aa,_,rfl,?_};rw[show(ps.map λ_=>true).all id=ϱ by rw[all_map];exact zZ.mpr λ_ _=>rfl];refine aL !{_,.inl rfl,?_};refine comp_map (λd=>match d with|.tup (x::_)=>x|_=>.ay) trivial (by show(ps.map p3).length<=_;lia) (λd hd Q a=>?_) λp2 j=>?_;obtain⟨p,h,rfl⟩:=zh.mp hd;exact !!⟨a⟩;rw[show({ps.map p3,λ_=>True}:n8).xs.map (λd=>match d with|.tup (x::_)=>x|_=>.ay)=(ps.map Prod.fst).map D.str by show(ps.map p3).map _=_;rw[zy,zy];rfl];refine !{ps.map Prod.fst,aa,by rw[zb];lia,_,rfl,_,rfl,.inl {_,aa,_,rfl,bI ?_ ?_}};refine !!{wy,rfl,_,rfl,?_};rw[hw];exact aL {S,(Sub.new l).trans<|.new j,q};rw[qb rfl,zx<|by rw[(ve _).mpr hn,zb,zb,zb],Bool.not_true]
def xA(o:ρ)(c:ρ×ρ)(v:D):Prop:=o ="is"\/(v≠.ay/\(o ="below"\/o ="above"\/(o ="begins"/\c.2 ="word")))
def Lf(cs:δ<|ρ×ρ)(d:D):Prop:=d=.tup [.str "every"]\/(∃ks:δ ρ,d=.tup [.str "key",.tup<|ks.map .str]/\ks.length<=8/\∀k∈ks,k∈KS)\/∃(o:ρ) (c:ρ×ρ) (v:D),c∈cs/\Vg c.2 v/\xA o c v/\d=.tup [.str o,.str c.1,v]
def Sg(cs:δ<|ρ×ρ):π->D->η|0,_=>False|n+1,d=>Lf cs d\/(∃e,d=.tup [.str "not",e]/\Sg cs n e)\/∃(o:ρ) (ds:δ D),(o ="and"\/o ="or")/\d=.tup [.str o,.tup ds]/\ds.length<=8/\∀e∈ds,Sg cs n e
theorem Kc(h:Vg k v):Gt S v:=by have h:=h.2;cases v with|ay=>(exact{{_,rfl},λz e=>by cases e})|int i=>(exact{{_,rfl},λz e=>by cases e})|str z=>unfold bc at h;simp only[zJ,zP]at h;exact gt_str (by lia)|_=>cases h
noncomputable def nv:D->δ D|.tup [.str o,.tup ds]=>(if o ="not" then[.tup ds] else if o ="and"\/o ="or" then ds else[])|.tup [.str o,e]=>(if o ="not" then[e] else[])|_=>[]
noncomputable def qj:π->D->π|0,_=>0|n+1,d=>((nv d).map<|qj n).sum+1
theorem xB(e:D):nv (.tup [.str "not",e])=[e]:=by cases e<;>rfl
theorem xC{o:ρ}(h:o ="and"\/o ="or")(ds:δ D):nv (.tup [.str o,.tup ds])=ds:=by rcases h with rfl|rfl<;>rfl
def Sq(cs:δ<|ρ×ρ)(d:D):Prop:=Sg cs 7 d/\qj 7 d<=200
inductive iu (ds:δ D) (S:ak) (R:KD) (Z:KX):η where
 |mk (es) (_:ds=[.tup es]) (_:es.length<=8) (_:R (.bl true) S)
theorem qk(T:Txt w K mg t):Ok P w base T.dX 1 iu:=by refine T.dX.F.b_ mX ?_;obtain⟨es,e,hl,q⟩;refine{_,(s1<|sr<|qz (cb cB T.aw ao<|ap 0<|ac (qy T.bz aZ) an)<|HI<|cm lP hr.u (cb ba T.aX aI<|ap 0 an)<|dg (v:=.int 8) T.lV {_,rfl} λ_=>aN _),?_};refine !{_,_,_,_,rfl,aE,rfl,_,rfl,cj !!⟨?_⟩};have e1:ω (((es.length:π):ν)<=8)=ϱ:=zx (by lia);show Fo S (R<|.bl<|ω<|((es.length:π):ν)<=8);rw[e1];exact fo q
inductive gU (ds:δ D) (S:ak) (R:KD) (Z:KX):η where
 |mk (cs o c v) (_:ds=[.tup<|cs.map aA,.tup [.str o,.str c.1,v]]) (_:Gd cs) (_:c∈cs) (_:Vg c.2 v) (_:xA o c v) (_:R (.bl true) S)
theorem tI(T:Txt w K mg t):Ok P w base T.jZ 4 gU:=by
 refine T.jZ.F.b_ j7 ?_;obtain⟨cs,o,c,v,e,hg,d,h,ho,q⟩;have hn:∀k,(c.1,k)∈cs->k=c.2:=λk hk=>by have:=i5 hg.2.1 hk d rfl;rw[<-this]
 refine{_,(sc (bR (i:=2) j7.nd<|aU T.fN (lJ T) hr<|ap 0<|ac (ix hr.u (dv 1) di) an)<|sc (si (twd<|twor (aR gq hr.u (dv 2) dn)<|tw1<|cJ<|tv<|aU T.mT (pZ T) hr<|ap 2<|ac (ix hr.u (dv 1) di) an) (s1<|sr db) s0)<|sc (si (aR aK hr.u (ix hr.u (dv 1) di) ds) (s1<|sr db) s0)<|sc (si (twd<|twand (aR aK hr.u (ix hr.u (dv 1) di) ds)<|tw1<|aR g9 hr.u (dv 2) ds) (s1<|sr db) s0)<|s1<|sr<|cm dJ hr.u (ix hr.u (dv 1) di) dn),?_};refine !!!{cs,c.1,rfl,hg,oZ (hg.2.2 c d).1,λk hk=>?_,λhk=>absurd (zh.mpr ⟨c,d,rfl⟩) hk};cases hn k hk;refine !!⟨aL !!!{c.2,v,rfl,Kc h,_,rfl,?_}⟩;rw[h.1];refine aL !!!⟨?_⟩;rcases ho with rfl|⟨g,ho⟩;exact jh<|fo q;have j:ah v=ϰ:=by cases v<;>first|rfl|exact absurd rfl g
 have l:(!ah v)=ϱ:=by rw[j];rfl
 have a:Fo S (R<|.bl<|!ah v):=by rw[l];exact fo q
 rcases ho with rfl|rfl|⟨rfl,hw⟩;refine bI !!!⟨bI !!⟨a⟩⟩;refine bI !!!⟨bI !!⟨a⟩⟩;refine bI !!!⟨jh !!⟨?_⟩⟩;rw[hw];exact bI !!⟨a⟩
theorem Nr(h:z∈KS):z.cps.size<=1000:=zH (i8 z h).2.1<|by decide
inductive ql (ds:δ D) (S:ak) (R:KD) (Z:KX):η where
 |mk (cs n d) (_:ds=[.tup<|cs.map aA,d]) (_:Gd cs) (_:Sg cs n d) (_:R (.bl true) S)
theorem xD(T:Txt w K mg t):Ok P w base T.oR 5 ql:=by
 refine T.oR.F.b_ xh ?_;obtain⟨cs,n,d,e,hg,j,q⟩;refine{_,(sc (si (twd<|twor (cJ<|tv<|cb cB T.aw ao<|ap 1<|ac (qy T.bz aZ) an)<|twor (aR aK hr.u (cb ba T.aX aI<|ap 1 an) di)<|tw1<|cJ<|tv<|cb cB T.aw ao<|ac (ix hr.u (dv 1) di)<|ac (qy T.mQ iH) an) (s1<|sr db) s0)<|sc (si (aR g9 hr.u (mgk T.oM (by decide) (gK T.mP)<|ix hr.u (dv 1) di)<|cb ba T.aX aI<|ap 1 an) (s1<|sr db) s0)<|sc (si (aR uy hr.u (ix hr.u (dv 1) di)<|bq<|ac ds<|ac ds<|ac ds<|ac ds an) (s1<|sr<|aU T.jZ (tI T) hr<|ap 0<|ap 1 an) s0)<|sc (si (aR aK hr.u (ix hr.u (dv 1) di) ds) (s1<|sr<|qz (aU T.dX (qk T) hr<|ac (ix hr.u (dv 1) di) an)<|HI<|cb jL T.jV fF<|ac (y_ (N:=["key"]) (src:=[none]) (lR AX) (HM<|ix hr.u (dv 1) di) qZ<|aU T.oP (kJ T) hr<|ap 0 an) an) s0)<|sc (si (aR uy hr.u (ix hr.u (dv 1) di)<|bq<|ac ds<|ac ds an) (s1<|sr<|aU T.dX (qk T) hr<|ac (ix hr.u (dv 1) di) an) s0)<|s1<|sr db),?_};cases n with|zero=>exact j.elim|succ n =>
 rcases j with (rfl|⟨ks,rfl,g,i⟩|⟨o,c,v,m,x,ho,rfl⟩)|⟨e,rfl,z⟩|⟨o,es,ho,rfl,y,_⟩;refine !{_,_,_,_,rfl,aE,rfl,_,rfl,aL !!!⟨kK rfl !!{_,_,_,_,rfl,bM,rfl,_,rfl,aL ?_}⟩};refine !!!!!!⟨kK rfl ?_⟩;exact !!{sX,rfl,rfl,_,rfl,bI !!!⟨bI !!{bY,rfl,rfl,_,rfl,bI<|fo q}⟩};refine !{_,_,_,_,rfl,aE,rfl,_,rfl,aL !!!⟨kK rfl !!{_,_,_,_,rfl,bM,rfl,_,rfl,aL ?_}⟩};refine !!!!!!⟨kK rfl ?_⟩;refine !!{sX,rfl,rfl,_,rfl,bI !!!⟨jh ?_⟩};refine !!!{by rw[zb];exact g,_,rfl,cj !!{_,.inl rfl,?_}};refine comp_map (λ_=>.bl true) trivial (by show(ks.map D.str).length<=1000;rw[zb];lia) (λd hd Q r=>?_) λp hp=>?_;obtain⟨k,hk,rfl⟩:=zh.mp hd;refine !{.str k,rfl,gt_str<|Nr<|i k hk,?_};show Q (.bl<|l4 k) S;rw[(i8 k<|i k hk).1];exact r;have e2:(ks.map D.str).map (λ_=>D.bl true)=(ks.map λ_=>true).map D.bl:=by rw[zy,zy];rfl
 have e3:(ks.map λ_=>true).all id=ϱ:=by rw[all_map];exact zZ.mpr λ_ _=>rfl
 refine{.ref p,ks.map λ_=>true,rfl,?_,S,.new hp,?_};show(S.set p<|.lst<|(ks.map D.str).map _) p=_;rw[aa,e2];rw[e3];exact q;have s:o ="is"\/o ="below"\/o ="above"\/o ="begins":=by rcases ho with h|⟨_,h|h|⟨h,_⟩⟩;exact .inl h;exact .inr<|.inl h;exact .inr<|.inr<|.inl h;exact .inr<|.inr<|.inr h
 refine !{_,_,_,_,rfl,aE,rfl,_,rfl,aL !!!⟨kK rfl !!{_,_,_,_,rfl,bM,rfl,_,rfl,aL ?_}⟩};have a:∀Zq:KX,gU [D.tup<|cs.map aA,.tup [.str o,.str c.1,v]] S (λd S'=>Fo S'<|R d) Zq:=λ_=>{cs,o,c,v,rfl,hg,m,x,ho,fo q};rcases s with rfl|rfl|rfl|rfl;exact !!!!!!⟨kK rfl !!{sX,rfl,rfl,_,rfl,jh !!⟨(a _)⟩}⟩;exact !!!!!!⟨kK rfl !!{sX,rfl,rfl,_,rfl,jh !!⟨(a _)⟩}⟩;exact !!!!!!⟨kK rfl !!{sX,rfl,rfl,_,rfl,jh !!⟨(a _)⟩}⟩;exact !!!!!!⟨kK rfl !!{sX,rfl,rfl,_,rfl,jh !!⟨(a _)⟩}⟩;refine !{_,_,_,_,rfl,aE,rfl,_,rfl,aL !!!⟨kK rfl !!{_,_,_,_,rfl,bM,rfl,_,rfl,aL ?_}⟩};refine !!!!!!⟨kK rfl ?_⟩;exact !!{sX,rfl,rfl,_,rfl,bI !!!⟨bI !!{bY,rfl,rfl,_,rfl,bI<|fo q}⟩};have l:es.length<=8:=by lia
 rcases ho with rfl|rfl;refine !{_,_,_,_,rfl,aE,rfl,_,rfl,aL !!!⟨kK rfl !!{_,_,_,_,rfl,bM,rfl,_,rfl,aL ?_}⟩};refine !!!!!!⟨kK rfl ?_⟩;exact !!{sX,rfl,rfl,_,rfl,bI !!!⟨bI !!{bY,rfl,rfl,_,rfl,jh !!!{l,fo q}}⟩};refine !{_,_,_,_,rfl,aE,rfl,_,rfl,aL !!!⟨kK rfl !!{_,_,_,_,rfl,bM,rfl,_,rfl,aL ?_}⟩};refine !!!!!!⟨kK rfl ?_⟩;exact !!{sX,rfl,rfl,_,rfl,bI !!!⟨bI !!{bY,rfl,rfl,_,rfl,jh !!!{l,fo q}}⟩}
inductive jn (ds:δ D) (S:ak) (R:KD) (Z:KX):η where
 |mk (l es cs m) (_:ds=[.ref l]) (_:S l=ϑ (.lst es)) (_:(es.flatMap nv).length<=900) (_:(∀e∈es,Sg cs (m+1) e)) (_:∀p,S p=ϐ->R (.ref p) (S.set p<|.lst<|es.flatMap nv))
theorem pA(T:Txt w K mg t):Ok P w base T.gO 1 jn:=by
 refine T.gO.F.b_ eN ?_;obtain⟨l,es,cs,m,e,hl,A,z,q⟩;refine{_,(sc (bR (i:=1) eN.nd<|bT an)<|sc (qB<|AG (il<|dv 0) (gn (i:=2) eN.nd)<|sc (qB<|si (aR aK hr.u (ix hr.u (dv 2) di) ds) (s1<|se<|bm zQ z0 ya cA (dv 1)<|ac (ix hr.u (dv 2) di) an) s0)<|s1<|si (aR uy hr.u (ix hr.u (dv 2) di)<|bq<|ac ds<|ac ds an) (s1<|se<|bm zQ PySem.F.slot_list_extend PySem.F.type_list_extend GL (dv 1)<|ac (ix hr.u (dv 2) di) an) s0)<|s1<|sr<|dv 1),?_};refine{lZ,λf hf=>?_};have x:l≠f:=gM hl hf;refine{λav S'=>∃o,av=[some<|.ref l,some<|.ref f,o]/\S'=S.set f (.lst<|es.flatMap nv),?_,?_};refine !{es,(ae x).trans hl,?_};refine{λi av S'=>∃o,av=[some<|.ref l,some<|.ref f,o]/\S'=S.set f (.lst<|(es.take i).flatMap nv),⟨none,rfl,rfl⟩,?_,?_,?_};rintro i av S' ⟨o,rfl,rfl⟩;exact(ae x).trans hl;rintro i e av S' r ⟨o,rfl,rfl⟩;have r:es[i]?=some e:=r;have s:=z e<|zD r;have n:(es.take<|i+1).flatMap nv=(es.take i).flatMap nv++nv e:=by rw[List.take_add_one,r,List.flatMap_append];simp
 have p:((es.take i).flatMap nv).length+(nv e).length<=900:=by rw[<-zo,<-n];refine zH ?_ A;(conv=>rhs;rw[<-List.take_append_drop (i+1) es,List.flatMap_append,zo]);exact Nat.le_add_right _ _
 generalize (es.take i).flatMap nv=fs at n p⊢;have j:(S.set f<|.lst fs) f=ϑ (.lst fs):=aa;have keep:nv e=[]->∃o,[some<|D.ref l,some<|D.ref f,some e]=[some<|.ref l,some<|.ref f,o]/\S.set f (.lst fs)=S.set f (.lst<|(es.take<|i+1).flatMap nv):=λh=>!⟨by rw[n,h,List.append_nil]⟩;have more:∀ds,nv e=ds->∃o,[some<|D.ref l,some<|D.ref f,some e]=[some<|.ref l,some<|.ref f,o]/\(S.set f<|.lst fs).set f (.lst<|fs++ds)=S.set f (.lst<|(es.take<|i+1).flatMap nv):=λds h=>!⟨by rw[n,h,bK]⟩;rcases s with (rfl|⟨ks,rfl,_,_⟩|⟨o,c,v,_,_,ho,rfl⟩)|⟨e',rfl,B⟩|⟨o,ds,ho,rfl,y,hd⟩;refine{λd a=>d=_/\a=S.set f (.lst fs),!!!⟨bI<|fo ⟨rfl,rfl⟩⟩,?_};rintro _ _ ⟨rfl,rfl⟩;exact !!{bY,rfl,rfl,_,rfl,bI<|keep rfl};refine{λd a=>d=_/\a=S.set f (.lst fs),!!!⟨bI<|fo ⟨rfl,rfl⟩⟩,?_};rintro _ _ ⟨rfl,rfl⟩;exact !!{bY,rfl,rfl,_,rfl,bI<|keep rfl};rcases ho with rfl|⟨_,rfl|rfl|⟨rfl,_⟩⟩;refine{λd a=>d=_/\a=S.set f (.lst fs),!!!⟨bI<|fo ⟨rfl,rfl⟩⟩,?_};rintro _ _ ⟨rfl,rfl⟩;exact !!{bY,rfl,rfl,_,rfl,bI<|keep rfl};refine{λd a=>d=_/\a=S.set f (.lst fs),!!!⟨bI<|fo ⟨rfl,rfl⟩⟩,?_};rintro _ _ ⟨rfl,rfl⟩;exact !!{bY,rfl,rfl,_,rfl,bI<|keep rfl};refine{λd a=>d=_/\a=S.set f (.lst fs),!!!⟨bI<|fo ⟨rfl,rfl⟩⟩,?_};rintro _ _ ⟨rfl,rfl⟩;exact !!{bY,rfl,rfl,_,rfl,bI<|keep rfl};refine{λd a=>d=_/\a=S.set f (.lst fs),!!!⟨bI<|fo ⟨rfl,rfl⟩⟩,?_};rintro _ _ ⟨rfl,rfl⟩;exact !!{bY,rfl,rfl,_,rfl,bI<|keep rfl};refine{λd a=>d=_/\a=(S.set f<|.lst fs).set f (.lst<|fs++[e']),!!!⟨jh !⟨{rfl,_,j},_,rfl,_,rfl,f,_,_,rfl,rfl,j,bg<|by rw[xB]at p;simp at p;omega,fo ⟨rfl,rfl⟩⟩⟩,?_};rintro _ _ ⟨rfl,rfl⟩;exact !!{bY,rfl,rfl,_,rfl,bI<|more _<|xB e'};have g:=xC ho ds;rw[g]at p;rcases ho with rfl|rfl;refine{λd a=>d=_/\a=S.set f (.lst fs),!!!⟨bI<|fo ⟨rfl,rfl⟩⟩,?_};rintro _ _ ⟨rfl,rfl⟩;exact !!{bY,rfl,rfl,_,rfl,jh !⟨{rfl,_,j},_,rfl,_,rfl,f,_,_,rfl,rfl,j,sm<|by omega,more _ g⟩};refine{λd a=>d=_/\a=S.set f (.lst fs),!!!⟨bI<|fo ⟨rfl,rfl⟩⟩,?_};rintro _ _ ⟨rfl,rfl⟩;exact !!{bY,rfl,rfl,_,rfl,jh !⟨{rfl,_,j},_,rfl,_,rfl,f,_,_,rfl,rfl,j,sm<|by omega,more _ g⟩};rintro av S' ⟨o,rfl,rfl⟩;refine fo {o,rfl,?_};rw[show({es,λS=>S l=ϑ (.lst es)}:n8).xs=es from rfl,yP];rintro av S' ⟨o,rfl,rfl⟩;exact{_,rfl,fo<|q f hf}
theorem Ke{cs:δ<|ρ×ρ}{n:π}{d:D}(h:Sg cs (n+1) d):∀f∈nv d,Sg cs n f:=by
 rcases h with (rfl|⟨ks,rfl,_,_⟩|⟨o,c,v,_,_,ho,rfl⟩)|⟨e',rfl,e⟩|⟨o,ds,ho,rfl,a,hd⟩;exact nofun;exact nofun;exact nofun;rw[xB];exact λf hf=>by rw[zL.mp hf];exact e
 rw[xC ho];exact hd
theorem Kf(n:π):∀es:δ D,(es.map<|qj<|n+1).sum=es.length+((es.flatMap nv).map<|qj n).sum|[]=>rfl|e::es=>by have:=Kf n es;rw[zA,List.sum_cons,zR,List.flatMap_cons,zI,List.sum_append,this,show qj (n+1) e=((nv e).map<|qj n).sum+1 from rfl];lia
theorem R9{cs:δ<|ρ×ρ}{n:π}{es:δ D}(h:∀e∈es,Sg cs (n+1) e):(es.flatMap nv).length<=((es.flatMap nv).map<|qj n).sum:=by
 have h:∀f∈es.flatMap nv,Sg cs n f:=λf hf=>by obtain⟨e,c,hf⟩:=List.mem_flatMap.mp hf;exact Ke (h e c) f hf
 generalize es.flatMap nv=fs at h⊢;induction fs with|nil=>exact zk _|cons f fs a=>have h1:=h f zq;have a:=a λx hx=>h x<|zg _ hx;have:1<=qj n f:=(by cases n with|zero=>exact h1.elim|succ n=>exact Nat.le_add_left _ _);rw[zA,List.sum_cons,zR];lia
inductive lL (ds:δ D) (S:ak) (R:KD) (Z:KX):η where
 |mk (cs d) (_:ds=[.tup<|cs.map aA,d]) (_:Gd cs) (_:Sq cs d) (_:R .ay S)
theorem tJ(T:Txt w K mg t):Ok P w base T.jY 6 lL:=by
 refine T.jY.F.b_ bF ?_;obtain⟨cs,d,e,hg,hd,q⟩;refine{_,(sc (bR (i:=2) bF.nd<|bT<|ap 1 an)<|sc (bR (i:=3) bF.nd di)<|sc (bR (i:=4) bF.nd di)<|s1<|swh (aR qA hr.u (cb ba T.aX aI<|ap 2 an) di)<|sc (sau (i:=3) bF.nd di)<|sc (sau (i:=4) bF.nd<|cb ba T.aX aI<|ap 2 an)<|sc (si (twd<|twor (aR qA hr.u (dv 3)<|dg (v:=.int 8) T.wQ {_,rfl} λ_=>aN _)<|tw1<|aR qA hr.u (dv 4)<|dg (v:=.int 200) T.jU {_,rfl} λ_=>aN _) (s1 z_) s0)<|sc (si (cJ<|tv<|cb jL T.jV fF<|ac (y_ (N:=["thing","columns"]) (src:=[none,some 0]) (lR uB) (il<|dv 2) qZ<|aU T.oR (xD T) hr<|ap 1<|ap 0 an) an) (s1 z_) s0)<|s1<|bR (i:=2) bF.nd<|aU T.gO (pA T) hr<|ap 2 an),?_};refine !{sW,λx o=>?_};refine{λm av S'=>∃(l:ε)(es:δ D)(dp p:π),av=[some<|.tup<|cs.map aA,some d,some<|.ref l,some<|.int dp,some<|.int p]/\S' l=ϑ (.lst es)/\Sub S S'/\(∀e∈es,Sg cs m e)/\dp+m=7/\p+(es.map<|qj m).sum<=200,{7,x,[d],0,0,rfl,aa,.new o,λe g=>by rw[zL.mp g];exact hd.1,rfl,by have:=hd.2;simp only[zA,y4,List.sum_cons,List.sum_nil];lia},?_};rintro m av S' ⟨l,es,dp,p,rfl,hl,sb,a,C,hp⟩;refine !!⟨.inl {_,hl,_,rfl,?_}⟩;refine bC (λh1=>?_) λh1=>?_;have wo:0<es.length:=by have h1:(0:ν)<((es.length:π):ν):=zG h1;lia
 obtain⟨y,j⟩:=List.exists_mem_of_length_pos wo;obtain⟨n,rfl⟩:∃n,m=n+1:=by cases m with|zero=>exact(a y j).elim|succ n=>exact⟨n,rfl⟩
 have A:=Kf n es;have E:=R9 (cs:=cs) (n:=n) (es:=es) a;refine !!!!!⟨.inl {_,hl,_,rfl,?_}⟩;refine !!⟨kK (zw<|by lia) !!⟨kK (zw<|by lia) ?_⟩⟩;refine !{es,hl,?_};refine comp_map (λ_=>.bl true) hl (by show es.length<=1000;lia) (λe g Q s=>?_) λh r=>?_;exact !!{cs,_,e,rfl,hg,a e g,s};have e2:es.map (λ_=>D.bl true)=(es.map λ_=>true).map D.bl:=by rw[zy];rfl
 have e3:(es.map λ_=>true).all id=ϱ:=by rw[all_map];exact zZ.mpr λ_ _=>rfl
 refine{.ref h,es.map λ_=>true,rfl,?_,_,rfl,?_};show(S'.set h<|.lst<|es.map _) h=_;rw[aa,e2];rw[e3];refine aL ?_;have s1:=sb.trans<|.new (c:=.lst<|es.map λ_=>D.bl true) r;have B:(S'.set h<|.lst<|es.map λ_=>D.bl true) l=ϑ (.lst es):=(ae<|gM hl r).trans hl;refine !{l,es,cs,n,rfl,B,by lia,a,λp2 z=>?_};refine{n,Nat.lt_succ_self n,p2,es.flatMap nv,dp+1,p+es.length,?_,aa,s1.trans<|.new z,λf hf=>?_,by lia,by lia};show[_,_,_,some<|D.int<|((dp:π):ν)+1,some<|D.int<|((p:π):ν)+((es.length:π):ν)]=_;rw[show(((dp:π):ν)+1)=((dp+1:π):ν) by lia,show(((p:π):ν)+((es.length:π):ν))=((p+es.length:π):ν) by lia];obtain⟨e,g,hf⟩:=List.mem_flatMap.mp hf;exact Ke (a e g) f hf;exact⟨S,sb,q⟩
noncomputable def Kg(cs:δ<|ρ×ρ)(z:ρ):Nat:=(cs.map Prod.fst).idxOf z
noncomputable def ai(cs:δ<|ρ×ρ)(ws:δ D)(z:ρ):D:=(ws[Kg cs z]?).getD .ay
noncomputable def ag(r:ρ×δ D):D:=.tup [.str r.1,.tup r.2]
theorem DL{α β:Type}{rel:α->β->η}{l:δ α}{m:δ β}(h:Paired rel l m):∀{i:π}{a:α},l[i]?=some a->∃b,m[i]?=some b/\rel a b:=by induction h with|nil=>intro i a h;simp at h|cons r t c=>intro i a h;cases i with|zero=>(rw[List.getElem?_cons_zero]at h⊢;cases h;exact{_,rfl,r})|succ i=>rw[List.getElem?_cons_succ]at h⊢;exact c h
theorem xE(hg:Gd cs)(h:c∈cs):cs[Kg cs c.1]?=some c/\(cs.map Prod.fst)[Kg cs c.1]?=some c.1:=by
 have hm:c.1∈cs.map Prod.fst:=zh.mpr ⟨c,h,rfl⟩;have hi:(cs.map Prod.fst).idxOf c.1<(cs.map Prod.fst).length:=List.idxOf_lt_length_of_mem hm;have e1:(cs.map Prod.fst)[(cs.map Prod.fst).idxOf c.1]?=some c.1:=by rw[zf hi,List.getElem_idxOf]
 refine{?_,e1};obtain⟨j,d⟩:=yq h;have a:(cs.map Prod.fst)[j]?=some c.1:=by rw[zm,d];rfl
 obtain⟨g,i⟩:=ze.mp e1;obtain⟨e,l⟩:=ze.mp a;have:=(List.getElem_inj hg.2.1 (h₀:=g) (h₁:=e)).mp<|i.trans l.symm;unfold Kg;rw[this];exact d
theorem kL{cs:δ<|ρ×ρ}(hg:Gd cs){ws:δ D}(hw:Wg cs ws){c:ρ×ρ}(h:c∈cs):ws[Kg cs c.1]?=some (ai cs ws c.1)/\Vg c.2 (ai cs ws c.1):=by obtain⟨v,e,r⟩:=DL hw (xE hg h).1;unfold ai;rw[e];exact⟨rfl,r⟩
noncomputable def k_:D->D->χ|.ay,.ay=>true|.int i,.int j=>ω (i=j)|.str i,.str j=>ω (i=j)|_,_=>false
theorem aT(ha:bc a=ϱ)(c:bc b=ϱ):k_ a b=ϱ↔a=b:=by rcases fu ha with rfl|⟨i,rfl⟩|⟨i,rfl⟩<;>rcases fu c with rfl|⟨j,rfl⟩|⟨j,rfl⟩<;>simp[k_]
theorem ku(ha:bc a=ϱ)(l:bc b=ϱ)(q:R (.bl<|if neg then !k_ a b else k_ a b) S):HJ neg a b S R:=by
 obtain⟨p,c,p2,p3⟩:=Ly.plain (S:=S) ha;obtain⟨r,g,m,n⟩:=Ly.plain (S:=S) l;have h:PyData.eqv p r=k_ a b->R (.bl<|if neg then !PyData.eqv p r else PyData.eqv p r) S:=λe=>by rw[e];exact q
 have d:p.depth<=64:=by lia
 rcases fu ha with rfl|⟨i,rfl⟩|⟨i,rfl⟩<;>rcases fu l with rfl|⟨j,rfl⟩|⟨j,rfl⟩<;>first|exact q|exact{p,r,c,g,p2,m,.inl d,h<|by simp only[Dp]at c g;subst c g;rfl}
noncomputable def tK:D->D->χ|.int i,.int j=>ω (i<j)|.str i,.str j=>n6 i j|_,_=>false
noncomputable def stP:D->D->χ|.str i,.str j=>PySem.Txt.startswith i j|_,_=>false
noncomputable def Bi(o:ρ)(a b:D):Bool:=if o ="is" then k_ a b else if ah a then false else if o ="below" then tK a b else if o ="above" then tK b a else stP a b
noncomputable def Hh:D->δ D|.tup ds=>ds|_=>[]
noncomputable def Xe(cs:δ<|ρ×ρ)(r:ρ×δ D)(f:D->χ):D->χ|.tup [.str _]=>true|.tup [.str o,e]=>(if o ="not" then !f e else if o ="key" then Cd (kX<|.str r.1) ((Hh e).map kX) else if o ="and" then (Hh e).all f else (Hh e).any f)|.tup [.str o,.str z,v]=>Bi o (ai cs r.2 z) v|_=>false
noncomputable def aW(cs:δ<|ρ×ρ)(r:ρ×δ D):π->D->χ|0,_=>false|n+1,d=>Xe cs r (aW cs r n) d
theorem Fh(cs:δ<|ρ×ρ)(r:ρ×δ D)(n:π)(o:ρ)(e:D):aW cs r (n+1) (.tup [.str o,e])=if o ="not" then !aW cs r n e else if o ="key" then Cd (kX<|.str r.1) ((Hh e).map kX) else if o ="and" then (Hh e).all (aW cs r n) else (Hh e).any (aW cs r n):=rfl
theorem O9(cs:δ<|ρ×ρ)(r:ρ×δ D)(n:π)(o z:ρ)(v:D):aW cs r (n+1) (.tup [.str o,.str z,v])=Bi o (ai cs r.2 z) v:=rfl
theorem Bj(cs:δ<|ρ×ρ)(r:ρ×δ D)(n:π)(ks:δ D):aW cs r (n+1) (.tup [.str "key",.tup ks])=Cd (kX<|.str r.1) (ks.map kX):=by rw[Fh,qa<|by trivial,qb rfl];rfl
theorem Bk(cs:δ<|ρ×ρ)(r:ρ×δ D)(n:π)(e:D):aW cs r (n+1) (.tup [.str "not",e])=!aW cs r n e:=by rw[Fh,qb rfl]
theorem Bl(cs:δ<|ρ×ρ)(r:ρ×δ D)(n:π)(es:δ D):aW cs r (n+1) (.tup [.str "and",.tup es])=es.all (aW cs r n):=by rw[Fh,qa<|by trivial,qa<|by trivial,qb rfl];rfl
theorem Fi(cs:δ<|ρ×ρ)(r:ρ×δ D)(n:π)(es:δ D):aW cs r (n+1) (.tup [.str "or",.tup es])=es.any (aW cs r n):=by rw[Fh,qa<|by trivial,qa<|by trivial,qa<|by trivial];rfl
theorem l6{k:ρ}(ha:Vg k a)(n:Vg k b)(o:a≠.ay)(m:b≠.ay):(∃i j,a=.int i/\b=.int j)\/∃i j,a=.str i/\b=.str j:=by
 obtain⟨g,l⟩:=ha;obtain⟨c,h⟩:=n;have d:∀{i:ν}{z:ρ},iY k (.int i)=ϱ->iY k (.str z)=ϱ->False:=λh1 h2=>by unfold iY at h1 h2;simp only[ah,Bool.false_or]at h1 h2;by_cases e:k ="number";rw[qb e]at h2;cases h2;rw[qa e]at h1;cases h1
 rcases fu l with rfl|⟨i,rfl⟩|⟨i,rfl⟩<;>rcases fu h with rfl|⟨j,rfl⟩|⟨j,rfl⟩<;>first|exact absurd rfl o|exact absurd rfl m|exact .inl ⟨i,j,rfl,rfl⟩|exact .inr ⟨i,j,rfl,rfl⟩|exact(d g c).elim|exact(d c g).elim
theorem rB(h:Vg "word" a)(n:a≠.ay):∃z,a=.str z:=by obtain⟨h1,h2⟩:=h;rcases fu h2 with rfl|⟨i,rfl⟩|⟨z,rfl⟩;exact absurd rfl n;unfold iY at h1;rw[qa<|by trivial]at h1;cases h1;exact⟨z,rfl⟩
theorem aV(h:ah a=ϰ):a≠.ay:=by rintro rfl;cases h
inductive l7 (ds:δ D) (S:ak) (R:KD) (Z:KX):η where
 |mk (cs r c) (_:ds=[.tup<|cs.map aA,ag r,.str c.1]) (_:Gd cs) (_:Wg cs r.2) (_:c∈cs) (_:R (ai cs r.2 c.1) S)
theorem dQ(T:Txt w K mg t):Ok P w base T.cE 2 l7:=by
 refine T.cE.F.b_ A7 ?_;obtain⟨cs,r,c,e,hg,hw,a,q⟩;obtain⟨n,g⟩:=xE hg a;refine{_,(s1<|sr<|ix hr.u (ix hr.u (dv 1) di)<|bm zQ PySem.F.slot_list_index PySem.F.type_list_index sD (aU T.mU (qd T) hr<|ap 0 an)<|ap 2 an),?_};refine !!!{cs,rfl,hg.1,λp hp=>?_};refine{{rfl,_,aa},_,rfl,(cs.map Prod.fst).map D.str,.str c.1,Kg cs c.1,rfl,aa,rfl,?_,{.str c.1,by rw[zm,g];rfl,by show(c.1==c.1)=ϱ;simp},?_,?_};rw[List.all_map];exact zZ.mpr λ_ _=>rfl;intro m u hm hu;rw[zm]at hu;cases e:(cs.map Prod.fst)[m]? with|none=>(rw[e]at hu;cases hu)|some d=>rw[e]at hu;cases hu;show(d==c.1)=ϰ;have:d≠c.1:=λq=>(by subst q;obtain⟨j,l⟩:=ze.mp e;obtain⟨i,h⟩:=ze.mp g;have:=(List.getElem_inj hg.2.1 (h₀:=j) (h₁:=i)).mp<|l.trans h.symm;lia);simpa using this
 exact{_,cL (kL hg hw a).1,S,.new hp,q}
inductive f9 (ds:δ D) (S:ak) (R:KD) (Z:KX):η where
 |mk (o a b c) (_:ds=[.str o,a,b]) (_:Vg c.2 a) (_:Vg c.2 b) (_:xA o c b) (_:R (.bl<|Bi o a b) S)
theorem qI(T:Txt w K mg t):Ok P w base T.iS 1 f9:=by
 refine T.iS.F.b_ qG ?_;obtain⟨o,a,b,c,e,ha,d,ho,q⟩;refine{_,(sc (si (aR aK hr.u (dv 0) ds) (s1<|sr<|cm aK hr.u (dv 1)<|dv 2) s0)<|sc (si (aR gq hr.u (dv 1) dn) (s1<|sr db) s0)<|sc (si (aR aK hr.u (dv 0) ds) (s1<|sr<|cm oz hr.u (dv 1)<|dv 2) s0)<|sc (si (aR aK hr.u (dv 0) ds) (s1<|sr<|cm qA hr.u (dv 1)<|dv 2) s0)<|s1<|sr<|bm PySem.F.plainAttrs_str PySem.F.slot_str_startswith PySem.F.type_str_startswith IZ (dv 1)<|ap 2 an),?_};unfold Bi at q;rcases ho with rfl|⟨g,ho⟩;rw[qb rfl]at q;exact !!⟨jh !!⟨ku ha.2 d.2<|fo q⟩⟩;have ne:∀{A B:χ},o≠"is"->R (.bl<|if o ="is" then A else B) S->R (.bl B) S:=λh q=>by rw[qa h]at q;exact q
 rcases ho with rfl|rfl|⟨rfl,hk⟩;rw[qa<|by trivial]at q;refine !!⟨bI !!⟨bC (λh=>?_) λh=>?_⟩⟩;rw[qb h]at q;exact fo q;rw[qa<|by rw[show ah a=ϰ from h];exact zd,qb rfl]at q;refine !!⟨jh !!⟨?_⟩⟩;rcases l6 ha d (aV h) g with⟨i,j,rfl,rfl⟩|⟨i,j,rfl,rfl⟩<;>exact fo q;rw[qa<|by trivial]at q;refine !!⟨bI !!⟨bC (λh=>?_) λh=>?_⟩⟩;rw[qb h]at q;exact fo q;rw[qa<|by rw[show ah a=ϰ from h];exact zd,qa<|by trivial,qb rfl]at q;refine !!⟨bI !!⟨jh !!⟨?_⟩⟩⟩;rcases l6 ha d (aV h) g with⟨i,j,rfl,rfl⟩|⟨i,j,rfl,rfl⟩<;>exact fo q;rw[qa<|by trivial]at q;refine !!⟨bI !!⟨bC (λh=>?_) λh=>?_⟩⟩;rw[qb h]at q;exact fo q;rw[qa<|by rw[show ah a=ϰ from h];exact zd,qa<|by trivial,qa<|by trivial]at q;refine !!⟨bI !!⟨bI ?_⟩⟩;rw[hk]at ha d;obtain⟨i,rfl⟩:=rB ha<|aV h;obtain⟨j,rfl⟩:=rB d g;exact !{rfl,_,rfl,i,j,rfl,rfl,fo q}
inductive DM (n:π) (ds:δ D) (S:ak) (R:KD) (Z:KX):η where
 |mk (cs d r) (_:ds=[.tup<|cs.map aA,d,ag r]) (_:Gd cs) (_:Sg cs n d) (_:Wg cs r.2) (_:R (.bl<|aW cs r n d) S)
theorem iw(T:Txt w K mg t):∀n,Ok P w base T.passes (3+n) (DM n)
 |0=>by refine T.passes.F.ok (k:=2) vt (by rintro ds S R Z ⟨_,_,_,e,_⟩;rw[e];rfl) (by rintro gv A outer s H E ds S R Z hr ⟨cs,d,r,e,hg,j,_⟩;exact j.elim)
 |n+1=>by
  refine T.passes.F.ok (k:=3+n) vt (by rintro ds S R Z ⟨_,_,_,e,_⟩;rw[e];rfl) ?_;obtain⟨cs,d,r,e,hg,j,hw,q⟩;refine{_,(sc (si (aR aK hr.u (ix hr.u (dv 1) di) ds) (s1<|sr db) s0)<|sc (si (aR aK hr.u (ix hr.u (dv 1) di) ds) (s1<|sr<|cm uy hr.u (ix hr.u (dv 2) di)<|ix hr.u (dv 1) di) s0)<|sc (si (aR aK hr.u (ix hr.u (dv 1) di) ds) (s1<|sr<|Q5<|aU T.passes (iw T n) hr<|ap 0<|ac (ix hr.u (dv 1) di)<|ap 2 an) s0)<|sc (si (aR aK hr.u (ix hr.u (dv 1) di) ds) (s1<|sr<|cb jL T.jV fF<|ac (y_ (N:=["inner","columns","row"]) (src:=[none,some 0,some 2]) (lR AY) (HM<|ix hr.u (dv 1) di) qZ<|aU T.passes (iw T n) hr<|ap 1<|ap 0<|ap 2 an) an) s0)<|sc (si (aR aK hr.u (ix hr.u (dv 1) di) ds) (s1<|sr<|cb OA T.OV IJ<|ac (y_ (N:=["inner","columns","row"]) (src:=[none,some 0,some 2]) (lR AY) (HM<|ix hr.u (dv 1) di) qZ<|aU T.passes (iw T n) hr<|ap 1<|ap 0<|ap 2 an) an) s0)<|s1<|sr<|aU T.iS (qI T) hr<|ac (ix hr.u (dv 1) di)<|ac (aU T.cE (dQ T) hr<|ap 0<|ap 2<|ac (ix hr.u (dv 1) di) an)<|ac (ix hr.u (dv 1) di) an),?_};rcases j with (rfl|⟨ks,rfl,y,C⟩|⟨o,c,v,g,x,ho,rfl⟩)|⟨e,rfl,z⟩|⟨o,es,ho,rfl,B,l⟩;exact !!!⟨jh<|fo q⟩;refine !!!⟨bI !!!⟨jh ?_⟩⟩;refine !!!!{rfl,?_,?_};rw[List.all_map];exact zZ.mpr λ_ _=>rfl;rw[Bj]at q;exact fo q;rw[O9]at q;have a:∀Zq,f9 [D.str o,ai cs r.2 c.1,v] S (λd S'=>Fo S'<|R d) Zq:=λ_=>{o,_,v,c,rfl,(kL hg hw g).2,x,ho,fo q};have m:o ="is"\/o ="below"\/o ="above"\/o ="begins":=by rcases ho with h|⟨_,h|h|⟨h,_⟩⟩;exact .inl h;exact .inr<|.inl h;exact .inr<|.inr<|.inl h;exact .inr<|.inr<|.inr h
  rcases m with rfl|rfl|rfl|rfl;exact !!!⟨bI !!!⟨bI !!!⟨bI !!!⟨bI !!!⟨bI !!!!!!{cs,r,c,rfl,hg,hw,g,_,rfl,_,rfl,a _}⟩⟩⟩⟩⟩;exact !!!⟨bI !!!⟨bI !!!⟨bI !!!⟨bI !!!⟨bI !!!!!!{cs,r,c,rfl,hg,hw,g,_,rfl,_,rfl,a _}⟩⟩⟩⟩⟩;exact !!!⟨bI !!!⟨bI !!!⟨bI !!!⟨bI !!!⟨bI !!!!!!{cs,r,c,rfl,hg,hw,g,_,rfl,_,rfl,a _}⟩⟩⟩⟩⟩;exact !!!⟨bI !!!⟨bI !!!⟨bI !!!⟨bI !!!⟨bI !!!!!!{cs,r,c,rfl,hg,hw,g,_,rfl,_,rfl,a _}⟩⟩⟩⟩⟩;rw[Bk]at q;exact !!!⟨bI !!!⟨bI !!!⟨jh !!!!{cs,e,r,rfl,hg,z,hw,_,rfl,fo q}⟩⟩⟩;have hz:es.length<=1000:=by lia
  rcases ho with rfl|rfl;rw[Bl]at q;refine !!!⟨bI !!!⟨bI !!!⟨bI !!!⟨jh !!{_,.inl rfl,?_}⟩⟩⟩⟩;refine comp_map (λd=>.bl<|aW cs r n d) trivial hz (λd hd Q i=>!!!{cs,d,r,rfl,hg,l d hd,hw,i}) λp hp=>?_;refine{.ref p,es.map<|aW cs r n,rfl,?_,S,.new hp,?_};show(S.set p<|.lst<|es.map _) p=_;rw[aa,zy];rfl;rw[all_map];exact q;rw[Fi]at q;refine !!!⟨bI !!!⟨bI !!!⟨bI !!!⟨bI !!!⟨jh !!{_,.inl rfl,?_}⟩⟩⟩⟩⟩;refine comp_map (λd=>.bl<|aW cs r n d) trivial hz (λd hd Q i=>!!!{cs,d,r,rfl,hg,l d hd,hw,i}) λp hp=>?_;refine{.ref p,es.map<|aW cs r n,rfl,?_,S,.new hp,?_};show(S.set p<|.lst<|es.map _) p=_;rw[aa,zy];rfl;rw[List.any_map];exact q
abbrev Row:=ρ×δ D
abbrev Part:=ρ×ρ×ρ
theorem R_{a b:ρ}(h:a.cps.toList=b.cps.toList):a=b:=by obtain⟨x⟩:=a;obtain⟨y⟩:=b;exact congrArg Str.mk<|Array.ext' h
theorem Fj(a:ρ):n6 a a=ϰ:=zw<|List.lt_irrefl _
theorem kM{a b:ρ}(h:a≠b):n6 b a=!n6 a b:=by unfold n6;rw[yj];simp only[decide_eq_true_iff,yu,yy];constructor;exact λh1 h2=>List.lt_irrefl _<|List.lt_trans h1 h2;intro h1;by_cases h2:b.cps.toList<a.cps.toList;exact h2;exact absurd (R_<|List.le_antisymm (List.not_lt.mp h2)<|List.not_lt.mp h1) h
theorem DN(h1:n6 a b=ϱ)(h2:n6 b c=ϱ):n6 a c=ϱ:=zx<|List.lt_trans (zG h1)<|zG h2
theorem Nu(a:D):tK a a=ϰ:=by cases a<;>first|rfl|exact Fj _|exact zw (Int.lt_irrefl _)
theorem nA(ha:Vg k a)(d:Vg k b)(g:a≠.ay)(c:b≠.ay)(h:a≠b):tK b a=!tK a b:=by rcases l6 ha d g c with⟨i,j,rfl,rfl⟩|⟨i,j,rfl,rfl⟩;have l:i≠j:=λe=>h<|congrArg D.int e;show ω (j<i)=!decide (i<j);rw[yj];simp only[decide_eq_true_iff,yu,yy];lia;exact kM λe=>h<|congrArg D.str e
theorem Sa(h:tK x y=ϱ):(∃i j,x=.int i/\y=.int j/\i<j)\/∃i j,x=.str i/\y=.str j/\n6 i j=ϱ:=by unfold tK at h;split at h;exact .inl {_,_,rfl,rfl,zG h};exact .inr {_,_,rfl,rfl,h};cases h
theorem Kh(h1:tK a b=ϱ)(h2:tK b c=ϱ):tK a c=ϱ:=by rcases Sa h1 with⟨i,j,rfl,rfl,d⟩|⟨i,j,rfl,rfl,d⟩<;>rcases Sa h2 with⟨h,l,e,rfl,g⟩|⟨h,l,e,rfl,g⟩<;>cases e;exact zx<|Int.lt_trans d g;exact DN d g
theorem Ki(h:WG a b):tK a b=ϱ:=by cases a with|int i=>(cases b with|int j=>exact zx h|_=>exact h.elim)|str i=>(cases b with|str j=>exact zx h|_=>exact h.elim)|_=>exact h.elim
noncomputable def cG(p:Part)(x y:D):Bool:=if (ah x != ah y)=ϱ then ah x==ω (p.2.2 ="first") else tK x y==ω (p.2.1 ="up")
noncomputable def bJ(cs:δ<|ρ×ρ)(wy:ρ):δ Part->Row->Row->χ|[],a,b=>n6 a.1 b.1==ω (wy ="up")|p::ps,a,b=>if k_ (ai cs a.2 p.1) (ai cs b.2 p.1)=ϱ then bJ cs wy ps a b else cG p (ai cs a.2 p.1) (ai cs b.2 p.1)
theorem bxor:((!x)==u)=!(x==u):=by cases x<;>cases u<;>rfl
theorem dm(h:ah x=ϱ):x=.ay:=by cases x<;>first|rfl|cases h
theorem pB(hx:Vg k x)(c:Vg k y)(h:x≠y):cG p y x=!cG p x y:=by unfold cG;cases nx:ah x with|true=>(cases a:ah y with|true=>exact absurd ((dm nx).trans (dm a).symm) h|false=>rw[qb<|by rfl,qb<|by rfl];cases ω (p.2.2 ="first")<;>rfl)|false=>cases a:ah y with|true=>(rw[qb<|by rfl,qb<|by rfl];cases ω (p.2.2 ="first")<;>rfl)|false=>rw[qa<|by simp,qa<|by simp,nA hx c (aV nx) (aV a) h,bxor]
theorem Fl(hx:Vg k x)(j:Vg k y)(hz:Vg k z)(l:x≠y)(i:y≠z)(h1:cG p x y=ϱ)(h2:cG p y z=ϱ):x≠z/\cG p x z=ϱ:=by
 have h:x≠z:=by rintro rfl;have:=pB (p:=p) hx j l;rw[h1,h2]at this;cases this
 refine{h,?_};unfold cG at h1 h2⊢;cases nx:ah x with|true=>(cases d:ah y with|true=>exact absurd ((dm nx).trans (dm d).symm) l|false=>rw[nx,d,qb<|by rfl]at h1;cases g:ah z with|true=>exact absurd ((dm nx).trans (dm g).symm) h|false=>rw[qb<|by rfl];exact h1)|false=>cases d:ah y with|true=>(rw[nx,d,qb<|by rfl]at h1;cases g:ah z with|true=>exact absurd ((dm d).trans (dm g).symm) i|false=>rw[d,g,qb<|by rfl]at h2;cases e:ω (p.2.2 ="first")<;>rw[e]at h1 h2<;>first|cases h1;done|cases h2;done)|false=>rw[nx,d,qa<|by simp]at h1;cases g:ah z with|true=>rw[d,g,qb<|by rfl]at h2;rw[qb<|by rfl];exact h2|false=>rw[d,g,qa<|by simp]at h2;rw[qa<|by simp];cases e:ω (p.2.1 ="up") with|true=>rw[e]at h1 h2;rw[Kh (a:=x) (b:=y) (c:=z) (by simpa using h1)<|by simpa using h2];rfl|false=>rw[e]at h1 h2;have h1:tK x y=ϰ:=(by simpa using h1);have h2:tK y z=ϰ:=(by simpa using h2);have o:=nA hx j (aV nx) (aV d) l;have n:=nA j hz (aV d) (aV g) i;rw[h1]at o;rw[h2]at n;have r:=Kh n o;have m:=nA hx hz (aV nx) (aV g) h;rw[r]at m;cases q:tK x z with|true=>(rw[q]at m;cases m)|false=>rfl
def Pin(cs:δ<|ρ×ρ)(ps:δ Part):Prop:=∀p∈ps,∃c∈cs,c.1=p.1
section
variable{cs:δ (ρ×ρ)}{wy:ρ}
theorem Pin.tail(h:Pin cs<|p::ps):Pin cs ps:=λq a=>h q<|zg _ a
theorem rC(hg:Gd cs)(h:Pin cs<|p::ps):∃k,∀ws,Wg cs ws->Vg k (ai cs ws p.1):=by obtain⟨c,a,e⟩:=h p zq;rw[<-e];exact{c.2,λws hw=>(kL hg hw a).2}
theorem tL(hg:Gd cs):∀{ps:δ Part}{a b:Row},Pin cs ps->Wg cs a.2->Wg cs b.2->a.1≠b.1->bJ cs wy ps b a=!bJ cs wy ps a b|[],a,b,_,_,_,h=>by show(n6 b.1 a.1==_)=!(n6 a.1 b.1==_);rw[kM h,bxor]|p::ps,a,b,hp,ha,hb,h=>by obtain⟨k,hk⟩:=rC hg hp;have d:=hk _ ha;have c:=hk _ hb;unfold bJ;by_cases e:ai cs a.2 p.1=ai cs b.2 p.1;rw[qb<|(aT c.2 d.2).mpr e.symm,qb<|(aT d.2 c.2).mpr e];exact tL hg hp.tail ha hb h;rw[qa λq=>e ((aT c.2 d.2).mp q).symm,qa λq=>e<|(aT d.2 c.2).mp q];exact pB d c e
theorem Kj(hg:Gd cs):∀{ps:δ Part}{a b c:Row},Pin cs ps->Wg cs a.2->Wg cs b.2->Wg cs c.2->a.1≠b.1->b.1≠c.1->a.1≠c.1->bJ cs wy ps a b=ϱ->bJ cs wy ps b c=ϱ->bJ cs wy ps a c=ϱ|[],a,b,c,_,_,_,_,h1,h2,h3,d,q2=>(by have d:(n6 a.1 b.1==ω (wy ="up"))=ϱ:=d;have q2:(n6 b.1 c.1==ω (wy ="up"))=ϱ:=q2;show(n6 a.1 c.1==ω (wy ="up"))=ϱ;cases e:ω (wy ="up") with|true=>rw[e]at d q2;rw[DN (b:=b.1) (by simpa using d)<|by simpa using q2];rfl|false=>rw[e]at d q2;have d:n6 a.1 b.1=ϰ:=(by simpa using d);have q2:n6 b.1 c.1=ϰ:=(by simpa using q2);have a1:=kM h1;have a2:=kM h2;rw[d]at a1;rw[q2]at a2;have a3:=DN a2 a1;have a4:=kM h3;rw[a3]at a4;cases q:n6 a.1 c.1 with|true=>(rw[q]at a4;cases a4)|false=>rfl)|p::ps,a,b,c,hp,ha,hb,hc,h1,h2,h3,d,q2=>by obtain⟨k,hk⟩:=rC hg hp;have i:=hk _ ha;have g:=hk _ hb;have h:=hk _ hc;unfold bJ at d q2⊢;by_cases e1:ai cs a.2 p.1=ai cs b.2 p.1;rw[qb<|(aT i.2 g.2).mpr e1]at d;by_cases e2:ai cs b.2 p.1=ai cs c.2 p.1;rw[qb<|(aT g.2 h.2).mpr e2]at q2;rw[qb<|(aT i.2 h.2).mpr<|e1.trans e2];exact Kj hg hp.tail ha hb hc h1 h2 h3 d q2;rw[qa λq=>e2<|(aT g.2 h.2).mp q]at q2;rw[e1,qa λq=>e2<|(aT g.2 h.2).mp q];exact q2;rw[qa λq=>e1<|(aT i.2 g.2).mp q]at d;by_cases e2:ai cs b.2 p.1=ai cs c.2 p.1;rw[<-e2,qa λq=>e1<|(aT i.2 g.2).mp q];exact d;rw[qa λq=>e2<|(aT g.2 h.2).mp q]at q2;obtain⟨e3,j⟩:=Fl i g h e1 e2 d q2;rw[qa λq=>e3<|(aT i.2 h.2).mp q];exact j
def Rg(cs:δ<|ρ×ρ)(rs:δ Row):Prop:=(∀r∈rs,Wg cs r.2)/\(rs.map Prod.fst).Nodup
theorem Rg.perm(h:Rg cs rs)(p:dR.Perm rs):Rg cs dR:={λr hr=>h.1 r<|p.mem_iff.mp hr,(p.map _).nodup_iff.mpr h.2}
theorem Rg.sub(h:Rg cs rs)(p:dR.Sublist rs):Rg cs dR:={λr hr=>h.1 r<|p.subset hr,h.2.sublist<|p.map _}
theorem Nv(hg:Gd cs)(hp:Pin cs ps)(hr:Rg cs m)(hl:l.Pairwise λa b=>bJ cs wy ps a b=ϱ)(hm:m.Pairwise λa b=>bJ cs wy ps a b=ϱ)(pm:l.Perm m):l=m:=by refine List.Perm.eq_of_pairwise (le:=λa b=>bJ cs wy ps a b=ϱ) (λa b ha c h1 h2=>?_) hl hm pm;have ha:=pm.mem_iff.mp ha;by_cases e:a.1=b.1;exact i5 (f:=Prod.fst) hr.2 ha c e;have:=tL (wy:=wy) hg hp (hr.1 a ha) (hr.1 b c) e;rw[h1,h2]at this;cases this
end
theorem DP{l m:δ π}(hl:l.Nodup)(hm:m.Nodup)(h:∀x,x∈l↔x∈m):l.Perm m:=by induction l generalizing m with|nil=>(cases m with|nil=>exact .nil|cons y m=>exact absurd ((h y).mpr zq)<|by simp)|cons x l g=>obtain⟨c,d⟩:=yr.mp hl;have hx:=(h x).mp zq;refine .trans ((g d (hm.erase x) λy=>?_).cons x) (List.perm_cons_erase hx).symm;rw[hm.mem_erase_iff];constructor;intro a;exact{λe=>c<|e ▸ a,(h y).mp<|zg _ a};rintro⟨h1,h2⟩;rcases zj.mp ((h y).mpr h2) with e|e;exact absurd e h1;exact e
theorem map_range(d:α)(xs:δ α):(List.range xs.length).map (λk=>xs.getD k d)=xs:=by refine List.ext_getElem (by simp) λi h1 h2=>?_;simp[zf h2]
theorem Hi{α:Type}(d:α){xs:δ α}{g:π->π}(lt:∀k,k<xs.length->g k<xs.length)(inj:∀i j,i<xs.length->j<xs.length->g i=g j->i=j):((List.range xs.length).map λk=>xs.getD (g k) d).Perm xs:=by
 have nd:((List.range xs.length).map g).Nodup:=by refine List.pairwise_map.mpr<|List.nodup_range.imp_of_mem λ{a b} ha l n e=>n<|inj a b (zW.mp ha) (zW.mp l) e
 have sub:∀x∈(List.range xs.length).map g,x∈List.range xs.length:=λx hx=>by obtain⟨k,hk,rfl⟩:=zh.mp hx;exact zW.mpr<|lt k<|zW.mp hk
 have p:((List.range xs.length).map g).Perm (List.range xs.length):=DP nd List.nodup_range λx=>by refine{sub x,λhx=>?_};by_cases h:x∈(List.range xs.length).map g;exact h;exfalso;have:=sub_len nd (m:=(List.range xs.length).erase x) λy c=>(List.Nodup.mem_erase_iff List.nodup_range).mpr {λe=>h<|e ▸ c,sub y c};rw[zb,List.length_erase_of_mem hx,List.length_range]at this;have:=zW.mp hx;lia
 have e:((List.range xs.length).map λk=>xs.getD (g k) d)=((List.range xs.length).map g).map λk=>xs.getD k d:=by rw[zy];rfl
 rw[e];have:=p.map λk=>xs.getD k d;rw[map_range]at this;exact this
theorem Hj{α:Type}(d:α){xs:δ α}{g:π->π}{r:α->α->η}(h:∀i j,i<j->j<xs.length->r (xs.getD (g i) d) (xs.getD (g j) d)):((List.range xs.length).map λk=>xs.getD (g k) d).Pairwise r:=by rw[List.pairwise_map,List.pairwise_iff_getElem];intro i j hi a c;rw[List.length_range]at a;rw[List.getElem_range,List.getElem_range];exact h i j c a
noncomputable def r0:Row:=("",[])
theorem getD_map{rs:δ Row}{j:π}(h:j<rs.length):(rs.map ag).getD j .ay=ag (rs.getD j r0):=by rw[zM,zM,zm,zf h];rfl
theorem getD_mem{rs:δ Row}{j:π}(h:j<rs.length):rs.getD j r0∈rs:=by rw[zM,zf h];exact List.getElem_mem h
theorem nB{rs:δ Row}{b:χ}{f:D->D}{g:π->π}(h:Rw b (λj=>f<|(rs.map ag).getD j .ay) (rs.map ag).length g): ∃dR:δ Row,(List.range (rs.map ag).length).map (λk=>(rs.map ag).getD (g k) .ay)=dR.map ag/\dR.Perm rs/\∀q r:Row->Row->η,rs.Pairwise q->(∀x y,x∈rs->y∈rs->(if b=ϱ then WG (f<|ag y) (f<|ag x) else WG (f<|ag x) (f<|ag y))->r x y)->(∀x y,x∈rs->y∈rs->f (ag x)=f (ag y)->q x y->r x y)->dR.Pairwise r:=by have hn:(rs.map ag).length=rs.length:=zb _;rw[hn]at h⊢;refine{(List.range rs.length).map λk=>rs.getD (g k) r0,?_,Hi r0 h.lt h.inj,λq r m h1 h2=>Hj r0 λi j e d=>?_};rw[zy];exact zX λk hk=>getD_map<|h.lt k<|zW.mp hk;have a:=h.lt i<|Nat.lt_trans e d;have c:=h.lt j d;have o:=h.ord i j e d;rw[getD_map a,getD_map c]at o;rcases o with o|⟨o,l⟩;exact h1 _ _ (getD_mem a) (getD_mem c) o;refine h2 _ _ (getD_mem a) (getD_mem c) o ?_;have:=List.pairwise_iff_getElem.mp m (g i) (g j) a c l;rw[zM,zM,zf a,zf c];exact this
section
variable{cs:δ (ρ×ρ)}{wy:ρ}
noncomputable def valued(cs:δ<|ρ×ρ)(p:Part)(r:Row):Bool:=!ah (ai cs r.2 p.1)
theorem Nx(h1:ah x=ϱ)(h2:ah y=ϱ):k_ x y=ϱ:=by rw[dm h1,dm h2];rfl
theorem xG(h:ah x≠ah y):k_ x y=ϰ:=by unfold k_;split<;>first|rfl|exact absurd rfl h
theorem Hk{ps:δ Part}{p:Part}{L V:δ Row}(n:L.Pairwise λa b=>bJ cs wy ps a b=ϱ)(l:V.Perm<|L.filter<|valued cs p)(j:V.Pairwise λa b=>bJ cs wy (p::ps) a b=ϱ): (if p.2.2 ="first" then L.filter (λr=>!valued cs p r)++V else V++L.filter (λr=>!valued cs p r)).Perm L/\(if p.2.2 ="first" then L.filter (λr=>!valued cs p r)++V else V++L.filter (λr=>!valued cs p r)).Pairwise λa b=>bJ cs wy (p::ps) a b=ϱ:=by
 have i:(L.filter λr=>!valued cs p r).Pairwise λa b=>bJ cs wy (p::ps) a b=ϱ:=by refine(n.sublist yN).imp_of_mem λ{a b} ha c h=>?_;have ha:=(ye.mp ha).2;have c:=(ye.mp c).2;unfold valued at ha c;rw[Bool.not_not]at ha c;show(if k_ (ai cs a.2 p.1) (ai cs b.2 p.1)=ϱ then bJ cs wy ps a b else _)=ϱ;rw[qb<|Nx ha c];exact h
 have m:∀a∈L.filter (λr=>!valued cs p r),∀b∈V,ah (ai cs a.2 p.1)=ϱ/\ah (ai cs b.2 p.1)=ϰ:=λa ha b c=>by have ha:=(ye.mp ha).2;have c:=(ye.mp<|l.mem_iff.mp c).2;unfold valued at ha c;rw[Bool.not_not]at ha;exact{ha,by simpa using c}
 have pm:(L.filter (λr=>!valued cs p r)++V).Perm L:=(List.Perm.append_left _ l).trans<|List.perm_append_comm.trans<|List.filter_append_perm (valued cs p) L;by_cases e:p.2.2 ="first";rw[qb e];refine{pm,List.pairwise_append.mpr {i,j,λa ha b c=>?_}};obtain⟨g,d⟩:=m a ha b c;show(if k_ (ai cs a.2 p.1) (ai cs b.2 p.1)=ϱ then bJ cs wy ps a b else cG p (ai cs a.2 p.1) (ai cs b.2 p.1))=ϱ;rw[xG<|by rw[g,d];nofun,qa zd];unfold cG;rw[g,d,qb<|by rfl,zx e];rfl;rw[qa e];refine{List.perm_append_comm.trans pm,List.pairwise_append.mpr {j,i,λa ha b c=>?_}};obtain⟨g,d⟩:=m b c a ha;show(if k_ (ai cs a.2 p.1) (ai cs b.2 p.1)=ϱ then bJ cs wy ps a b else cG p (ai cs a.2 p.1) (ai cs b.2 p.1))=ϱ;rw[xG<|by rw[g,d];nofun,qa zd];unfold cG;rw[g,d,qb<|by rfl,zw e];rfl
theorem Bn(hg:Gd cs)(hp:Pin cs ps):∀{F:δ Row},Rg cs (x::F)->(F.Pairwise λa b=>bJ cs wy ps a b=ϱ)->(F.take (F.filter λy=>bJ cs wy ps y x).length++x::F.drop (F.filter λy=>bJ cs wy ps y x).length).Pairwise λa b=>bJ cs wy ps a b=ϱ|[],_,_=>by simp|y::F,hr,h=>by obtain⟨h1,h2⟩:=List.pairwise_cons.mp h;have nd:=hr.2;rw[zA,zA]at nd;obtain⟨d,o⟩:=yr.mp nd;obtain⟨r,s⟩:=yr.mp o;have g:y.1≠x.1:=λe=>d (by rw[<-e];exact zq);have l:=hr.1 x zq;have j:=hr.1 y<|zg _ zq;cases e:bJ cs wy ps y x with|true=>(rw[yT,qb e,zR,List.take_succ_cons,List.drop_succ_cons,List.cons_append,List.pairwise_cons];have n:Rg cs (x::F):=hr.sub<|(List.sublist_cons_self y F).cons₂ x;refine{λz hz=>?_,Bn hg hp n h2};rcases zO.mp hz with hz|hz;exact h1 z<|List.mem_of_mem_take hz;rcases zj.mp hz with rfl|hz;exact e;exact h1 z<|List.mem_of_mem_drop hz)|false=>have none:∀z∈y::F,bJ cs wy ps z x=ϰ:=λz hz=>(by rcases zj.mp hz with rfl|hz;exact e;cases q:bJ cs wy ps z x with|false=>rfl|true=>have i:y.1≠z.1:=λe=>r (by rw[e];exact zh.mpr ⟨z,hz,rfl⟩);have c:z.1≠x.1:=λe=>d (by rw[<-e];exact zg _<|zh.mpr ⟨z,hz,rfl⟩);have p:=hr.1 z<|zg _<|zg _ hz;rw[Kj hg hp j p l i c g (h1 z hz) q]at e;cases e);have m:(y::F).filter (λy=>bJ cs wy ps y x)=[]:=List.filter_eq_nil_iff.mpr λz hz=>(by rw[none z hz];exact zd);rw[m];show(x::y::F).Pairwise _;refine List.pairwise_cons.mpr {λz hz=>?_,h};have c:z.1≠x.1:=λe=>d (by rw[<-e];exact zh.mpr ⟨z,hz,rfl⟩);rw[tL hg hp (hr.1 z<|zg _ hz) l c,none z hz];rfl
theorem Kk(x:α)(F:δ α)(m:π):(F.take m++x::F.drop m).Perm (F++[x]):=by refine(List.perm_middle).trans<|List.Perm.trans ?_ List.perm_append_comm;rw[List.take_append_drop];exact .refl _
end
noncomputable abbrev qK:Str:="sorted_by_keys.<locals>.<lambda>"
noncomputable abbrev qV:Str:="sorted_by_values.<locals>.<lambda>"
noncomputable def Se:D->D|.tup (x::_)=>x|_=>.ay
noncomputable def DQ(cs:δ<|ρ×ρ)(z:ρ):D->D|.tup [_,.tup ws]=>ai cs ws z|_=>.ay
inductive Kl (t:gY) (ds:δ D) (S:ak) (R:KD) (Z:KX):η where
 |mk (cs:δ<|ρ×ρ) (l:ε) (rs:δ Row) (wy:ρ) (_:ds=[.ref l,.str wy]) (_:pz wy=ϱ) (_:S l=ϑ (.lst<|rs.map ag)) (_:rs.length<64) (_:Rg cs rs) (_:S t.aQ=ϑ (.tab qK)) (_:∀(dR:δ Row)(p:ε),dR.Perm rs->(dR.Pairwise λa b=>bJ cs wy [] a b=ϱ)->S p=ϐ->R (.ref p) (S.set p<|.lst<|dR.map ag))
theorem cO{S d:ak}{p:ε}{c:Ce}(h:Sub S d):Sub (S.set p c) (d.set p c):=λb e a=>by by_cases q:b=p;subst q;rw[aa]at a⊢;exact a;rw[ae q]at a⊢;exact h b e a
theorem cH{S a:ak}{p:ε}(h:Sub S a)(e:a p=ϐ):S p=ϐ:=by cases q:S p with|none=>rfl|some c=>rw[h p c q]at e;cases e
theorem xH{z:ρ}(h:pz z=ϱ):z ="up"\/z ="down":=by unfold pz at h;simpa using h
theorem Rg.unlike(h:Rg cs rs):rs.Pairwise λa b=>a.1≠b.1:=List.pairwise_map.mp h.2
theorem nC(T:Txt w K mg t)(B:Bm mg base):Ok P w base T.fL 4 (Kl t):=by
 refine T.fL.F.okC (k:=3) mZ (by rintro ds S R Z ⟨_,_,_,_,e,_⟩;rw[e];rfl) ?_;rintro gv A outer s H E ds S R Z v hr ⟨cs,l,rs,wy,e,C,hl,hn,z,o,q⟩;subst e;have n:AQ ((rs.map ag).map Se):=.inl {rs.map Prod.fst,by rw[zy,zy];rfl};have un:rs.Pairwise λa b=>a.1≠b.1:=z.unlike;have m:(rs.map ag).length<64:=by rw[zb];exact hn
 refine{_,(sc (si (aR aK hr.u (dv 1) ds) (s1<|sr<|OP (N:=["row"]) (src:=[none]) (v.trans T.gB) ⟨T.dW,B⟩ hr (Vo (aj g_) ["rows","way"] rfl rfl<|by trivial) (dv 0) (λ_ _ _ _=>(ix (hr.in1.in1.deeper _).units (dv 0) di)) T.h_ fw) s0)<|s1<|sr<|WJ (N:=["row"]) (src:=[none]) (v.trans T.gB) ⟨T.dW,B⟩ hr (Vo (aj g_) ["rows","way"] rfl rfl<|by trivial) (dv 0) (λ_ _ _ _=>(ix (hr.in1.in1.deeper _).units (dv 0) di)) T.h_ fw),?_};rcases xH C with rfl|rfl;refine !!⟨bI !{l,rs.map ag,Se,rfl,hl,m,o,n,λx hx S' c I i=>?_,λg G p hg c hp=>?_}⟩;obtain⟨r,hr,rfl⟩:=zh.mp hx;exact !!⟨i S'<|.refl _⟩;obtain⟨dR,e,pm,h⟩:=nB hg;rw[e];refine{S.set p<|.lst<|dR.map ag,cO c,q dR p pm (h _ _ un (λx y hx d j=>?_) λx y hx d e ne=>absurd (D.str.inj e) ne)<|cH c hp};show(n6 x.1 y.1==ω (("up": ρ) ="up"))=ϱ;have:n6 x.1 y.1=ϱ:=zx j;rw[this];rfl;refine !!⟨jh !{l,rs.map ag,Se,rfl,hl,m,o,n,λx hx S' c I i=>?_,λg G p hg c hp=>?_}⟩;obtain⟨r,hr,rfl⟩:=zh.mp hx;exact !!⟨i S'<|.refl _⟩;obtain⟨dR,e,pm,h⟩:=nB hg;rw[e];refine{S.set p<|.lst<|dR.map ag,cO c,q dR p pm (h _ _ un (λx y hx d j=>?_) λx y hx d e ne=>absurd (D.str.inj e) ne)<|cH c hp};show(n6 x.1 y.1==ω (("down": ρ) ="up"))=ϱ;have:n6 y.1 x.1=ϱ:=zx j;by_cases e:x.1=y.1;rw[e,Fj]at this;cases this;rw[kM e]at this;have h2:n6 x.1 y.1=ϰ:=by simpa using this
 rw[h2,zw<|by trivial];rfl
inductive Km (t:gY) (ds:δ D) (S:ak) (R:KD) (Z:KX):η where
 |mk (cs:δ<|ρ×ρ) (ps:δ Part) (p:Part) (wy:ρ) (l:ε) (rs:δ Row) (_:ds=[.tup<|cs.map aA,p3 p,.ref l]) (_:Gd cs) (_:Pin cs<|p::ps) (_:pz p.2.1=ϱ) (_:S l=ϑ (.lst<|rs.map ag)) (_:rs.length<64) (_:Rg cs rs) (_:(∀r∈rs,valued cs p r=ϱ)) (_:(rs.Pairwise λa b=>bJ cs wy ps a b=ϱ)) (_:S t.aJ=ϑ (.tab qV)) (_:∀(dR:δ Row)(a:ε),dR.Perm rs->(dR.Pairwise λa b=>bJ cs wy (p::ps) a b=ϱ)->S a=ϐ->R (.ref a) (S.set a<|.lst<|dR.map ag))
theorem DR{α:Type}{f:α->D}{β:Type}{mk:β->D} : ∀{l:δ α},(∀x∈l,∃b,f x=mk b)->∃bs:δ β,l.map f=bs.map mk|[],_=>{[],rfl}|x::l,h=>by obtain⟨b,e⟩:=h x zq;obtain⟨bs,e2⟩:=DR λy a=>h y<|zg _ a;exact{b::bs,by rw[zA,e,e2];rfl}
theorem Hl{cs:δ<|ρ×ρ}{p:Part}{k:ρ}{rs:δ Row}(hk:∀r∈rs,Vg k<|ai cs r.2 p.1)(c:∀r∈rs,valued cs p r=ϱ):AQ ((rs.map ag).map<|DQ cs p.1):=by
 rw[zy];have a:∀r∈rs,ai cs r.2 p.1≠.ay:=λr hr=>aV (by have:=c r hr;unfold valued at this;simpa using this);by_cases e:k ="number";refine .inr<|DR λr hr=>?_;have h1:=hk r hr;have h2:=a r hr;show ∃b,ai cs r.2 p.1=.int b;generalize ai cs r.2 p.1=v at h1 h2;cases v with|ay=>exact absurd rfl h2|int i=>exact⟨i,rfl⟩|str z=>(have h1:=h1.1;unfold iY at h1;simp only[ah,Bool.false_or]at h1;rw[qb e]at h1;cases h1)|_=>cases h1.2
 refine .inl<|DR λr hr=>?_;have h1:=hk r hr;have h2:=a r hr;show ∃b,ai cs r.2 p.1=.str b;generalize ai cs r.2 p.1=v at h1 h2;cases v with|ay=>exact absurd rfl h2|str i=>exact⟨i,rfl⟩|int z=>(have h1:=h1.1;unfold iY at h1;simp only[ah,Bool.false_or]at h1;rw[qa e]at h1;cases h1)|_=>cases h1.2
theorem Ko{cs:δ<|ρ×ρ}{wy:ρ}{ps:δ Part}{p:Part}{x y:Row}(nx:valued cs p x=ϱ)(a:valued cs p y=ϱ)(ne:k_ (ai cs x.2 p.1) (ai cs y.2 p.1)=ϰ)(h:(tK (ai cs x.2 p.1) (ai cs y.2 p.1)==ω (p.2.1 ="up"))=ϱ):bJ cs wy (p::ps) x y=ϱ:=by
 unfold valued at nx a;have nx:ah (ai cs x.2 p.1)=ϰ:=by simpa using nx
 have a:ah (ai cs y.2 p.1)=ϰ:=by simpa using a
 show(if k_ (ai cs x.2 p.1) (ai cs y.2 p.1)=ϱ then bJ cs wy ps x y else cG p (ai cs x.2 p.1) (ai cs y.2 p.1))=ϱ;rw[ne,qa zd];unfold cG;rw[nx,a,qa<|by simp];exact h
theorem Kq{x y:D}(h:tK x y=ϱ):k_ x y=ϰ:=by rcases Sa h with⟨i,j,rfl,rfl,h1⟩|⟨i,j,rfl,rfl,h1⟩<;>exact zw λe=>by rw[e,Nu]at h;cases h
theorem Kr(x y:D):k_ x y=k_ y x:=by cases x<;>cases y<;>first|rfl|exact decide_eq_decide.mpr ⟨Eq.symm,Eq.symm⟩
theorem lg(T:Txt w K mg t)(B:Bm mg base):Ok P w base T.eJ 6 (Km t):=by
 refine T.eJ.F.okC (k:=5) k9 (by rintro ds S R Z ⟨_,_,_,_,_,_,e,_⟩;rw[e];rfl) ?_;rintro gv A outer s H E ds S R Z O hr ⟨cs,ps,p,wy,l,rs,e,hg,G,Lz,hl,hn,j,o,M,Q,q⟩;subst e;obtain⟨c,X,L⟩:=G p zq;obtain⟨k,hk⟩:=rC hg G;have J:AQ ((rs.map ag).map<|DQ cs p.1):=Hl (λr hr=>hk _<|j.1 r hr) o;have I:(rs.map ag).length<64:=by rw[zb];exact hn
 have same:∀x y:Row,x∈rs->y∈rs->DQ cs p.1 (ag x)=DQ cs p.1 (ag y)->bJ cs wy ps x y=ϱ->bJ cs wy (p::ps) x y=ϱ:=λx y hx i e h=>by show(if k_ (ai cs x.2 p.1) (ai cs y.2 p.1)=ϱ then bJ cs wy ps x y else _)=ϱ;rw[qb<|(aT (hk _<|j.1 x hx).2 (hk _<|j.1 y i).2).mpr e];exact h
 have step:∀x,x∈rs.map ag->∀z:KD,∀S':ak,z (DQ cs p.1 x) S'->∀Zq,l7 [D.tup<|cs.map aA,x,.str p.1] S' z Zq:=λx hx z S' v _=>by obtain⟨r,hr,rfl⟩:=zh.mp hx;exact{cs,r,c,by rw[L],hg,j.1 r hr,X,by rw[L];exact v}
 refine{_,(sc (si (aR aK hr.u (ix hr.u (dv 1) di) ds) (s1<|sr<|OP (N:=["row","columns","part"]) (src:=[none,some 0,some 1]) (O.trans T.fj) ⟨T.dk,B⟩ hr (Vo (aj fJ) ["columns","part","rows"] rfl rfl<|by trivial) (dv 2) (λ_ _ _ _=>(cf ((dQ T).mono<|by decide) (hr.in1.in1.deeper _) T.cE.m T.cE.k T.cE.b d0<|ap 1<|ap 0<|ac (ix (hr.in1.in1.deeper _).units (dv 2) di) an)) T.h_ fw) s0)<|s1<|sr<|WJ (N:=["row","columns","part"]) (src:=[none,some 0,some 1]) (O.trans T.fj) ⟨T.dk,B⟩ hr (Vo (aj fJ) ["columns","part","rows"] rfl rfl<|by trivial) (dv 2) (λ_ _ _ _=>(cf ((dQ T).mono<|by decide) (hr.in1.in1.deeper _) T.cE.m T.cE.k T.cE.b d0<|ap 1<|ap 0<|ac (ix (hr.in1.in1.deeper _).units (dv 2) di) an)) T.h_ fw),?_};rcases xH Lz with e1|e1;refine !!!⟨kK (by rw[e1];decide +kernel) !{l,rs.map ag,DQ cs p.1,rfl,hl,I,Q,J,λx hx S' n z v=>!!!!⟨step x hx _ S' (v S'<|.refl _) _⟩,λg S2 a hg n ha=>?_}⟩;obtain⟨dR,e,pm,h⟩:=nB hg;rw[e];refine{S.set a<|.lst<|dR.map ag,cO n,q dR a pm (h _ _ M (λx y hx i d=>?_) same)<|cH n ha};have d:=Ki (a:=ai cs x.2 p.1) (b:=ai cs y.2 p.1) d;exact Ko (o x hx) (o y i) (Kq d) (by rw[d,zx e1];rfl);refine !!!⟨ify (by rw[e1];decide +kernel) !{l,rs.map ag,DQ cs p.1,rfl,hl,I,Q,J,λx hx S' n z v=>!!!!⟨step x hx _ S' (v S'<|.refl _) _⟩,λg S2 a C n ha=>?_}⟩;obtain⟨dR,e,pm,h⟩:=nB C;rw[e];refine{S.set a<|.lst<|dR.map ag,cO n,q dR a pm (h _ _ M (λx y hx i d=>?_) same)<|cH n ha};have d:=Ki (a:=ai cs y.2 p.1) (b:=ai cs x.2 p.1) d;have ne:=Kq d;refine Ko (o x hx) (o y i) (by rw[Kr];exact ne) ?_;have U:∀r∈rs,ai cs r.2 p.1≠.ay:=λr hr=>aV (by have:=o r hr;unfold valued at this;simpa using this);have Y:ai cs x.2 p.1≠ai cs y.2 p.1:=λe=>by have:=(aT (hk _<|j.1 y i).2 (hk _<|j.1 x hx).2).mpr e.symm;rw[ne]at this;cases this
 have:=nA (hk _<|j.1 x hx) (hk _<|j.1 y i) (U x hx) (U y i) Y;rw[d]at this;have h2:tK (ai cs x.2 p.1) (ai cs y.2 p.1)=ϰ:=by simpa using this
 rw[h2,e1,zw<|by trivial];rfl
def Tb(t:gY)(S:ak):Prop:=S t.aQ=ϑ (.tab qK)/\S t.aJ=ϑ (.tab qV)
theorem Tb.sub{t:gY}{S S':ak}(h:Tb t S)(s:Sub S S'):Tb t S':={s _ _ h.1,s _ _ h.2}
noncomputable def Fn(b:χ)(cs:δ<|ρ×ρ)(p:Part):D->χ|.tup [_,.tup ws]=>ah (ai cs ws p.1)==b|_=>false
theorem pC{rs:δ Row}{f:D->χ}{g:Row->χ}(h:∀r,f (ag r)=g r):((rs.map ag).filter f).map id=(rs.filter g).map ag:=by rw[List.map_id,List.filter_map];exact congrArg (List.map ag)<|List.filter_congr λr _=>h r
inductive Kt (t:gY) (ds:δ D) (S:ak) (R:KD) (Z:KX):η where
 |mk (cs:δ<|ρ×ρ) (ps:δ Part) (p:Part) (wy:ρ) (l:ε) (rs:δ Row) (_:ds=[.tup<|cs.map aA,p3 p,.ref l]) (_:Gd cs) (_:Pin cs<|p::ps) (_:pz p.2.1=ϱ) (_:S l=ϑ (.lst<|rs.map ag)) (_:rs.length<64) (_:Rg cs rs) (_:(rs.Pairwise λa b=>bJ cs wy ps a b=ϱ)) (_:Tb t S) (_:∀(dR:δ Row)(a:ε),dR.Perm rs->(dR.Pairwise λa b=>bJ cs wy (p::ps) a b=ϱ)->S a=ϐ->R (.ref a) (S.set a<|.lst<|dR.map ag))
theorem nD(T:Txt w K mg t)(B:Bm mg base):Ok P w base T.fP 7 (Kt t):=by
 refine T.fP.F.b_ cN ?_;obtain⟨cs,ps,p,wy,l,rs,e,hg,I,Y,hl,hn,C,L,Z,q⟩;obtain⟨c,H,v⟩:=I p zq;have hz:(rs.map ag).length<=1000:=by rw[zb];lia
 refine{_,(sc (uA (N:=["row","columns","part"]) (src:=[none,some 0,some 1]) 3 cN.nd (lR hG) (il<|dv 2) (if1<|aR gq hr.u (aU T.cE (dQ T) hr<|ap 1<|ap 0<|ac (ix hr.u (dv 2) di) an) dn)<|dv 0)<|sc (uA (N:=["row","columns","part"]) (src:=[none,some 0,some 1]) 4 cN.nd (lR hG) (il<|dv 2) (if1<|aR dJ hr.u (aU T.cE (dQ T) hr<|ap 1<|ap 0<|ac (ix hr.u (dv 2) di) an) dn)<|dv 0)<|sc (bR (i:=4) cN.nd<|aU T.eJ (lg T B) hr<|ap 0<|ap 1<|ap 4 an)<|s1<|sr<|TH (aR aK hr.u (ix hr.u (dv 1) di) ds) (bo aS hr.u (dv 3)<|dv 4)<|bo aS hr.u (dv 4)<|dv 3),?_};refine !{_,hl,?_};refine eP (Fn true cs p) id hl hz (λd hd Q Q' y G=>?_) λn X=>?_;obtain⟨r,hr,rfl⟩:=zh.mp hd;refine !!!!{cs,r,c,(show[D.tup<|cs.map aA,ag r,D.str p.1]=[_,_,D.str c.1] by rw[v]),hg,C.1 r hr,H,?_};rw[v];refine{_,rfl,bC (λh=>!⟨y ?_⟩) λh=>G ?_};show(ah (ai cs r.2 p.1)==true)=ϱ;rw[show ah (ai cs r.2 p.1)=ϱ from h];rfl;show(ah (ai cs r.2 p.1)==true)=ϰ;rw[show ah (ai cs r.2 p.1)=ϰ from h];rfl;have e1:((rs.map ag).filter<|Fn true cs p).map id=(rs.filter λr=>!valued cs p r).map ag:=pC λr=>by show(ah (ai cs r.2 p.1)==true)=!valued cs p r;unfold valued;cases ah (ai cs r.2 p.1)<;>rfl
 rw[show({rs.map ag,λS=>qX S (.ref l)<|rs.map ag}:n8).xs=rs.map ag from rfl,e1];have m:Sub S (S.set n<|.lst<|(rs.filter λr=>!valued cs p r).map ag):=.new X;have h1:(S.set n<|.lst<|(rs.filter λr=>!valued cs p r).map ag) n=ϑ (.lst<|(rs.filter λr=>!valued cs p r).map ag):=aa;generalize S.set n (.lst<|(rs.filter λr=>!valued cs p r).map ag)=S1 at m h1⊢;have R:=m _ _ hl;refine !{_,R,?_};refine eP (Fn false cs p) id R hz (λd hd Q Q' y G=>?_) λp2 M=>?_;obtain⟨r,hr,rfl⟩:=zh.mp hd;refine !!!!{cs,r,c,(show[D.tup<|cs.map aA,ag r,D.str p.1]=[_,_,D.str c.1] by rw[v]),hg,C.1 r hr,H,?_};rw[v];refine{_,rfl,bC (λh=>!⟨y ?_⟩) λh=>G ?_};show(ah (ai cs r.2 p.1)==false)=ϱ;rw[show ah (ai cs r.2 p.1)=ϰ from nt h];rfl;show(ah (ai cs r.2 p.1)==false)=ϰ;rw[show ah (ai cs r.2 p.1)=ϱ from nf h];rfl;have e2:((rs.map ag).filter<|Fn false cs p).map id=(rs.filter<|valued cs p).map ag:=pC λr=>by show(ah (ai cs r.2 p.1)==false)=valued cs p r;unfold valued;cases ah (ai cs r.2 p.1)<;>rfl
 rw[show({rs.map ag,λS=>qX S (.ref l)<|rs.map ag}:n8).xs=rs.map ag from rfl,e2];have z:Sub S (S1.set p2<|.lst<|(rs.filter<|valued cs p).map ag):=m.trans<|.new M;have j:(S1.set p2<|.lst<|(rs.filter<|valued cs p).map ag) n=_:=(ae<|gM h1 M).trans h1;have o:(S1.set p2<|.lst<|(rs.filter<|valued cs p).map ag) p2=_:=aa;generalize S1.set p2 (.lst<|(rs.filter<|valued cs p).map ag)=x at z j o⊢;have fl:(rs.filter<|valued cs p).length<=rs.length:=yE _ _;have a0:(rs.filter λr=>!valued cs p r).length<=rs.length:=yE _ _;refine !!!{cs,ps,p,wy,p2,rs.filter<|valued cs p,rfl,hg,I,Y,o,by lia,C.sub yN,λr hr=>(ye.mp hr).2,L.sublist yN,(Z.sub z).2,λV p3 O YR J=>?_};obtain⟨pm,pw⟩:=Hk L O YR;have a:(x.set p3<|.lst<|V.map ag) n=_:=(ae<|gM j J).trans j;have g:(x.set p3<|.lst<|V.map ag) p3=ϑ (.lst<|V.map ag):=aa;have s:Sub S (x.set p3<|.lst<|V.map ag):=z.trans<|.new J;generalize x.set p3 (.lst<|V.map ag)=S3 at a g s⊢;have U:=O.length_eq;refine !!!⟨bC (λh=>?_) λh=>?_⟩;rw[qb<|zG h]at pm pw;refine !!{_,_,a,g,sm<|by rw[zb,zb];lia,λE A=>?_};rw[<-zI];exact{_,cO s,q _ E pm pw<|cH s A};rw[qa<|yn h]at pm pw;refine !!{_,_,g,a,sm<|by rw[zb,zb];lia,λE A=>?_};rw[<-zI];exact{_,cO s,q _ E pm pw<|cH s A}
structure Og(cs:δ (ρ×ρ))(ps:δ Part)(wy:ρ):η where
 pin:Pin cs ps
 abI:∀p∈ps,pz p.2.1=ϱ
 way:pz wy=ϱ
 ok:Kb cs ps wy=ϱ
 tx:∀p∈ps,Pok p
noncomputable def cI(ps:δ Part)(wy:ρ):D:=.tup [.tup<|ps.map p3,.str wy]
inductive Ew (S:ak) (cs:δ<|ρ×ρ) (ps:δ Part) (wy:ρ) (l:ε) (rs:δ Row) (qs:δ Part) (av:SD) (S':ak):η where
 |mk (o:θ D) (p:ε) (dR:δ Row) (_:av=[some<|.tup<|cs.map aA,some<|cI ps wy,some<|.ref l,some<|.ref p,o]) (_:S p=ϐ) (_:S' p=ϑ (.lst<|dR.map ag)) (_:Sub S S') (_:dR.Perm rs) (_:dR.Pairwise λa b=>bJ cs wy qs a b=ϱ):Ew S cs ps wy l rs qs av S'
inductive Pa (t:gY) (ds:δ D) (S:ak) (R:KD) (Z:KX):η where
 |mk (cs:δ<|ρ×ρ) (ps:δ Part) (wy:ρ) (l:ε) (rs:δ Row) (_:ds=[.tup<|cs.map aA,cI ps wy,.ref l]) (_:Gd cs) (_:Og cs ps wy) (_:S l=ϑ (.lst<|rs.map ag)) (_:rs.length<64) (_:Rg cs rs) (_:Tb t S) (_:∀(dR:δ Row)(a:ε),dR.Perm rs->(dR.Pairwise λa b=>bJ cs wy ps a b=ϱ)->S a=ϐ->R (.ref a) (S.set a<|.lst<|dR.map ag))
structure Vw(C:ε)(S:ak)(a:ε)(cs:δ (ρ×ρ))(m:D)(rows:δ Row):η where
 sh:∃F dl rs,cF C S a F cs dl rs/\rs.length<64/\uI dl.length m≠none/\∀i ss,uI dl.length m=ϑ i->ss.Perm (rs.map (·.1))->PyProof.Rows.sortedS ss=ϱ->l5 rs i ss=rows.map ag
 mo:Gt S m
 len:rows.length<64
 rg:Rg cs rows
theorem cF.sub(b:Sub S S')(h:cF C S a F cs dl rs):cF C S' a F cs dl rs:=by obtain⟨ld,lr,ra,h,e⟩:=h;exact{ld,lr,ra,{b _ _ h.ins,b _ _ h.BP,b _ _ h.run,λr hr=>b _ _<|h.cell r hr,h.kn,h.an,h.sz},e}
theorem Bp(T:Txt w K mg t)(B:Bm mg base):Ok P w base T.sR 8 (Pa t):=by
 refine T.sR.F.b_ gE ?_;obtain⟨cs,ps,wy,l,rs,e,hg,ho,hl,hn,A,C,q⟩;refine{_,(sc (bR (i:=3) gE.nd<|aU T.fL (nC T B) hr<|ap 2<|ac (ix hr.u (dv 1) di) an)<|sc (qB<|AG (irt T.sP<|ac (ix hr.u (dv 1) di) an) (gn (i:=4) gE.nd)<|s1<|bR (i:=3) gE.nd<|aU T.fP (nD T B) hr<|ap 0<|ap 4<|ap 3 an)<|s1<|sr<|dv 3),?_};refine !!!{cs,l,rs,wy,rfl,ho.way,hl,hn,A,C.1,λr I n y z=>?_};have v:ps.reverse.length=ps.length:=yM;refine{Ew S cs ps wy l rs ps,?_,?_};refine !!!⟨?_⟩;refine{λi=>Ew S cs ps wy l rs (ps.reverse.take i).reverse,{none,I,r,rfl,z,aa,.new z,n,y},λ_ _ _ _=>trivial,?_,?_};rintro i d av S' hd ⟨o,p,dR,rfl,hp,h,sb,pm,pw⟩;have hd:(ps.map p3).reverse[i]?=some d:=hd;rw[<-List.map_reverse,zm]at hd;cases m:ps.reverse[i]? with|none=>(rw[m]at hd;cases hd)|some pt=>rw[m]at hd;cases hd;have E:pt∈ps:=List.mem_reverse.mp<|zD m;have H:(ps.reverse.take<|i+1).reverse=pt::(ps.reverse.take i).reverse:=(by rw[List.take_add_one,m,List.reverse_append];rfl);have L:Pin cs (pt::(ps.reverse.take i).reverse):=λx hx=>(by rcases zj.mp hx with rfl|hx;exact ho.pin _ E;exact ho.pin _<|List.mem_reverse.mp<|List.mem_of_mem_take<|List.mem_reverse.mp hx);refine !!!{cs,(ps.reverse.take i).reverse,pt,wy,p,dR,rfl,hg,L,ho.abI pt E,h,by rw[pm.length_eq];exact hn,A.perm pm,pw,C.sub sb,λJ p2 s g G=>?_};rw[<-H]at g;exact{_,p2,J,rfl,cH sb G,aa,sb.trans<|.new G,s.trans pm,g}
 rintro av S' ⟨o,p,dR,rfl,hp,h,sb,pm,pw⟩;have pw:dR.Pairwise λa b=>bJ cs wy (ps.reverse.take (ps.map p3).reverse.length).reverse a b=ϱ:=pw;rw[yM,zb,List.take_of_length_le<|Nat.le_of_eq v,List.reverse_reverse]at pw;exact fo ⟨o,p,dR,rfl,hp,h,sb,pm,pw⟩;rintro av S' ⟨o,p,dR,rfl,hp,h,sb,pm,pw⟩;refine !{S.set p<|.lst<|dR.map ag,λb c j=>?_,q dR p pm pw hp};by_cases e:b=p;subst e;rw[aa]at j;cases j;exact h;rw[ae e]at j;exact sb b c j
noncomputable def Bq(cs:δ<|ρ×ρ)(d:D):D->χ|.tup [.str k,.tup ws]=>aW cs (k,ws) 7 d|_=>false
inductive Ku (t:gY) (ds:δ D) (S:ak) (R:KD) (Z:KX):η where
 |mk (a cs d m rows) (_:ds=[.ref a,d,m]) (_:Gd cs) (_:Sq cs d) (_:Vw t.ar S a cs m rows) (_:∀p,S p=ϐ->R (.ref p) (S.set p<|.lst<|(rows.filter λr=>aW cs r 7 d).map ag))
theorem qJ(T:Txt w K mg t):Ok P w base T.iT 11 (Ku t):=by refine T.iT.F.b_ jj ?_;obtain⟨a,cs,d,m,rows,e,hg,hd,c,q⟩;obtain⟨F,dl,rs,g,hn,j,l⟩:=c.sh;obtain⟨ld,lr,ra,h,_⟩:=id g;refine{_,(sc (bR (i:=3) jj.nd<|wM (dv 0) T.aq T.a_ (cW T) hr)<|s1<|sr<|y_ (N:=["row","columns","sieve"]) (src:=[none,some 3,some 1]) (lR sL) (il<|q9 (dv 0) T.aq T.iR (Hb T) hr<|ap 2 an) (if1<|tv<|aU T.passes (iw T 7) hr<|ap 1<|ap 2<|ap 0 an)<|dv 0),?_};refine !{a,_,rfl,h.ins,rfl,a,F,cs,dl,rs,rfl,g,?_};refine !{a,_,rfl,h.ins,rfl,_,rfl,a,F,cs,dl,rs,m,rfl,g,hn,c.mo,λi ss hi hp v p n=>?_,λh=>absurd h j};rw[l i ss hi hp v];refine{_,aa,?_};refine eP (Bq cs d) id aa (by show(rows.map ag).length<=1000;rw[zb];have:=c.len;lia) (λx hx Q z o y=>?_) λp2 s=>?_;obtain⟨r,hr,rfl⟩:=zh.mp hx;refine !!!{cs,d,r,rfl,hg,hd.1,c.rg.1 r hr,_,rfl,bC (λh=>!⟨o h⟩) λh=>y h};have e1:((rows.map ag).filter<|Bq cs d).map id=(rows.filter λr=>aW cs r 7 d).map ag:=pC λr=>rfl;rw[show({rows.map ag,λS=>qX S (.ref p)<|rows.map ag}:n8).xs=rows.map ag from rfl,e1];exact{_,cO<|.new n,q p2<|cH (.new n) s}
inductive Xh (t:gY) (ds:δ D) (S:ak) (R:KD) (Z:KX):η where
 |mk (a cs ps wy d m rows) (_:ds=[.ref a,cI ps wy,d,m]) (_:Gd cs) (_:Og cs ps wy) (_:Sq cs d) (_:Vw t.ar S a cs m rows) (_:Tb t S) (_:∀(dR:δ Row)(p:ε),dR.Perm (rows.filter λr=>aW cs r 7 d)->(dR.Pairwise λa b=>bJ cs wy ps a b=ϱ)->S p=ϐ->R (.ref p) (S.set p<|.lst<|dR.map ag))
theorem nE(T:Txt w K mg t)(B:Bm mg base):Ok P w base T.fO 12 (Xh t):=by refine T.fO.F.b_ mY ?_;obtain⟨a,cs,ps,wy,d,m,rows,e,hg,ho,hd,c,l,q⟩;obtain⟨F,dl,rs,g,hn,i,j⟩:=c.sh;obtain⟨ld,lr,ra,h,_⟩:=id g;refine{_,(s1<|sr<|aU T.sR (Bp T B) hr<|ac (wM (dv 0) T.aq T.a_ (cW T) hr)<|ap 1<|ac (aU T.iT (qJ T) hr<|ap 0<|ap 2<|ap 3 an) an),?_};refine !{a,_,rfl,h.ins,rfl,a,F,cs,dl,rs,rfl,g,?_};refine !!!!{a,cs,d,m,rows,rfl,hg,hd,c,λp hp=>?_};have fl:(rows.filter λr=>aW cs r 7 d).length<=rows.length:=yE _ _;have:=c.len;refine{cs,ps,wy,p,rows.filter λr=>aW cs r 7 d,rfl,hg,ho,aa,Nat.lt_of_le_of_lt fl this,c.rg.sub yN,l.sub<|.new hp,λdR p2 pm pw n=>?_};exact{_,cO<|.new hp,q dR p2 pm pw<|cH (.new hp) n}
theorem Sf:Gt S (.tup ws):={{.tup,rfl},λ_=>nofun}
theorem Ny(h:ws.length<=1000)(g:∀v∈ws,Gt S v):T_ S (.tup ws):={Sf,λa e=>by cases e;exact⟨h,g⟩}
theorem gt_int:Gt S (.int i):={{.int,rfl},λ_=>nofun}
theorem Fp(h:z.cps.size<=1000):Gt S (.str z):={{.str,rfl},λa e=>by cases e;exact h}
theorem Kv(h:bc d=ϱ):Gt S d:=by cases d with|ay=>exact tw|int i=>exact gt_int|str z=>have h:(ω (z.cps.size<=40)&&PyData.strOk z)=ϱ:=h;rw[zJ]at h;have:=zG h.1;exact Fp (by lia)|_=>cases h
theorem DU(h:Paired rel cs ws):ws.length=cs.length:=by induction h with|nil=>rfl|cons _ _ a=>rw[zR,zR,a]
theorem Wg.len(h:Wg cs ws):ws.length=cs.length:=DU h
theorem Wg.Sh(h:Wg cs ws):ng cs (.tup ws)=ϱ:=by show(ω (ws.length=cs.length)&&(List.zipWith (λc v=>iY c.2 v) cs ws).all id)=ϱ;rw[zx h.len,yp];unfold Wg at h;induction h with|nil=>rfl|cons r t a=>rw[List.zipWith_cons_cons,List.all_cons,a];show(id (iY _ _)&&true)=ϱ;rw[show id (iY _ _)=ϱ from r.1];rfl
theorem Wg.gts(h:Wg cs ws)(c:cs.length<=8):T_ S (.tup ws):=Ny (by rw[h.len];lia) λv a=>Kv<|h.all v a
theorem Nz(hg:Gd cs)(g:∀c∈cs,c.1∈BQ):∀d∈cs.map aA,Ly S 60 d:=λd hd=>by obtain⟨c,a,rfl⟩:=zh.mp hd;refine(Ly.tup (n:=0) λx hx=>?_).le (by decide);have hx:x∈[D.str c.1,D.str c.2]:=hx;simp only[zj,zN,or_false]at hx;rcases hx with rfl|rfl;exact Ly.str (J2 _<|g c a).2;rcases (hg.2.2 c a).2 with e|e<;>rw[e]<;>exact Ly.str (by trivial)
theorem NA{S:ak}{a b:ε}{ds:δ D}{R:KD}(e1:S a=ϑ (.lst ds))(e2:S b=ϑ (.lst []))(h:∀d∈ds,Ly S 60 d)(q:R (.bl<|!ds.isEmpty) S):HJ true (.ref a) (.ref b) S R:=by obtain⟨ps,e,g,i,c⟩:=Ly.all h;refine{.list ps,.list [],⟨ds,ps,e1,rfl,e⟩,{[],[],e2,rfl,by simp only[DpAll]},by simp only[PyData.canLay0];exact g,by simp only[PyData.canLay0,PyData.canLayAll0],.inl<|by simp only[PyData.depth];lia,?_};rw[qb rfl,tG,show ps.isEmpty=ds.isEmpty by cases ps<;>cases ds<;>first|rfl|cases c];exact q
theorem NB{n a b tn:π}(ha:a<n)(c:b<n)(h:(a+tn)%n=(b+tn)%n):a=b:=by rcases Nat.lt_trichotomy a b with l|l|l;have:=Nat.sub_mod_eq_zero_of_mod_eq h.symm;rw[show b+tn-(a+tn)=b-a by lia,Nat.mod_eq_of_lt<|by lia]at this;lia;exact l;have:=Nat.sub_mod_eq_zero_of_mod_eq h;rw[show a+tn-(b+tn)=a-b by lia,Nat.mod_eq_of_lt<|by lia]at this;lia
noncomputable def vK(cs:δ<|ρ×ρ)(tn k:π):Str:=(cs.getD ((tn+k)%cs.length) ("","")).1
theorem Br(h:0<cs.length):∃c∈cs,cs[(tn+k)%cs.length]?=some c/\c.1=vK cs tn k:=by have a:(tn+k)%cs.length<cs.length:=Nat.mod_lt _ h;refine{cs[(tn+k)%cs.length],List.getElem_mem a,zf a,?_};unfold vK;rw[zM,zf a];rfl
theorem Bs{cs:δ<|ρ×ρ}(hg:(cs.map Prod.fst).Nodup){tn i:π}(hi:i<=cs.length):((List.range i).map<|vK cs tn).Nodup:=by
 refine List.pairwise_map.mpr<|List.nodup_range.imp_of_mem λ{a b} ha g n e=>n ?_;have ha:=zW.mp ha;have g:=zW.mp g;have h0:0<cs.length:=by lia
 have c:(tn+a)%cs.length<cs.length:=Nat.mod_lt _ h0;have d:(tn+b)%cs.length<cs.length:=Nat.mod_lt _ h0;unfold vK at e;rw[zM,zf c,zM,zf d]at e;have e:(cs[(tn+a)%cs.length]).1=(cs[(tn+b)%cs.length]).1:=e;have e2:(cs.map Prod.fst)[(tn+a)%cs.length]'(by rw[zb];exact c)=(cs.map Prod.fst)[(tn+b)%cs.length]'(by rw[zb];exact d):=by rw[List.getElem_map,List.getElem_map];exact e
 have e3:=(List.getElem_inj hg).mp e2;rw[Nat.add_comm tn a,Nat.add_comm tn b]at e3;exact NB (n:=cs.length) (by lia) (by lia) e3
inductive Ow (S1:ak) (cs:δ<|ρ×ρ) (c0:ν) (lx lp:ε) (k tn i:π) (av:SD) (S':ak):η where
 |mk (o5 o6:θ D) (ps:δ Part) (_:av=[some<|.tup<|cs.map aA,some<|.int c0,some<|.ref lx,some<|.int (k:π),some<|.ref lp,o5,o6]) (_:ps.map Prod.fst=(List.range i).map (vK cs tn)) (_:∀p∈ps,pz p.2.1=ϱ/\Ka p.2.2=ϱ) (_:S'=S1.set lp (.lst<|ps.map p3)):Ow S1 cs c0 lx lp k tn i av S'
inductive vL (ds:δ D) (S:ak) (R:KD) (Z:KX):η where
 |mk (cs:δ<|ρ×ρ) (c:ν) (_:ds=[.tup<|cs.map aA,.int c]) (_:Gd cs) (_:∀(ps:δ Part)(wy:ρ),Og cs ps wy->R (cI ps wy) S)
theorem Kw(T:Txt w K mg t):Ok P w base T.w9 2 vL:=by
 refine T.w9.F.b_ eO ?_;obtain⟨cs,c0,e,hg,q⟩;have X:=hg.1;have A:(cs.map aA).length=cs.length:=zb _;refine{_,(sc (bR (i:=2) eO.nd<|aU T.gD (iq T) hr<|ap 1<|ac di an)<|sc (bR (i:=3) eO.nd<|cb V5 T.W7 QZ<|ac (cb ba T.aX aI<|ap 0 an)<|ac (xZ<|ix hr.u (bT<|ac di<|ac di<|ac di<|ac di<|ac di<|ac di<|ac di<|ac di an)<|bo bh hr.u (ix hr.u (dv 2) di) di) an)<|sc (bR (i:=4) eO.nd<|bT an)<|sc (qB<|AG (MN T.fq<|ap 3 an) (gn (i:=5) eO.nd)<|sc (bR (i:=6) eO.nd<|ix hr.u (ix hr.u (dv 0)<|bo bh hr.u (bo aS hr.u (ix hr.u (dv 2) di)<|dv 5)<|cb ba T.aX aI<|ap 0 an) di)<|s1<|se<|bm zQ z0 ya cA (dv 4)<|ac (bq<|ap 6<|ac (xZ<|ix hr.u (bT<|ac ds<|ac ds an)<|bo bh hr.u (ix hr.u (dv 2)<|bo aS hr.u di<|dv 5) di)<|ac (xZ<|ix hr.u (bT<|ac ds<|ac ds an)<|bo bh hr.u (bo dh hr.u (ix hr.u (dv 2)<|bo aS hr.u di<|dv 5) di) di) an) an)<|s1<|sr<|bq<|ac (ct iM T.bz aZ<|ap 4 an)<|ac (xZ<|ix hr.u (bT<|ac ds<|ac ds an)<|bo bh hr.u (ix hr.u (dv 2) di) di) an),?_};refine !{c0,12,rfl,by decide,λxs lx U hx M=>?_};have s1:=Sub.new (c:=.lst<|xs.map D.int) M;have n:(S.set lx<|.lst<|xs.map D.int) lx=ϑ (.lst<|xs.map D.int):=aa;generalize S.set lx (.lst<|xs.map D.int)=S1 at s1 n⊢;have at_:∀k:π,k<12->∃x:ν,gI (xs.map D.int) ((k:π):ν)=ϑ (.int x)/\0<=x:=λk hk=>kl (by lia) (by rw[zb];lia) hx;obtain⟨x0,Q,_⟩:=at_ 0 (by decide);obtain⟨R,e1,C⟩:=at_ 1 (by decide);obtain⟨H,N,_⟩:=at_ 11 (by decide);obtain⟨tn,rfl⟩:=Int.eq_ofNat_of_zero_le C;refine !!{G6,λp hp=>!{_,_,(Sub.new hp) _ _ n,Q,by decide,cz (zV _<|by decide) (zU _<|by decide) hp λd hd=>?_}};obtain⟨m,rfl⟩:∃m:π,d=.int m:=by have hd:d∈[D.int 1,.int 2,.int 0,.int 3,.int 1,.int 2,.int 8,.int 3]:=hd;simp only[zj,zN,or_false]at hd;rcases hd with h|h|h|h|h|h|h|h;exact{1,h};exact{2,h};exact{0,h};exact{3,h};exact{1,h};exact{2,h};exact{8,h};exact{3,h}
 obtain⟨k,hk,J⟩:∃k:π,k<=cs.length/\(if ω ((m:ν)<(((cs.map aA).length:π):ν))=ϱ then (m:ν) else (((cs.map aA).length:π):ν))=(k:ν):=by rw[A];by_cases h:(m:ν)<((cs.length:π):ν);exact{m,by lia,by rw[zx h,qb rfl]};exact{cs.length,zk _,by rw[zw h,qa zd]}
 refine{_,_,rfl,?_};have E:(if (λi j:ν=>ω<|i<j) ((m:π):ν) (((cs.map aA).length:π):ν)=ϱ then ((m:π):ν) else (((cs.map aA).length:π):ν))=((k:π):ν):=J;rw[E];refine{lZ,λlp G=>?_};have o:lx≠lp:=gM n G;refine{Ow S1 cs c0 lx lp k tn k,?_,?_};refine !{((k:π):ν),rfl,by lia,by lia,?_};refine{Ow S1 cs c0 lx lp k tn,{none,none,[],rfl,rfl,λ_ h=>(nomatch h),rfl},λ_ _ _ _=>trivial,?_,?_};rintro i d av S' hd ⟨o5,o6,ps,rfl,hn,a,rfl⟩;have hd:(eV 0 ((k:π):ν).toNat)[i]?=some d:=hd;obtain⟨hi,rfl⟩:=dw hd;have hi:i<k:=by lia
 have O:ps.length=i:=by have:=congrArg List.length hn;simpa using this
 obtain⟨c,l,g,y_⟩:=Br (cs:=cs) (tn:=tn) (k:=i) (by lia);have s:(S1.set lp<|.lst<|ps.map p3) lx=ϑ (.lst<|xs.map D.int):=(ae o).trans n;have r:(S1.set lp<|.lst<|ps.map p3) lp=ϑ (.lst<|ps.map p3):=aa;have B:gI (cs.map aA) ((((tn:π):ν)+(0+((i:π):ν)))%(((cs.map aA).length:π):ν))=ϑ (aA c):=by rw[A,show(((tn:π):ν)+(0+((i:π):ν)))%((cs.length:π):ν)=(((tn+i)%cs.length:π):ν) by rw[Int.zero_add,Int.natCast_emod,Int.natCast_add]];refine cL ?_;rw[zm,g];rfl
 obtain⟨L,z,_⟩:=at_ (2+i) (by lia);have z:gI (xs.map D.int) (2+(0+((i:π):ν)))=ϑ (.int L):=by rw[show(2:ν)+(0+((i:π):ν))=((2+i:π):ν) by lia];exact z
 refine !!{_,_,s,e1,_,rfl,_,rfl,_,rfl,by rw[A];lia,_,B,_,rfl,?_};refine{_,rfl,{rfl,_,r},_,rfl,bY,λp hp=>!!{_,_,(Sub.new hp) _ _ s,z,by decide,cz (zV _<|by decide) (zU _<|by decide) hp λd hd=>?_}};obtain⟨wy,rfl,v⟩:∃wy:ρ,d=.str wy/\pz wy=ϱ:=by have hd:d∈[D.str "up",.str "down"]:=hd;simp only[zj,zN,or_false]at hd;rcases hd with h|h;exact{_,h,by trivial};exact{_,h,by trivial}
 refine{bY,λp hp=>!!{_,_,(Sub.new hp) _ _ s,z,{by decide,by trivial},by decide,cz (zV _<|by decide) (zU _<|by decide) hp λd hd=>?_}};obtain⟨y,rfl,I⟩:∃y:ρ,d=.str y/\Ka y=ϱ:=by have hd:d∈[D.str "first",.str "last"]:=hd;simp only[zj,zN,or_false]at hd;rcases hd with h|h;exact{_,h,by trivial};exact{_,h,by trivial}
 refine{uG,lp,_,_,rfl,rfl,r,bg<|by rw[zb];lia,?_};refine{_,_,ps++[(c.1,wy,y)],rfl,?_,λx hx=>?_,?_};rw[zI,hn,List.range_succ,zI];show _=_++[vK cs tn i];rw[<-y_];rfl;rcases zO.mp hx with h|h;exact a x h;rw[zL.mp h];exact⟨v,I⟩;rw[bK,zI];rfl;rintro av S' ⟨o5,o6,ps,rfl,hn,a,rfl⟩;rw[show({eV 0 ((k:π):ν).toNat,λ_=>True}:n8).xs.length=((k:π):ν).toNat from cQ,show((k:π):ν).toNat=k by lia]at hn;exact fo ⟨o5,o6,ps,rfl,hn,a,rfl⟩;rintro av S' ⟨o5,o6,ps,rfl,hn,a,rfl⟩;have s:(S1.set lp<|.lst<|ps.map p3) lx=ϑ (.lst<|xs.map D.int):=(ae o).trans n;refine !{_,_,rfl,.inl aa,bY,λp hp=>!{_,_,(Sub.new hp) _ _ s,N,by decide,cz (zV _<|by decide) (zU _<|by decide) hp λd hd=>?_}};obtain⟨wy,rfl,v⟩:∃wy:ρ,d=.str wy/\pz wy=ϱ:=by have hd:d∈[D.str "up",.str "down"]:=hd;simp only[zj,zN,or_false]at hd;rcases hd with h|h;exact{_,h,by trivial};exact{_,h,by trivial}
 have O:ps.length=k:=by have:=congrArg List.length hn;simpa using this
 have pin:Pin cs ps:=λx hx=>by have:x.1∈ps.map Prod.fst:=zh.mpr ⟨x,hx,rfl⟩;rw[hn]at this;obtain⟨k,hk,e⟩:=zh.mp this;have:=zW.mp hk;obtain⟨c,l,_,g⟩:=Br (cs:=cs) (tn:=tn) (k:=k) (by lia);exact{c,l,g.trans e}
 refine{bY,S,s1.trans<|.new G,q ps wy {pin,λx hx=>(a x hx).1,v,?_,λx hx=>?_}};unfold Kb;rw[zx<|show ps.length<=8 by lia,yp,zJ,zJ];refine{zZ.mpr λx hx=>?_,zx<|by rw[hn];exact Bs hg.2.1 hk,v};obtain⟨c,l,g⟩:=pin x hx;unfold Ff;rw[zx<|zh.mpr ⟨c,l,g⟩,(a x hx).1,(a x hx).2];rfl;obtain⟨c,l,g⟩:=pin x hx;obtain⟨h1,h2⟩:=a x hx;refine{by rw[<-g];exact oZ (hg.2.2 c l).1,by rcases xH h1 with e|e<;>rw[e]<;>decide +kernel,?_};unfold Ka at h2;simp only[Bool.or_eq_true,zP]at h2;rcases h2 with e|e<;>rw[e]<;>decide +kernel
theorem Kx{a:χ}{X A B:η}(c:χ)(hx:(if c=ϱ then A else B)->X)(h:if (a||c)=ϱ then A else B):if a=ϱ then (if true=ϱ then A else B) else X:=by cases a with|true=>exact h|false=>exact hx h
theorem DV{a:χ}{X A B:η}(c:χ)(hx:(if c=ϱ then A else B)->X)(h:if (a&&c)=ϱ then A else B):if a=ϱ then X else (if false=ϱ then A else B):=by cases a with|true=>exact hx h|false=>exact h
theorem keys_str{out:δ D} : (∀d∈out,∃z∈KS,d=.str z)->∃ks:δ ρ,out=ks.map D.str/\∀k∈ks,k∈KS:=by induction out with|nil=>exact λ_=>{[],rfl,λ_ h=>(nomatch h)}|cons x l c=>intro h;obtain⟨z,hz,e⟩:=h x zq;obtain⟨ks,e2,hk⟩:=c λd hd=>h d<|zg _ hd;exact{z::ks,by rw[e,e2];rfl,λk a=>(zj.mp a).elim (λe=>e ▸ hz)<|hk k}
theorem DX{rel:D->D->η}{xs out:δ D}(h:Paired rel xs out):∀v∈out,∃x,rel x v:=by induction h with|nil=>exact λ_ h=>(nomatch h)|cons r t a=>exact ym.mpr {{_,r},a}
theorem Pb{cs:δ<|ρ×ρ}{d:D}(h:Lf cs d){n:π} : qj (n+1) d=1:=by rcases h with rfl|⟨ks,rfl,_⟩|⟨o,c,v,_,_,_,rfl⟩<;>rfl
theorem Sj(n:π)(e:D):qj (n+1) (.tup [.str "not",e])=qj n e+1:=by show((nv _).map<|qj n).sum+1=_;rw[xB];simp
theorem NC{o:ρ}(h:o ="and"\/o ="or")(n:π)(ds:δ D):qj (n+1) (.tup [.str o,.tup ds])=(ds.map<|qj n).sum+1:=by show((nv _).map<|qj n).sum+1=_;rw[xC h]
theorem Hm{I:n8}{S1:ak}{g:AF}{te:TD}{σ:SD}{src:δ<|θ π}{R:KD}(P:π->δ D->ak->η)(h0:P 0 [] S1)(aG:∀i out S,P i out S->I.ok S) (step:∀i d out S,I.xs[i]?=some d->P i out S->out.length<Ϙ/\g d (mE σ src) S λgm S3=>te gm S3 (λv S5=>P (i+1) (out++[v]) S5) Zf) (c:∀out a,P I.xs.length out a->∀p,a p=ϐ->R (.ref p) (a.set p<|.lst out)):AH σ src g mF te R I S1:=by
 refine{P,h0,aG,λi d out S hd h=>{(step i d out S hd h).1,?_},c};have e:(λ(gm:SD)(S3:ak)=>mF gm S3 (λb j=>if b=ϱ then te gm j (λv S5=>P (i+1) (out++[v]) S5) Zf else P (i+1) out j) Zf)=λgm S3=>te gm S3 (λv S5=>P (i+1) (out++[v]) S5) Zf:=by funext gm S3;simp[mF]
 rw[e];exact(step i d out S hd h).2
theorem Ky{f:D->π}{k:π} : ∀{l:δ D},(∀e∈l,f e<=k)->(l.map f).sum<=k*l.length|[],_=>yb _|e::l,h=>by have h1:=h e zq;have a:=Ky λx hx=>h x<|zg _ hx;rw[zA,List.sum_cons,zR,Nat.mul_succ];lia
noncomputable def Sk:π->π|0=>0|n+1=>1+3*Sk n
theorem Kz{S S':ak}{p:ε}{c d:Ce}(h:Sub (S.set p c) S'):Sub (S.set p d) (S'.set p d):=λb x a=>by by_cases e:b=p;subst e;rw[aa]at a⊢;exact a;rw[ae e]at a⊢;exact h b x<|(ae e).trans a
inductive Sl (n:π) (ds:δ D) (S:ak) (R:KD) (Z:KX):η where
 |mk (cs:δ<|ρ×ρ) (lx:ε) (m:π) (xs:δ ν) (hn:n=m+1) (_:ds=[.tup<|cs.map aA,.ref lx,.int ((m:π):ν)]) (_:Cg cs) (_:S lx=ϑ (.lst<|xs.map D.int)) (_:xs.length<=20) (_:∀x∈xs,0<=x)
  (_:∀(d:D)(ys:δ ν),Sg cs n d->qj n d<=Sk n->ys.length<=20->(∀y∈ys,0<=y)->R d (S.set lx<|.lst<|ys.map D.int)):Sl n ds S R Z
theorem pE(T:Txt w K mg t):∀n,Ok P w base T.iU (2+n) (Sl n)
 |0=>by refine T.iU.F.b_ (k:=1) cU ?_;rintro _ _ _ _ _ _ _ S R Z hr ⟨_,_,_,_,e,_⟩;cases e
 |n+1=>by
  refine T.iU.F.b_ (k:=2+n) cU ?_;obtain⟨cs,lx,m,xs,en,e,s,hX,Hf,hx,q⟩;cases en;have hg:=s.1;have r:=bY;have H:=uG;refine{_,(sc (bR (i:=3) cU.nd<|aU T.rj (Bd T) hr<|ap 1 an)<|sc (bR (i:=4) cU.nd<|bo bh hr.u (dv 3) di)<|sc (si (twd<|twand (aR qA hr.u (dv 2) di)<|tw1<|aR aK hr.u (dv 4) di) (s1<|sr<|bq<|ac ds<|ac (aU T.iU (pE T n) hr<|ap 0<|ap 1<|ac (bo Az hr.u (dv 2) di) an) an) s0)<|sc (si (twd<|twand (aR qA hr.u (dv 2) di)<|tw1<|aR oz hr.u (dv 4) di) (sc (uA (N:=["_law_k","_law_columns_here","_law_xs","_law_deep"]) (src:=[none,some 0,some 1,some 2]) 5 cU.nd (lR vn) (MN T.fq<|ac (xZ<|ix hr.u (bT<|ac di<|ac di<|ac di<|ac di an)<|bo bh hr.u (bo dh hr.u (dv 3) di) di) an) qZ<|aU T.iU (pE T n) hr<|ap 1<|ap 2<|ac (bo Az hr.u (dv 3) di) an)<|s1<|sr<|bq<|ac (xZ<|ix hr.u (bT<|ac ds<|ac ds an)<|bo Az hr.u (dv 4) di)<|ac (ct iM T.bz aZ<|ap 5 an) an) s0)<|sc (si (twd<|twor (aR aK hr.u (dv 4) di)<|tw1<|aR aK hr.u (dv 0)<|bq an) (s1<|sr<|xZ<|ix hr.u (bT<|ac (bq<|ac ds an)<|ac (bq<|ac ds<|ac (ct iM T.bz aZ<|ac (y_ (N:=["_law_k","_law_x"]) (src:=[none,some 3]) (lR vn) (MN T.fq<|ac (bo bh hr.u (bo dh hr.u (dv 3) di) di) an) qZ<|aU T.vq (xu T) hr<|ac (bo aS hr.u (bo dh hr.u (dv 1) di)<|bo vf hr.u di<|dv 0) an) an) an) an)<|bo bh hr.u (bo dh hr.u (dv 3) di) di) s0)<|sc (sa (ix hr.u (dv 0)<|bo bh hr.u (bo dh hr.u (dv 3) di)<|cb ba T.aX aI<|ap 0 an)<|gt (n:=2)<|gc (gn (i:=6) cU.nd)<|gc (gn (i:=7) cU.nd) g0)<|sc (bR (i:=8) cU.nd<|aU T.rm (Be T) hr<|ap 7<|ac (aU T.rj (Bd T) hr<|ap 1 an) an)<|sc (si (twd<|twor (aR gq hr.u (dv 8) dn)<|tw1<|aR oz hr.u (dv 4) di) (s1<|sr<|bq<|ac ds<|ap 6<|ap 8 an) s0)<|sc (si (twd<|twand (aR aK hr.u (dv 4) di)<|tw1<|aR aK hr.u (dv 7) ds) (s1<|sr<|bq<|ac ds<|ap 6<|ap 8 an) s0)<|s1<|sr<|bq<|ac (xZ<|ix hr.u (bT<|ac ds<|ac ds an)<|bo bh hr.u (dv 4) di)<|ap 6<|ap 8 an),?_};refine !{lx,xs,rfl,hX,Hf,hx,λx ys x0 yl A=>?_};have U:(S.set lx<|.lst<|ys.map D.int) lx=ϑ (.lst<|ys.map D.int):=aa;have L:∀d,Lf cs d->R d (S.set lx<|.lst<|ys.map D.int):=λd hd=>q d ys (.inl hd) (by rw[Pb hd];show 1<=1+_;lia) (by lia) A;refine !{by decide,?_};have w0:0<=x%9:=zV _ (by decide);have w1:x%9<9:=zU _ (by decide);generalize x%9=way at w0 w1⊢;have M:0<n->((n:π):ν)-1=((n-1:π):ν):=λh=>by lia
  refine !{ω<|(0:ν)<((n:π):ν),rfl,DV (ω<|way=0) (λh=>!!⟨h⟩)<|bC (λh=>?_) λNb=>?_};rw[zJ,zP,zP]at h;have hn:0<n:=by lia
  refine !!!{cs,lx,n-1,ys,by lia,by rw[M hn];rfl,s,U,by lia,A,λd zs hd hz g x5=>{r,?_}};rw[bK];exact fo<|q _ zs (.inr<|.inl ⟨d,rfl,hd⟩) (by rw[Sj];show _<=1+3*Sk n;lia) g x5;refine !{ω<|(0:ν)<((n:π):ν),rfl,DV (ω<|way<3) (λh=>!!⟨h⟩)<|bC (λh=>?_) λ_=>?_};rw[zJ,zP,zP]at h;have hn:0<n:=by lia
  have a0:way≠0:=λe=>by rw[Bool.and_eq_false_iff,yy,yy]at Nb;lia
  refine{sX,λp hp=>!⟨{by decide,by trivial},by decide,cz (zV _<|by decide) (zU _<|by decide) hp λd hd=>?_⟩};obtain⟨k,rfl,hk⟩:∃k:π,d=.int k/\k<=3:=by have hd:d∈[D.int 2,.int 3,.int 1,.int 0]:=hd;simp only[zj,zN,or_false]at hd;rcases hd with h|h|h|h;exact{2,h,by decide};exact{3,h,by decide};exact{1,h,by decide};exact{0,h,by decide}
  refine{((k:π):ν),rfl,by lia,by lia,?_};refine Hm (λi out S'=>∃zs:δ ν,Sub (S.set lx<|.lst<|zs.map D.int) S'/\zs.length<=20/\(∀z∈zs,0<=z)/\out.length=i/\∀e∈out,Sg cs n e/\qj n e<=Sk n) {ys,.refl _,by lia,A,rfl,λ_ h=>(nomatch h)} (λ_ _ _ _=>trivial) ?_ ?_;rintro i d out S' hd ⟨zs,sb,g,hz,I,ho⟩;have hi:i<k:=by have hd:(eV 0 ((k:π):ν).toNat)[i]?=some d:=hd;have:=(dw hd).1;lia
  refine{bg<|by lia,_,rfl,_,rfl,_,rfl,cs,lx,n-1,zs,by lia,by rw[M hn];rfl,s,sb _ _ aa,g,hz,λd vs hd E vl B=>{vs,Kz sb,vl,B,by rw[zo,I];rfl,λe a=>?_}};rcases zO.mp a with a|a;exact ho e a;rw[zL.mp a];exact⟨hd,E⟩;rintro out S' ⟨zs,sb,g,hz,I,ho⟩ pl eC;rw[show({eV 0 ((k:π):ν).toNat,λ_=>True}:n8).xs.length=((k:π):ν).toNat from cQ]at I;refine{r,λp2 du=>!⟨cz (by lia) (by show way-1<2;lia) du λd hd=>?_⟩};obtain⟨o,rfl,y⟩:∃o:ρ,d=.str o/\(o ="and"\/o ="or"):=by have hd:d∈[D.str "and",.str "or"]:=hd;simp only[zj,zN,or_false]at hd;rcases hd with h|h;exact{_,h,.inl rfl};exact{_,h,.inr rfl}
  refine !{_,_,rfl,.inl aa,r,_,sb.trans<|.new eC,q _ zs (.inr<|.inr {o,out,y,rfl,by lia,λe a=>(ho e a).1}) ?_ g hz};have hs:=Ky λe a=>(ho e a).2;have:Sk n*out.length<=Sk n*3:=Nat.mul_le_mul_left _ (by lia);rw[NC y];show _<=1+3*Sk n;lia;refine !{ω<|way=8,rfl,Kx (cs.map aA).isEmpty (λh=>!{lZ,Nn (Nz s.1 s.2) !⟨h⟩})<|bC (λh=>?_) λh=>?_};have k0:0<=x/9%4:=zV _ (by decide);have k1:x/9%4<4:=zU _ (by decide);refine{sW,_,rfl,{by decide,by trivial},by decide,x/9%4,rfl,by lia,by lia,?_};refine m_ (λ_ v=>∃z∈KS,v=.str z) trivial (by show(eV 0 _).length<=_;rw[cQ];lia) (λd hd Q hQ=>?_) λout ho p1 O=>?_;obtain⟨j,hj⟩:=yq hd;obtain⟨_,rfl⟩:=dw hj;exact{_,rfl,{by decide,by trivial},_,rfl,.inl {by decide,by decide},_,rfl,λz hz=>hQ _ ⟨z,hz,rfl⟩};obtain⟨ks,rfl,BO⟩:=keys_str λd hd=>(DX ho d hd).elim λ_ h=>h;have hl:=yH ho;rw[show({eV 0 (x/9%4).toNat,λ_=>True}:n8).xs=eV 0 (x/9%4).toNat from rfl,cQ,zb]at hl;refine{_,_,rfl,.inl aa,r,r,λp hp=>!⟨{by decide,by trivial},by decide,cz (zV _<|by decide) (zU _<|by decide) hp λd hd=>?_⟩};have hd:d∈[D.tup [.str "every"],.tup [.str "key",.tup<|ks.map D.str]]:=hd;simp only[zj,zN,or_false]at hd;rcases hd with rfl|rfl;exact{_,.new O,L _<|.inl rfl};exact{_,.new O,L _<|.inr<|.inl {ks,rfl,by lia,BO}};rw[Bool.or_eq_false_iff]at h;have Gn:0<cs.length:=by cases cs with|nil=>(cases h.2)|cons c cs=>exact Nat.succ_pos _
  have a1:(cs.map aA).length=cs.length:=zb _;obtain⟨d,e1,e2⟩:=wg (l:=cs.map aA) (i:=x/9%(((cs.map aA).length:π):ν)) (zV _<|by lia)<|zU _ (by lia);obtain⟨c,X,rfl⟩:=zh.mp<|zD e2;refine !!⟨{by decide,by trivial},_,rfl,_,rfl,by lia,_,e1,_,rfl,rfl,_,_,rfl,_,_,rfl,rfl,?_⟩;refine !!{lx,ys,rfl,U,by lia,A,λx2 zs _ g hz=>{c.2,x2,rfl,λv B=>?_}};rw[bK];have J:∀o,xA o c v->Fo (S.set lx<|.lst<|zs.map D.int) (R<|.tup [.str o,.str c.1,v]):=λo ho=>fo<|q _ zs (.inl<|.inr<|.inr ⟨o,c,v,X,B,ho,rfl⟩) (by rw[Pb<|.inr<|.inr ⟨o,c,v,X,B,ho,rfl⟩];show 1<=1+_;lia) (by lia) hz;refine !{ah v,rfl,Kx (ω<|way<4) (λh=>!!⟨h⟩)<|bC (λG=>?_) λG=>?_};exact !!{H,J _<|.inl rfl};rw[Bool.or_eq_false_iff]at G;have Y:=aV G.1;refine !{ω<|way=4,rfl,DV (ω<|c.2 ="word") (λh=>!!⟨h⟩)<|bC (λC=>?_) λC=>?_};rw[zJ]at C;exact !!{H,J _<|.inr {Y,.inr<|.inr {rfl,zG C.2}}};refine{r,λp hp=>!{(by decide:(0:ν)<2),cz (zV _<|by decide) (zU _<|by decide) hp λd hd=>?_}};obtain⟨o,rfl,ho⟩:∃o:ρ,d=.str o/\(o ="below"\/o ="above"):=by have hd:d∈[D.str "below",.str "above"]:=hd;simp only[zj,zN,or_false]at hd;rcases hd with rfl|rfl;exact{_,rfl,.inl rfl};exact{_,rfl,.inr rfl}
  exact !!{H,J o<|.inr {Y,ho.elim .inl λh=>.inr<|.inl h}}
theorem Fq:∀{l:δ ρ}{p:ρ},PyProof.Rows.risingS p l=ϱ->(p::l).Pairwise λa b=>a.cps.toList<=b.cps.toList|[],p,_=>List.pairwise_singleton _ _|x::r,p,h=>by have h:(!PySem.Spec.ltCps x.cps.toList p.cps.toList&&PyProof.Rows.risingS x r)=ϱ:=h;rw[zJ,PyProof.Rows.ltCps_eq,yu,yy]at h;have g:=Fq h.2;have d:p.cps.toList<=x.cps.toList:=List.not_lt.mp h.1;refine List.pairwise_cons.mpr {λy c=>?_,g};rcases zj.mp c with e|c;rw[e];exact d;exact List.le_trans d<|(List.pairwise_cons.mp g).1 y c
theorem vM(h:PyProof.Rows.sortedS l=ϱ):l.Pairwise λa b=>a.cps.toList<=b.cps.toList:=by cases l with|nil=>exact List.Pairwise.nil|cons x r=>exact Fq h
theorem ND{a b:ρ}(h:a.cps.toList=b.cps.toList):a=b:=by obtain⟨⟨x⟩⟩:=a;obtain⟨⟨y⟩⟩:=b;cases h;rfl
theorem Hn{l m:δ ρ}(hl:l.Pairwise λa b=>a.cps.toList<=b.cps.toList)(hm:m.Pairwise λa b=>a.cps.toList<=b.cps.toList)(c:l.Nodup)(nm:m.Nodup)(h:∀z,z∈l↔z∈m):l=m:=List.Perm.eq_of_pairwise (λa b _ _ h1 h2=>ND<|List.le_antisymm h1 h2) hl hm<|(List.perm_ext_iff_of_nodup c nm).mpr h
def TI(l:δ Std)(n:π):Prop:=∀s∈l,s.b<=n/\∀m,s.e=ϑ m->m<n
noncomputable def Sm(s:Std):D:=match s.e with|none=>.tup s.ws|some _=>.ay
noncomputable def cur(l:δ Std):D:=match l.getLast? with|none=>.ay|some s=>Sm s
theorem nF(r:δ Std)(s:Std):cur (r++[s])=Sm s:=by unfold cur;rw[List.getLast?_concat]
theorem Sn(h:TI l n):wt l n=cur l:=by by_cases e:l=[];subst e;rfl;obtain⟨r,s,rfl⟩:=rA e;rw[nF];unfold wt;rw[List.reverse_append];obtain⟨h1,h2⟩:=h s<|zK _<|zL.mpr rfl;show Ua (s::r.reverse) (n:ν)=_;unfold Ua Sm;rw[qb<|show(s.b:ν)<=(n:ν) by lia];cases q:s.e with|none=>rfl|some m=>have:=h2 m q;exact qa<|show ¬(n:ν)<=(m:ν) by lia
theorem TI.up(h:TI l n):TI l (n+1):=λs a=>{Nat.le_succ_of_le (h s a).1,λm e=>Nat.lt_succ_of_lt<|(h s a).2 m e}
theorem TI.close(h:TI l n):TI (pf n l) (n+1):=by by_cases e:l=[];subst e;exact λs a=>(nomatch a);obtain⟨r,s,rfl⟩:=rA e;rw[kf];intro x hx;rcases zO.mp hx with hx|hx;exact h.up x<|yi _ hx;rw[zL.mp hx];exact{Nat.le_succ_of_le (h s<|zK _<|zL.mpr rfl).1,λm e=>by cases e;exact Nat.lt_succ_self _}
theorem TI.beg(h:TI l<|n+1):TI (l++[Std.mk (n+1) none ws]) (n+1):=λs a=>by rcases zO.mp a with a|a;exact h s a;rw[zL.mp a];exact{zk _,λm e=>(by cases e)}
theorem Ho:cur (pf n l)=.ay:=by by_cases e:l=[];subst e;rfl;obtain⟨r,s,rfl⟩:=rA e;rw[kf,nF];rfl
noncomputable def tM(kn:Kn)(z:ρ):D:=match eG kn z with|none=>.ay|some ws=>.tup ws
structure RI(rs:rq)(n:π)(kn:Kn):η where
 ti:∀z,TI ((lu rs z).getD []) n
 eq:∀z,cur ((lu rs z).getD [])=tM kn z
 ks:∀r∈rs,r.1∈KS
theorem NF(h:r∈Dz rs z s):r.1=z\/∃r'∈rs,r'.1=r.1:=by unfold Dz at h;split at h;obtain⟨r0,a,e⟩:=zh.mp h;refine .inr {r0,a,?_};subst e;split<;>rfl;rcases zO.mp h with h|h;exact .inr ⟨r,h,rfl⟩;rw[zL.mp h];exact .inl rfl
theorem KA(h:∀r∈rs,r.1∈KS)(hz:z∈KS):∀r∈Dz rs z s,r.1∈KS:=λr hr=>by rcases NF hr with e|⟨a,c,e⟩;rw[e];exact hz;rw[<-e];exact h a c
theorem Fs:tM (ir kn z ws) k=if k=z then .tup ws else tM kn k:=by unfold tM;rw[Nl];by_cases h:k=z;rw[qb h,qb h];rw[qa h,qa h]
theorem Ft:tM (pq kn z) k=if k=z then .ay else tM kn k:=by unfold tM;rw[Nm];by_cases h:k=z;rw[qb h,qb h];rw[qa h,qa h]
theorem RI.nil:RI [] 0 []:={λz s a=>(nomatch a),λz=>rfl,λr hr=>(nomatch hr)}
theorem RI.put(h:RI rs n kn)(hz:z∈KS):RI (Bb rs z (n+1) ws) (n+1) (ir kn z ws):=by refine{λk=>?_,λk=>?_,KA h.ks hz};unfold Bb;rw[ph];by_cases e:k=z;rw[qb e];exact(h.ti z).up.beg;rw[qa e];exact(h.ti k).up;unfold Bb;rw[ph,Fs];by_cases e:k=z;rw[qb e,qb e];exact nF _ _;rw[qa e,qa e];exact h.eq k
theorem RI.del(h:RI rs n kn)(hz:z∈KS):RI (tq rs z n) (n+1) (pq kn z):=by refine{λk=>?_,λk=>?_,KA h.ks hz};unfold tq;rw[ph];by_cases e:k=z;rw[qb e];exact(h.ti z).close;rw[qa e];exact(h.ti k).up;unfold tq;rw[ph,Ft];by_cases e:k=z;rw[qb e,qb e];exact Ho;rw[qa e,qa e];exact h.eq k
theorem RI.change(h:RI rs n kn)(hz:z∈KS):RI (Bb (tq rs z n) z (n+1) ws) (n+1) (ir kn z ws):=by have h1:=h.del hz;refine{λk=>?_,λk=>?_,KA h1.ks hz};unfold Bb;rw[ph];by_cases e:k=z;rw[qb e];exact(h1.ti z).beg;rw[qa e];exact h1.ti k;unfold Bb;rw[ph,Fs];by_cases e:k=z;rw[qb e,qb e];exact nF _ _;rw[qa e,qa e,h1.eq k,Ft,qa e]
theorem RI.wt{rs:rq}{n:π}{kn:Kn}(h:RI rs n kn)(z:ρ):wt ((lu rs z).getD []) n=tM kn z:=by rw[Sn<|h.ti z,h.eq]
theorem RI.A_(h:RI rs n kn)(hz:z∈KS):A_ rs (.str z) n=tM kn z:=by rw[xq (i8 z hz).1,h.wt]
theorem vN(kn:Kn)(z:ρ):ah (tM kn z)=!(eG kn z).isSome:=by unfold tM;cases eG kn z<;>rfl
theorem Pc(h:cF C S a F cs dl rs):(rs.map (·.1)).Nodup:=by obtain⟨ld,lr,ra,h,_,rfl⟩:=h;unfold ij;rw[zy];exact h.kn
theorem RI.len(h:RI rs n kn)(c:cF C S a F cs dl rs):rs.length<=60:=by
 have:=sub_len (Pc c) (m:=KS) λx hx=>by obtain⟨r,hr,rfl⟩:=zh.mp hx;exact h.ks r hr
 rw[zb]at this;exact zH this<|by trivial
noncomputable def So(kn:Kn)(ss:δ ρ):δ D:=ss.map λz=>.tup [.str z,tM kn z]
theorem Xi(h:lu rs k=ϑ s):k∈rs.map (·.1):=by induction rs with|nil=>(cases h)|cons r rs a=>rw[ft]at h;rw[zA];by_cases e:r.1=k;exact zj.mpr<|.inl e.symm;rw[qa e]at h;exact zg _<|a h
theorem vO:we "list"= some Mi:=(qa<|by decide).trans<|(qa<|by decide).trans<|(qa<|by decide).trans<|(qa<|by decide).trans<|qb rfl
noncomputable def bt(kn:Kn)(ss:δ ρ):δ Row:=ss.map λz=>(z,(eG kn z).getD [])
structure Snap(rs:rq)(cs:δ (ρ×ρ))(m:π)(rows:δ Row):η where
 ex:∃kn ss,rows=bt kn ss/\KI cs kn/\ss.Perm (kn.map (·.1))/\PyProof.Rows.sortedS ss=ϱ/\∀z,wt ((lu rs z).getD []) m=tM kn z
theorem vP(p:ss.Perm (kn.map (·.1))):(bt kn ss).map ag=So kn ss:=by unfold bt So;rw[zy];refine zX λz hz=>?_;obtain⟨ws,a⟩:=ko<|p.mem_iff.mp hz;show D.tup [.str z,.tup<|(eG kn z).getD []]=.tup [.str z,tM kn z];unfold tM;rw[a];rfl
theorem nG(a:KI cs kn)(p:ss.Perm (kn.map (·.1))):Rg cs (bt kn ss):=by refine{λr hr=>?_,?_};obtain⟨z,hz,rfl⟩:=zh.mp hr;obtain⟨ws,c⟩:=ko<|p.mem_iff.mp hz;show Wg cs ((eG kn z).getD []);rw[c];exact(a.ok _<|i9 c).2;unfold bt;rw[zy];show(ss.map id).Nodup;rw[List.map_id];exact p.nodup_iff.mpr a.nd
theorem kN(a:KI cs kn)(p:ss.Perm (kn.map (·.1))):(bt kn ss).length<=60:=by unfold bt;rw[zb,p.length_eq,zb];exact a.len
theorem Snap.rg(h:Snap rs cs m rows):Rg cs rows/\rows.length<=60:=by obtain⟨kn,ss,rfl,a,p,_⟩:=h.ex;exact{nG a p,kN a p}
theorem Snap.key(h:Snap rs cs m rows):∀r∈rows,r.1∈KS:=by obtain⟨kn,ss,rfl,a,p,_⟩:=h.ex;intro r hr;obtain⟨z,hz,rfl⟩:=zh.mp hr;obtain⟨ws,c⟩:=ko<|p.mem_iff.mp hz;exact(a.ok _<|i9 c).1
theorem Hq{C a:ε}{S:ak}{F:δ ε}{cs:δ<|ρ×ρ}{dl:δ D}{rs:rq}{m:π}{rows:δ Row}(h:Snap rs cs m rows)(i:cF C S a F cs dl rs){ss:δ ρ} (d:ss.Perm (rs.map (·.1))) (o1:PyProof.Rows.sortedS ss=ϱ):l5 rs m ss=rows.map ag:=by
 obtain⟨kn,s2,rfl,g,p2,j,hw⟩:=h.ex;rw[vP p2];have e:ss.filter (λz=>!ah (wt ((lu rs z).getD []) m))=s2:=by refine Hn ((vM o1).filter _) (vM j) ?_ (p2.nodup_iff.mpr g.nd) λz=>?_;exact yN.nodup<|d.nodup_iff.mpr<|Pc i;rw[ye,hw,vN,Bool.not_not,d.mem_iff,p2.mem_iff];constructor;rintro⟨_,hz⟩;obtain⟨ws,c⟩:=Option.isSome_iff_exists.mp hz;exact zh.mpr {_,i9 c,rfl};intro hz;obtain⟨ws,c⟩:=ko hz;refine{?_,by rw[c];rfl};have e:=hw z;unfold tM at e;rw[c]at e;cases q:lu rs z with|none=>(rw[q]at e;cases e)|some s=>exact Xi q
 unfold l5 So;rw[e];refine zX λz _=>?_;unfold xr;rw[hw]
theorem Bt(hz:z∈KS):Gt S (.str z):=Fp<|by have:=(i8 z hz).2.1;lia
section
variable{t:gY}{S:ak}{a:ε}{F:δ ε}{cs:δ (ρ×ρ)}{dl:δ D}{rs:rq}{kn:Kn}{R:KD}{Z:KX}
theorem DZ(hz:z∈KS)(h:Wg cs ws):oY cs (.str z) (.tup ws)=ϱ:=by unfold oY;rw[h.Sh,show ofStr l4 (.str z)=ϱ from(i8 z hz).1];rfl
theorem D0(a:RI rs dl.length kn)(hz:z∈KS):ah (A_ rs (.str z) dl.length)=!(eG kn z).isSome:=by rw[a.A_ hz,vN]
theorem tf{b:χ}(h1:b=ϱ)(h2:b=ϰ){p:η} : p:=by rw[h1]at h2;cases h2
theorem cF.off(g:cF C S a F cs dl rs)(hp:p∉F):cF C (S.set p c) a F cs dl rs:=by obtain⟨ld,lr,ra,d,rfl,e2⟩:=g;unfold fp at hp;simp only[zj,not_or]at hp;obtain⟨h,i,l,j⟩:=hp;exact{ld,lr,ra,{(ae<|Ne.symm h).trans d.ins,(ae<|Ne.symm i).trans d.BP,(ae<|Ne.symm l).trans d.run,λr hr=>(ae λe=>j<|by rw[<-e];exact zh.mpr ⟨r,hr,rfl⟩).trans<|d.cell r hr,d.kn,d.an,d.sz},rfl,e2}
structure Dos(t:gY)(ds:δ D)(S:ak)(R:KD)(Z:KX):η where
 of:DJ t ds S R Z
theorem Snap.vw(h:Snap rs cs m rows)(c:cF t.ar S a F cs dl rs)(j:RI rs dl.length kn)(hm:uI dl.length md=ϑ (m:ν))(d:Gt S md):Vw t.ar S a cs md rows:=by have:=h.rg;refine{{F,dl,rs,c,by have:=j.len c;lia,(λe=>by rw[hm]at e;cases e),λi ss hi hp g=>?_},d,by lia,this.1};rw[hm]at hi;cases hi;exact Hq h c hp g
end
def Sr(S:ak)(F:δ ε)(S':ak):Prop:=∀b c,S b=ϑ c->b∉F/\S' b=ϑ c
theorem Sr.sub(h:Sr S F S'):Sub S S':=λb c e=>(h b c e).2
theorem KI.nil(cs:δ<|ρ×ρ):KI cs []:={List.nodup_nil,λ_ h=>(nomatch h)}
theorem nH(ns:δ ν)(lo hi:θ ν):cP (ns.map D.int) lo hi=(cP ns lo hi).map D.int:=by unfold cP;rw[zb,yY,List.map_drop]
theorem KC(xs:δ α)(x:α):F_ (xs++[x]).length (-1)=ϑ xs.length:=by unfold F_;rw[zo];show(if (0:ν)<=-1 then _ else _)=_;rw[qa<|by decide];rw[qb<|by show -((xs.length+1:π):ν)<=-1;lia];congr 1;show((-1:ν)+((xs.length+1:π):ν)).toNat=_;lia
theorem NG(xs:δ α)(x:α):gI (xs++[x]) (-1)=ϑ x:=by unfold gI;rw[KC];simp
structure St(t:gY)(S0:ak)(a:ε)(fs:δ (ε×Ce))(F:δ ε)(cs:δ (ρ×ρ))(dl:δ D)(rs:rq)(S:ak):η where
 sh:cF t.ar S a F cs dl rs
 fa:∀x∈fs,S x.1=ϑ x.2/\x.1∉F/\S0 x.1=ϐ
 nd:(fs.map Prod.fst).Nodup
 NH:Sr S0 F S
theorem D1(hk:r.1∈KS)(hw:Wg cs r.2):Ly S 60 (ag r):=by refine(Ly.tup (n:=1) λx hx=>?_).le (by decide);simp only[zj,zN,or_false]at hx;rcases hx with rfl|rfl;exact(Ly.str (i8 _ hk).2.2).le (by decide);exact hw.ly
theorem kx(q:R (.bl<|if neg then !(x==y) else (x==y)) S):HJ neg (.bl x) (.bl y) S R:=⟨.bool x,.bool y,by simp only[Dl,Dp],by simp only[Dl,Dp],by simp only[PyData.canLay0],by simp only[PyData.canLay0],.inl<|by simp only[PyData.depth];lia,by
 have e:PyData.eqv (.bool x) (.bool y)=(x==y):=by cases x<;>cases y<;>rfl
 rw[e];exact q⟩
theorem Pd(q:R (.bl<|if neg then !decide (i=j) else ω (i=j)) S):HJ neg (.str i) (.str j) S R:=q
noncomputable def cV(w e:ρ)(x y:D):Int:=if k_ x y=ϱ then 0 else if cG ("",w,e) x y=ϱ then -1 else 1
def Cm(x y:D):Prop:=∃k,Vg k x/\Vg k y
theorem jo{w e:ρ}(h:Cm x y):cV w e x y=0↔x=y:=by obtain⟨k,hx,a⟩:=h;unfold cV;by_cases q:k_ x y=ϱ;rw[qb q];simpa using (aT hx.2 a.2).mp q;rw[qa q];have c:¬x=y:=λz=>q<|(aT hx.2 a.2).mpr z;constructor;intro z;split at z<;>cases z;exact λz=>absurd z c
theorem qm{w e:ρ}(h:Cm x y):cV w e x y<0↔x≠y/\cG ("",w,e) x y=ϱ:=by obtain⟨k,hx,a⟩:=h;unfold cV;by_cases q:k_ x y=ϱ;rw[qb q];have:=(aT hx.2 a.2).mp q;simp[this];rw[qa q];have c:¬x=y:=λz=>q<|(aT hx.2 a.2).mpr z;by_cases l:cG ("",w,e) x y=ϱ;rw[qb l];simp[c,l];rw[qa l];simp[l]
theorem NI{w e:ρ}(h:Cm x y):cV w e y x<0↔0<cV w e x y:=by
 have h':Cm y x:=by obtain⟨k,a,b⟩:=h;exact⟨k,b,a⟩
 rw[qm h'];obtain⟨k,hx,c⟩:=h;unfold cV;by_cases q:k_ x y=ϱ;rw[qb q];have:=(aT hx.2 c.2).mp q;simp[this];rw[qa q];have d:¬x=y:=λz=>q<|(aT hx.2 c.2).mpr z;have:=pB (p:=("",w,e)) hx c d;rw[this];cases cG ("",w,e) x y<;>simp[Ne.symm d]
inductive cX (ds:δ D) (S:ak) (R:KD) (Z:KX):η where
 |mk (x y wy e) (_:ds=[x,y,.str e]) (_:Cm x y) (_:(x=.ay\/y=.ay)) (_:R (.int<|cV wy e x y) S)
theorem jx(T:Txt w K mg t):Ok P w base T.dN 1 cX:=by
 refine T.dN.F.b_ eE ?_;rintro _ _ _ _ _ _ _ S R Z hr ⟨x,y,wy,e,d,⟨k,hx,g⟩,hn,q⟩;subst d;refine{_,(sc (si (twd<|twand (aR gq hr.u (dv 0) dn)<|tw1<|aR gq hr.u (dv 1) dn) (s1<|sr di) s0)<|sc (bR (i:=3) eE.nd<|cm aK hr.u (dv 2) ds)<|s1<|sr<|TH (aR aK hr.u (dv 3)<|cm gq hr.u (dv 0) dn) (IY di) di),?_};unfold cV at q;refine !!⟨bC (λh=>!!⟨bC (λh2=>?_) λh2=>?_⟩) λh=>?_⟩;rw[dm h,dm h2]at q;exact fo q;have e1:ah x≠ah y:=by rw[show ah x=ϱ from h,show ah y=ϰ from h2];decide
 rw[xG e1,qa zd]at q;unfold cG at q;rw[show ah x=ϱ from h,show ah y=ϰ from h2]at q;refine !!!⟨?_⟩;dsimp only[dC,isD];refine kx !⟨?_⟩;have q:R (.int<|if (ah x==ω (e ="first"))=ϱ then -1 else 1) S:=by rw[show ah x=ϱ from h];exact q
 rw[Bool.beq_comm]at q;refine bC (λz=>?_) λz=>?_;rw[qb<|show(ω (e ="first")==ah x)=ϱ from z]at q;exact{_,rfl,fo q};rw[qa λc=>tf c<|show(ω (e ="first")==ah x)=ϰ from z]at q;exact fo q;have a:ah y=ϱ:=by rcases hn with rfl|rfl;cases h;rfl
 have e1:ah x≠ah y:=by rw[show ah x=ϰ from h,a];decide
 rw[xG e1,qa zd]at q;unfold cG at q;rw[show ah x=ϰ from h,a]at q;refine !!!⟨?_⟩;dsimp only[dC,isD];refine kx !⟨?_⟩;have q:R (.int<|if (ah x==ω (e ="first"))=ϱ then -1 else 1) S:=by rw[show ah x=ϰ from h];exact q
 rw[Bool.beq_comm]at q;refine bC (λz=>?_) λz=>?_;rw[qb<|show(ω (e ="first")==ah x)=ϱ from z]at q;exact{_,rfl,fo q};rw[qa λc=>tf c<|show(ω (e ="first")==ah x)=ϰ from z]at q;exact fo q
inductive tN (ds:δ D) (S:ak) (R:KD) (Z:KX):η where
 |mk (x y wy e) (_:ds=[x,y,.str wy,.str e]) (_:Cm x y) (_:R (.int<|cV wy e x y) S)
theorem qo(T:Txt w K mg t):Ok P w base T.compared 2 tN:=by refine T.compared.F.b_ pT ?_;rintro _ _ _ _ _ _ _ S R Z hr ⟨x,y,wy,e,n,g,q⟩;subst n;obtain⟨k,hx,l⟩:=id g;refine{_,(sc (si (twd<|twor (aR gq hr.u (dv 0) dn)<|tw1<|aR gq hr.u (dv 1) dn) (s1<|sr<|aU T.dN (jx T) hr<|ap 0<|ap 1<|ap 3 an) s0)<|sc (si (aR aK hr.u (dv 0)<|dv 1) (s1<|sr di) s0)<|sc (bR (i:=4) pT.nd<|cm oz hr.u (dv 0)<|dv 1)<|s1<|sr<|TH (aR aK hr.u (dv 4)<|cm aK hr.u (dv 2) ds) (IY di) di),?_};have none:∀Zq:KX,x=.ay\/y=.ay->cX [x,y,.str e] S (λd S'=>Fo S'<|R d) Zq:=λ_ hn=>{x,y,wy,e,rfl,g,hn,fo q};refine !!⟨bC (λh=>?_) λh=>!!⟨bC (λh2=>?_) λh2=>?_⟩⟩;exact !!!⟨none _<|.inl<|dm h⟩;exact !!!⟨none _<|.inr<|dm h2⟩;clear none;have nx:ah x=ϰ:=h;have m:ah y=ϰ:=h2;unfold cV at q;refine !!⟨ku hx.2 l.2 !⟨bC (λa=>?_) λa=>?_⟩⟩;have a:k_ x y=ϱ:=a;rw[qb a]at q;exact fo q;have a:k_ x y=ϰ:=a;rw[a,qa zd]at q;unfold cG at q;rw[nx,m]at q;have q:R (.int<|if (tK x y==ω (wy ="up"))=ϱ then -1 else 1) S:=q;rcases l6 hx l (aV nx) (aV m) with⟨i,j,rfl,rfl⟩|⟨i,j,rfl,rfl⟩;refine !!!!⟨?_⟩;dsimp only[dC];refine Pd ?_;refine kx ?_;refine{_,rfl,?_};refine bC (λz=>?_) λz=>?_;rw[qb<|show(tK (.int i) (.int j)==ω (wy ="up"))=ϱ from z]at q;exact{_,rfl,fo q};rw[qa λc=>tf c<|show(tK (.int i) (.int j)==ω (wy ="up"))=ϰ from z]at q;exact fo q;refine !!!!⟨?_⟩;dsimp only[dC];refine Pd ?_;refine kx ?_;refine{_,rfl,?_};refine bC (λz=>?_) λz=>?_;rw[qb<|show(tK (.str i) (.str j)==ω (wy ="up"))=ϱ from z]at q;exact{_,rfl,fo q};rw[qa λc=>tf c<|show(tK (.str i) (.str j)==ω (wy ="up"))=ϰ from z]at q;exact fo q
noncomputable def n_(ps:δ Part)(wy:ρ):δ (ρ×ρ):=ps.map Prod.snd++[(wy,("last": ρ))]
noncomputable def ck:δ (ρ×ρ)->δ D->δ D->ν|w::ws,x::xs,y::ys=>(if cV w.1 w.2 x y=0 then ck ws xs ys else cV w.1 w.2 x y)|_,_,_=>0
def PV(ks:δ ρ)(xs:δ D):Prop:=Paired (λk x=>Vg k x) ks xs
theorem nI:∀{ws:δ (ρ×ρ)}{ks:δ ρ}{xs ys:δ D},ws.length=ks.length->PV ks xs->PV ks ys->(ck ws xs ys=0↔xs=ys)|[],_,_,_,h,.nil,.nil=>by simp[ck]|w::ws,_,_,_,h,.cons (b:=x) a1 a2,.cons (b:=y) b1 b2=>by unfold ck;have c:=jo (w:=w.1) (e:=w.2) {_,a1,b1};by_cases q:cV w.1 w.2 x y=0;rw[qb q,nI (Nat.succ.inj h) a2 b2,c.mp q];simp;rw[qa q];exact{λz=>absurd z q,λz=>absurd (c.mpr (List.cons.inj z).1) q}
theorem tO:∀{ws:δ (ρ×ρ)}{ks:δ ρ}{xs ys:δ D},PV ks xs->PV ks ys->(ck ws ys xs<0↔0<ck ws xs ys)|[],_,_,_,_,_=>by simp[ck]|w::ws,_,_,_,.nil,.nil=>by simp[ck]|w::ws,_,_,_,.cons (b:=x) a1 a2,.cons (b:=y) b1 b2=>by unfold ck;have c:=jo (w:=w.1) (e:=w.2) {_,a1,b1};have a:=jo (w:=w.1) (e:=w.2) {_,b1,a1};by_cases q:x=y;rw[qb<|c.mpr q,qb<|a.mpr q.symm];exact tO a2 b2;rw[qa λz=>q<|c.mp z,qa λz=>q (a.mp z).symm];exact NI {_,a1,b1}
theorem D2:∀{ws:δ (ρ×ρ)}{ks:δ ρ}{xs ys zs:δ D},PV ks xs->PV ks ys->PV ks zs->ck ws xs ys<0->ck ws ys zs<0->ck ws xs zs<0|[],_,_,_,_,_,_,_,h,_=>by simp[ck]at h|w::ws,_,_,_,_,.nil,.nil,.nil,h,_=>by simp[ck]at h|w::ws,_,_,_,_,.cons (b:=x) a1 a2,.cons (b:=y) b1 b2,.cons (b:=z) c1 c2,h1,h2=>by unfold ck at h1 h2⊢;have e1:=jo (w:=w.1) (e:=w.2) {_,a1,b1};have e2:=jo (w:=w.1) (e:=w.2) {_,b1,c1};have e3:=jo (w:=w.1) (e:=w.2) {_,a1,c1};by_cases c:x=y;subst c;rw[qb<|e1.mpr rfl]at h1;by_cases a:x=z;subst a;rw[qb<|e2.mpr rfl]at h2⊢;exact D2 a2 b2 c2 h1 h2;rw[qa λz=>a<|e2.mp z]at h2⊢;exact h2;rw[qa λz=>c<|e1.mp z]at h1;by_cases a:y=z;subst a;rw[qa λz=>c<|e3.mp z];exact h1;rw[qa λz=>a<|e2.mp z]at h2;obtain⟨d,g⟩:=Fl (p:=("",w.1,w.2)) a1 b1 c1 c a ((qm {_,a1,b1}).mp h1).2 ((qm {_,b1,c1}).mp h2).2;rw[qa λz=>d<|e3.mp z];exact(qm {_,a1,c1}).mpr ⟨d,g⟩
noncomputable def Xj(cs:δ<|ρ×ρ)(z:ρ):Str:=((cs[Kg cs z]?).map Prod.snd).getD "word"
noncomputable def Xk(cs:δ<|ρ×ρ)(ps:δ Part):δ Str:=ps.map (λp=>Xj cs p.1)++[("word": ρ)]
noncomputable def uJ(cs:δ<|ρ×ρ)(ps:δ Part)(r:Row):δ D:=ps.map (λp=>ai cs r.2 p.1)++[.str r.1]
theorem kz:∀z∈KS,Vg "word" (.str z):=by
 have h:∀z∈KS,(pW z&&bc (.str z))=ϱ:=by trivial
 exact λz hz=>let q:=Bool.and_eq_true_iff.mp<|h z hz;⟨q.1,q.2⟩
theorem cY:∀{l:δ α}{m:δ β}{c:δ α}{d:δ β},Paired r l m->Paired r c d->Paired r (l++c) (m++d)|_,_,_,_,.nil,h=>h|_,_,_,_,.cons a t,h=>.cons a<|cY t h
theorem l8(hg:Gd cs)(hp:Pin cs ps)(hw:Wg cs ws):Paired (λk x=>Vg k x) (ps.map λp=>Xj cs p.1) (ps.map λp=>ai cs ws p.1):=by induction ps with|nil=>exact .nil|cons p ps d=>refine .cons ?_<|d hp.tail;obtain⟨c,a,e⟩:=hp p zq;show Vg (Xj cs p.1) (ai cs ws p.1);unfold Xj;rw[<-e,(xE hg a).1];exact(kL hg hw a).2
theorem kB(hg:Gd cs)(hp:Pin cs ps)(hw:Wg cs r.2)(hk:r.1∈KS):PV (Xk cs ps) (uJ cs ps r):=cY (l8 hg hp hw)<|.cons (kz _ hk) .nil
theorem Fu(hg:Gd cs){wy:ρ}(ha:Wg cs a.2)(j:Wg cs b.2)(i:a.1∈KS)(g:b.1∈KS)(n:a.1≠b.1):∀{ps:δ Part},Pin cs ps->(bJ cs wy ps a b=ϱ↔ck (n_ ps wy) (uJ cs ps a) (uJ cs ps b)<0)|[],_=>(by show(n6 a.1 b.1==ω (wy ="up"))=ϱ↔(if cV wy "last" (.str a.1) (.str b.1)=0 then 0 else cV wy "last" (.str a.1) (.str b.1))<0;have n':(.str a.1:D)≠.str b.1:=λe=>n<|D.str.inj e;rw[qa λz=>n'<|(jo {_,kz _ i,kz _ g}).mp z,qm {_,kz _ i,kz _ g}];exact{λh=>⟨n',h⟩,λh=>h.2})|p::ps,hp=>by obtain⟨k,hk⟩:=rC hg hp;have c:=hk _ ha;have d:=hk _ j;show(if k_ (ai cs a.2 p.1) (ai cs b.2 p.1)=ϱ then bJ cs wy ps a b else cG p (ai cs a.2 p.1) (ai cs b.2 p.1))=ϱ↔(if cV p.2.1 p.2.2 (ai cs a.2 p.1) (ai cs b.2 p.1)=0 then ck (n_ ps wy) (uJ cs ps a) (uJ cs ps b) else cV p.2.1 p.2.2 (ai cs a.2 p.1) (ai cs b.2 p.1))<0;by_cases q:ai cs a.2 p.1=ai cs b.2 p.1;rw[qb<|(aT c.2 d.2).mpr q,qb<|(jo {_,c,d}).mpr q];exact Fu hg ha j i g n hp.tail;rw[qa λz=>q<|(aT c.2 d.2).mp z,qa λz=>q<|(jo {_,c,d}).mp z,qm {_,c,d}];exact{λh=>⟨q,h⟩,λh=>h.2}
noncomputable def Xl(ws:δ<|ρ×ρ)(g:δ D)(sd:ρ)(x:δ D):Bool:=ω (ck ws x g<0)||(ω (ck ws x g=0)&&ω (sd ="behind"))
theorem Xm{ws:δ<|ρ×ρ}{ks:δ ρ}{g x y:δ D}{sd:ρ}(hl:ws.length=ks.length)(hx:PV ks x)(a:PV ks y)(hg:PV ks g)(h:ck ws x y<0)(q:Xl ws g sd y=ϱ):Xl ws g sd x=ϱ:=by unfold Xl at q⊢;simp only[Bool.or_eq_true,zJ,zP]at q⊢;rcases q with q|⟨q,_⟩;exact .inl<|D2 hx a hg h q;rw[<-(nI hl a hg).mp q];exact .inl h
theorem xI:∀{l:δ α},(l.Pairwise λa b=>g b=ϱ->g a=ϱ)->∀{i:π}{a:α},l[i]?=some a->(g a=ϱ↔i<l.countP g)
 |[],_,i,a,h=>by simp at h
 |x::l,hp,i,a,h=>by
  obtain⟨h1,h2⟩:=List.pairwise_cons.mp hp;rw[List.countP_cons];by_cases q:g x=ϱ;rw[qb q];cases i with|zero=>(cases h;simp[q])|succ i=>rw[xI h2<|show l[i]?=some a from h];lia
  have z:l.countP g=0:=List.countP_eq_zero.mpr λb c e=>q<|h1 b c e;rw[qa q,z];have:g a≠true:=by cases i with|zero=>(cases h;exact q)|succ i=>exact λe=>q<|h1 a (zD h) e
  simp[this]
theorem KG{α:Type}{g:α->χ}{l:δ α}(hp:l.Pairwise λa b=>g b=ϱ->g a=ϱ){n:π}(hn:n<=l.length)(h1:∀i a,i<n->l[i]?=some a->g a=ϱ)(h2:∀i a,n<=i->l[i]?=some a->g a=ϰ):n=l.countP g:=by
 have c:l.countP g<=l.length:=List.countP_le_length;rcases Nat.lt_trichotomy n (l.countP g) with h|h|h;have hi:n<l.length:=by lia
 have e:=zf hi;have:=(xI hp e).mpr h;rw[h2 n _ (zk _) e]at this;cases this;exact h;have hi:l.countP g<l.length:=by lia
 have e:=zf hi;have:=(xI hp e).mp<|h1 _ _ h e;lia
noncomputable def D5(xs:δ D)(k:ρ):D:=.tup [.tup xs,.str k]
abbrev Ss:=δ D×ρ×ρ
noncomputable def KH(g:Ss):D:=.tup [D5 g.1 g.2.1,.str g.2.2]
noncomputable def KJ(z:ρ):Bool:=ω (z ="ahead")||ω (z ="behind")
structure Gp(cs:δ (ρ×ρ))(ps:δ Part)(g:Ss):η where
 pv:Paired (λk x=>Vg k x) (ps.map λp=>Xj cs p.1) g.1
 key:g.2.1∈KS
 side:KJ g.2.2=ϱ
noncomputable def Xn(g:Ss):δ D:=g.1++[.str g.2.1]
theorem Gp.vs(h:Gp cs ps g):PV (Xk cs ps) (Xn g):=cY h.pv<|.cons (kz _ h.key) .nil
theorem Gp.len(h:Gp cs ps g):g.1.length=ps.length:=by have:=yH h.pv;rw[zb]at this;exact this.symm
theorem Og.len(h:Og cs ps wy):ps.length<=8:=by have:=h.ok;unfold Kb at this;simp only[zJ,zP]at this;exact this.1
structure An(cs:δ (ρ×ρ))(ps:δ Part)(wy:ρ)(A:δ Row):η where
 rg:Rg cs A
 ky:∀r∈A,r.1∈KS
 pw:A.Pairwise λa b=>bJ cs wy ps a b=ϱ
noncomputable def gP(cs:δ<|ρ×ρ)(ps:δ Part)(wy:ρ)(g:Ss)(r:Row):Bool:=Xl (n_ ps wy) (Xn g) g.2.2<|uJ cs ps r
theorem xJ:(n_ ps wy).length=(Xk cs ps).length:=by unfold n_ Xk;simp
theorem An.lex(hg:Gd cs)(hp:Pin cs ps)(h:An cs ps wy A):A.Pairwise λa b=>ck (n_ ps wy) (uJ cs ps a) (uJ cs ps b)<0:=by have nd:A.Pairwise λa b=>a.1≠b.1:=List.pairwise_map.mp h.rg.2;refine(h.pw.and nd).imp_of_mem λ{a b} ha c q=>?_;exact(Fu hg (h.rg.1 a ha) (h.rg.1 b c) (h.ky a ha) (h.ky b c) q.2 hp).mp q.1
theorem An.mono(hg:Gd cs)(hp:Pin cs ps)(h:An cs ps wy A)(d:Gp cs ps g):A.Pairwise λa b=>gP cs ps wy g b=ϱ->gP cs ps wy g a=ϱ:=by refine(h.lex hg hp).imp_of_mem λ{a b} ha c q=>?_;exact Xm xJ (kB hg hp (h.rg.1 a ha)<|h.ky a ha) (kB hg hp (h.rg.1 b c)<|h.ky b c) d.vs q
inductive tP (ds:δ D) (S:ak) (R:KD) (Z:KX):η where
 |mk (cs ps wy r) (_:ds=[.tup<|cs.map aA,cI ps wy,ag r]) (_:Gd cs) (_:Pin cs ps) (_:ps.length<=8) (_:Wg cs r.2) (_:R (D5 (ps.map λp=>ai cs r.2 p.1) r.1) S)
theorem qp(T:Txt w K mg t):Ok P w base T.mV 3 tP:=by
 refine T.mV.F.b_ pU ?_;obtain⟨cs,ps,wy,r,e,hg,hp,l,hw,q⟩;refine{_,(sc (uA (N:=["part","columns","row"]) (src:=[none,some 0,some 2]) 3 pU.nd (lR C4) (HM<|ix hr.u (dv 1) di) qZ<|aU T.cE (dQ T) hr<|ap 1<|ap 2<|ac (ix hr.u (dv 0) di) an)<|s1<|sr<|bq<|ac (ct iM T.bz aZ<|ap 3 an)<|ac (ix hr.u (dv 2) di) an),?_};refine !!{_,.inl rfl,?_};refine comp_map (λd=>match d with|.tup (.str z::_)=>ai cs r.2 z|_=>.ay) trivial (by show(ps.map p3).length<=_;rw[zb];lia) (λd hd Q h=>?_) λp j=>?_;obtain⟨pt,i,rfl⟩:=zh.mp hd;obtain⟨c,g,a⟩:=hp pt i;refine !!!!{cs,r,c,(by rw[a];rfl),hg,hw,g,?_};rw[a];exact h;have e3:(ps.map p3).map (λd=>match d with|.tup (.str z::_)=>ai cs r.2 z|_=>.ay)=ps.map λp=>ai cs r.2 p.1:=by rw[zy];rfl
 rw[show({ps.map p3,λ_=>True}:n8).xs=ps.map p3 from rfl,e3];exact !{_,_,rfl,.inl aa,_,rfl,_,rfl,bY,S,.new j,q}
inductive Pcw (S:ak) (ps:δ Part) (wy:ρ) (xs ys:δ D) (k l:ρ) (j:ν) (av:SD) (S':ak):η where
 |mk (o3 o4 o5 o6:θ D) (_:av=[some<|cI ps wy,some<|D5 xs k,some<|D5 ys l,o3,o4,o5,o6]) (_:S'=S) (_:ck (n_ ps wy) (xs++[.str k]) (ys++[.str l])=j):Pcw S ps wy xs ys k l j av S'
inductive gG (ds:δ D) (S:ak) (R:KD) (Z:KX):η where
 |mk (ps:δ Part) (wy:ρ) (xs:δ D) (k:ρ) (ys:δ D) (l:ρ) (ks:δ ρ) (_:ds=[cI ps wy,D5 xs k,D5 ys l]) (_:ps.length=xs.length) (_:ps.length=ys.length) (_:Paired (λk x=>Vg k x) ks xs) (_:Paired (λk x=>Vg k x) ks ys) (_:k∈KS) (_:l∈KS) (_:R (.int<|ck (n_ ps wy) (xs++[.str k])<|ys++[.str l]) S)
set_option tactic.hygienic true in
theorem l9(T:Txt w K mg t):Ok P w base T.fb 3 gG:=by refine T.fb.F.b_ bE ?_;obtain⟨ps,wy,xs,k,ys,l,ks,e,h1,h2,s,o,hk,hl,q⟩;refine{_,(sc (qB<|AG (abg T.OX<|ac (ix hr.u (dv 0) di)<|ac (ix hr.u (dv 1) di)<|ac (ix hr.u (dv 2) di) an) (gt (n:=3)<|gc (gn (i:=3) bE.nd)<|gc (gn (i:=4) bE.nd)<|gc (gn (i:=5) bE.nd) g0)<|sc (bR (i:=6) bE.nd<|aU T.compared (qo T) hr<|ap 4<|ap 5<|ac (ix hr.u (dv 3) di)<|ac (ix hr.u (dv 3) di) an)<|s1<|si (aR g9 hr.u (dv 6) di) (s1<|sr<|dv 6) s0)<|s1<|sr<|aU T.compared (qo T) hr<|ac (ix hr.u (dv 1) di)<|ac (ix hr.u (dv 2) di)<|ac (ix hr.u (dv 0) di)<|ac ds an),?_};refine{Pcw S ps wy xs ys k l<|cV wy "last" (.str k)<|.str l,?_,?_};{refine !!!!!!{_,_,_,rfl,by rw[zb];exact h1,by rw[zb];exact h2,?_};refine{λi=>Pcw S ps wy xs ys k l<|ck (n_ (ps.drop i) wy) (xs.drop i++[.str k])<|ys.drop i++[.str l],{_,_,_,_,rfl,rfl,rfl},λ_ _ _ _=>trivial,?_,?_};rintro i d av S' hd ⟨o3,o4,o5,o6,rfl,rfl,a⟩;obtain⟨x,y,z,e1,e2,e3,rfl⟩:=oH hd;rw[zm]at e1;(cases c:ps[i]? with|none=>(rw[c]at e1;cases e1)|some p=>rw[c]at e1;cases e1;obtain⟨g,C⟩:=ze.mp c;obtain⟨v,E⟩:=ze.mp e2;obtain⟨B,A⟩:=ze.mp e3;rw[yc g,yc v,yc B,C,E,A]at a;have a:_=if cV p.2.1 p.2.2 y z=0 then ck (n_ (ps.drop<|i+1) wy) (xs.drop (i+1)++[.str k]) (ys.drop (i+1)++[.str l]) else cV p.2.1 p.2.2 y z:=a;obtain⟨G,j,H⟩:=eY s e2;obtain⟨I,r,m⟩:=eY o e3;cases j.symm.trans r;refine !{rfl,_,_,rfl,_,_,rfl,_,_,rfl,rfl,?_};refine !!!!!!{y,z,p.2.1,p.2.2,rfl,⟨G,H,m⟩,_,rfl,_,rfl,bC (λh=>?_) λh=>?_};have h:(!decide (cV p.2.1 p.2.2 y z=0))=ϱ:=h;rw[qa<|yn<|nt h]at a;rw[a]at q;exact{_,rfl,fo q};have h:(!decide (cV p.2.1 p.2.2 y z=0))=ϰ:=h;rw[qb<|zG<|nf h]at a;exact{_,_,_,_,rfl,rfl,a});{rintro av S' ⟨o3,o4,o5,o6,rfl,rfl,a⟩;have a:_=ck (n_ (ps.drop (jN (ps.map p3) xs ys).length) wy) (xs.drop (jN (ps.map p3) xs ys).length++[.str k]) (ys.drop (jN (ps.map p3) xs ys).length++[.str l]):=a;rw[oG (by rw[zb];exact h1)<|by rw[zb];exact h2,zb,List.drop_length,h1,List.drop_length,<-h1,h2,List.drop_length]at a;refine fo {o3,o4,o5,o6,rfl,rfl,a.trans ?_};show(if cV wy "last" (.str k) (.str l)=0 then 0 else cV wy "last" (.str k) (.str l))=_;split;{next h=>exact h.symm};rfl}};rintro av S' ⟨o3,o4,o5,o6,rfl,rfl,a⟩;rw[a]at q;exact !!!!!!{_,_,_,_,rfl,{_,kz k hk,kz l hl},fo q}
inductive tQ (ds:δ D) (S:ak) (R:KD) (Z:KX):η where
 |mk (cs ps wy r g) (_:ds=[cI ps wy,D5 (ps.map λp=>ai cs r.2 p.1) r.1,KH g]) (_:Gd cs) (_:Pin cs ps) (_:Wg cs r.2) (_:r.1∈KS) (_:Gp cs ps g) (_:R (.bl<|gP cs ps wy g r) S)
theorem qq(T:Txt w K mg t):Ok P w base T.mW 4 tQ:=by refine T.mW.F.b_ pV ?_;obtain⟨cs,ps,wy,r,g,e,hg,hp,hw,hk,a,q⟩;refine{_,(sc (bR (i:=3) pV.nd<|aU T.fb (l9 T) hr<|ap 0<|ap 1<|ac (ix hr.u (dv 2) di) an)<|sc (si (aR aK hr.u (dv 3) di) (s1<|sr<|cm aK hr.u (ix hr.u (dv 2) di) ds) s0)<|s1<|sr<|cm oz hr.u (dv 3) di),?_};refine !!!!{ps,wy,_,r.1,g.1,g.2.1,_,rfl,by rw[zb],a.len.symm,l8 hg hp hw,a.pv,hk,a.key,_,rfl,_,rfl,?_};unfold gP Xl at q;change R (.bl<|ω (ck (n_ ps wy) ((ps.map λp=>ai cs r.2 p.1)++[.str r.1]) (g.1++[.str g.2.1])<0)||ω (ck (n_ ps wy) ((ps.map λp=>ai cs r.2 p.1)++[.str r.1]) (g.1++[.str g.2.1])=0)&&ω (g.2.2 ="behind")) S at q;generalize ck (n_ ps wy) _ _=n at q⊢;refine bC (λh=>?_) λh=>?_;have h:n=0:=zG h;subst h;exact !!⟨fo q⟩;have h:¬n=0:=yn h;rw[zw h,zY,Bool.or_false]at q;exact{_,rfl,fo q}
inductive Cw (S:ak) (cs:δ<|ρ×ρ) (ps:δ Part) (wy:ρ) (l:ε) (g:Ss) (A:δ Row) (m:π) (av:SD) (S':ak):η where
 |mk (lo hi:π) (o6:θ D) (_:av=[some<|.tup<|cs.map aA,some<|cI ps wy,some<|.ref l,some<|KH g,some<|.int (lo:π),some<|.int (hi:π),o6]) (_:S'=S) (_:m=hi-lo) (_:lo<=hi) (_:hi<=A.length) (_:(∀i a,i<lo->A[i]?=some a->gP cs ps wy g a=ϱ)) (_:(∀i a,hi<=i->A[i]?=some a->gP cs ps wy g a=ϰ)):Cw S cs ps wy l g A m av S'
inductive lM (ds:δ D) (S:ak) (R:KD) (Z:KX):η where
 |mk (cs ps wy A l g) (_:ds=[.tup<|cs.map aA,cI ps wy,.ref l,KH g]) (_:Gd cs) (_:Pin cs ps) (_:ps.length<=8) (_:S l=ϑ (.lst<|A.map ag)) (_:An cs ps wy A) (_:Gp cs ps g) (_:R (.int ((A.countP (gP cs ps wy g):π):ν)) S)
theorem tR(T:Txt w K mg t):Ok P w base T.j5 5 lM:=by
 refine T.j5.F.b_ cg ?_;obtain⟨cs,ps,wy,A,l,g,e,hg,hp,C,hl,hA,n,q⟩;refine{_,(sc (bR (i:=4) cg.nd di)<|sc (bR (i:=5) cg.nd<|cb ba T.aX aI<|ap 2 an)<|sc (qB<|swh (aR oz hr.u (dv 4)<|dv 5)<|sc (bR (i:=6) cg.nd<|bo dh hr.u (bo aS hr.u (dv 4)<|dv 5) di)<|s1<|si (tv<|aU T.mW (qq T) hr<|ap 1<|ac (aU T.mV (qp T) hr<|ap 0<|ap 1<|ac (ix hr.u (dv 2)<|dv 6) an)<|ap 3 an) (s1<|bR (i:=4) cg.nd<|bo aS hr.u (dv 6) di)<|s1<|bR (i:=5) cg.nd<|dv 6)<|s1<|sr<|dv 4),?_};refine !!⟨.inl {_,hl,?_}⟩;rw[zb];refine{λav S'=>∃(o6:θ D),av=[some<|.tup<|cs.map aA,some<|cI ps wy,some<|.ref l,some<|KH g,some<|.int ((A.countP (gP cs ps wy g):π):ν),some<|.int ((A.countP (gP cs ps wy g):π):ν),o6]/\S'=S,?_,?_};refine{Cw S cs ps wy l g A,{_,0,A.length,none,rfl,rfl,rfl,yb _,zk _,λi a h=>absurd h<|Nat.not_lt_zero _,λi a h e=>?_},?_};rw[List.getElem?_eq_none h]at e;cases e;rintro m av S' ⟨lo,hi,o6,rfl,rfl,rfl,h1,h2,s,p⟩;refine !!!⟨bC (λh=>?_) λh=>?_⟩;have h:lo<hi:=by have:=zG h;lia
 have hm:(lo+hi)/2<A.length:=by lia
 have d:=zf hm;generalize A[(lo+hi)/2]=r at d;have o:=zD d;have B:(((lo:π):ν)+((hi:π):ν))/2=(((lo+hi)/2:π):ν):=by lia
 have mono:=hA.mono hg hp n;refine !!⟨{by decide,by decide},?_⟩;rw[B];refine !!!!!{_,ag r,hl,cL<|by rw[zm,d];rfl,cs,ps,wy,r,rfl,hg,hp,C,hA.rg.1 r o,_,rfl,cs,ps,wy,r,g,rfl,hg,hp,hA.rg.1 r o,hA.ky r o,n,_,rfl,bC (λz=>?_) λz=>?_};refine !{hi-((lo+hi)/2+1),by lia,(lo+hi)/2+1,hi,_,rfl,rfl,rfl,by lia,h2,λi a x c=>?_,p};rcases y9 i ((lo+hi)/2) with j|v;exact List.pairwise_iff_getElem.mp mono i _ (ze.mp c).1 hm j |> λk=>by rw[(ze.mp c).2,(ze.mp d).2]at k;exact k z
 have:i=(lo+hi)/2:=by lia
 subst this;rw[d]at c;cases c;exact z;refine !{(lo+hi)/2-lo,by lia,lo,(lo+hi)/2,_,rfl,rfl,rfl,by lia,by lia,s,λi a x c=>?_};rcases y9 ((lo+hi)/2) i with j|v;cases y:gP cs ps wy g a with|false=>rfl|true=>have k:=List.pairwise_iff_getElem.mp mono _ i hm (ze.mp c).1 j;rw[(ze.mp c).2,(ze.mp d).2]at k;exact tf (k y) z
 have:i=(lo+hi)/2:=by lia
 subst this;rw[d]at c;cases c;exact z;have h:lo=hi:=by have:=yn h;lia
 subst h;have:=KG (hA.mono hg hp n) h2 s p;subst this;exact fo !⟨rfl⟩;rintro av S' ⟨o6,rfl,rfl⟩;exact{_,rfl,fo q}
structure Bu(cs:δ (ρ×ρ))(ps:δ Part)(wy:ρ)(n:π)(d:D)(rows A:δ Row):η where
 an:An cs ps wy A
 pm:A.Perm (rows.filter λr=>aW cs r n d)
theorem Bu.one(hg:Gd cs)(hp:Pin cs ps)(h:Bu cs ps wy n d rows A)(h':Bu cs ps wy n d rows A'):A=A':=Nv hg hp h'.an.rg h.an.pw h'.an.pw<|h.pm.trans h'.pm.symm
def Pe(rows:δ Row):Prop:=∀r∈rows,r.1∈KS
theorem KL(hr:Rg cs rows)(hk:Pe rows)(pm:A.Perm<|rows.filter λr=>aW cs r n d)(pw:A.Pairwise λa b=>bJ cs wy ps a b=ϱ):Bu cs ps wy n d rows A:={{(hr.sub yN).perm pm,λr h=>hk r (ye.mp<|pm.mem_iff.mp h).1,pw},pm}
structure Qs(t:gY)(S:ak)(a:ε)(cs:δ (ρ×ρ))(ps:δ Part)(wy:ρ)(d m:D)(rows:δ Row):η where
 g:Gd cs
 o:Og cs ps wy
 s:Sq cs d
 v:Vw t.ar S a cs m rows
 k:Pe rows
 t:Tb t S
noncomputable def Ug(cs:δ<|ρ×ρ)(ps:δ Part)(sd:ρ)(r:Row):Ss:=(ps.map λp=>ai cs r.2 p.1,r.1,sd)
theorem D6{cs:δ<|ρ×ρ}(hg:Gd cs){ps:δ Part}(hp:Pin cs ps){r:Row}(hw:Wg cs r.2)(hk:r.1∈KS){sd:ρ}(a:KJ sd=ϱ):Gp cs ps (Ug cs ps sd r):={l8 hg hp hw,hk,a}
set_option tactic.hygienic true in
theorem D7(x:ρ)(n:π):(PySem.Txt.slice x none<|some (n:ν)).cps.toList=x.cps.toList.take n:=by
 have e1:PySem.Builtin.Str.strSliceIndices none (some (n:ν)) 1 x.length=PySem.Builtin.Str.strSliceIndices (some ((0:π):ν)) (some ((min n x.length:π):ν)) 1 x.length:=by unfold PySem.Builtin.Str.strSliceIndices;have h1:((1:ν)>0)=True:=(by simp);simp only[h1,if_true];have g:¬((n:ν)<0):=(by lia);have c:¬(((min n x.length:π):ν)<0):=(by lia);have d:¬(((0:π):ν)<0):=(by lia);simp only[g,c,d,if_false];have e:max 0 (min ((0:π):ν) (x.length:ν))=0:=(by lia);have a:max 0 (min (n:ν) (x.length:ν))=max 0 (min ((min n x.length:π):ν) (x.length:ν)):=(by lia);rw[e,a]
 have e2:(PySem.Builtin.Str.strSliceIndices none (some (n:ν)) 1 x.length).filterMap (x.cps[·]?)=x.cps.toList.take n:=by rw[e1,StrLaws.sliced_plain x (yb _)<|Nat.min_le_right _ _,y3,Nat.sub_zero];by_cases h:n<=x.length;rw[Nat.min_eq_left h];have hl:x.cps.toList.length=x.length:=yh;rw[Nat.min_eq_right<|by lia,List.take_of_length_le<|by lia,List.take_of_length_le<|by lia]
 unfold PySem.Txt.slice;split;{next h=>simp only[zJ,beq_iff_eq]at h;rw[e1,StrLaws.strSliceIndices_plain (yb _)<|Nat.min_le_right _ _,zb,List.length_range]at h;have hl:x.cps.toList.length=x.length:=yh;rw[List.take_of_length_le<|by lia]};rw[e2]
theorem xK(x y:ρ):ω (PySem.Txt.slice x none (some ((y.length:π):ν))=y)=PySem.Txt.startswith x y:=by unfold PySem.Txt.startswith;rw[StrLaws.subAt_eq,y3,Nat.zero_add,yj];simp only[decide_eq_true_iff,zJ,beq_iff_eq];have c:=D7 x y.length;constructor;intro h;rw[h]at c;have hl:x.cps.toList.length=x.length:=yh;have d:y.cps.toList.length=y.length:=yh;refine{?_,c.symm};have:=congrArg List.length c;rw[zE]at this;lia;rintro⟨_,h⟩;rw[h]at c;obtain⟨a⟩:=y;generalize hz:PySem.Txt.slice x none _=z at c⊢;obtain⟨b⟩:=z;exact congrArg Str.mk<|Array.ext' c
theorem KN(hg:Gd cs)(g:c∈cs):((cs.map Prod.fst).map D.str).all jK=ϱ/\(∃z,((cs.map Prod.fst).map D.str)[Kg cs c.1]?=some z/\eqV (kX z) (kX<|.str c.1)=ϱ)/\∀m u,m<Kg cs c.1->((cs.map Prod.fst).map D.str)[m]?=some u->eqV (kX u) (kX<|.str c.1)=ϰ:=by obtain⟨n,d⟩:=xE hg g;refine{?_,{.str c.1,by rw[zm,d];rfl,by show(c.1==c.1)=ϱ;simp},?_};rw[List.all_map];exact zZ.mpr λ_ _=>rfl;intro m u hm hu;rw[zm]at hu;cases e:(cs.map Prod.fst)[m]? with|none=>(rw[e]at hu;cases hu)|some a=>rw[e]at hu;cases hu;show(a==c.1)=ϰ;have:a≠c.1:=λq=>(by subst q;obtain⟨i,j⟩:=ze.mp e;obtain⟨h,l⟩:=ze.mp d;have:=(List.getElem_inj hg.2.1 (h₀:=i) (h₁:=h)).mp<|j.trans l.symm;lia);simpa using this
noncomputable def Su:D->D|.tup (x::_)=>x|_=>.ay
theorem Bv(cs:δ<|ρ×ρ):(cs.map aA).map Su=(cs.map Prod.fst).map D.str:=by rw[zy,zy];rfl
theorem l_(T:Txt w K mg t):∀n,Ok P w base T.ic (3+n) (DM n)
 |0=>by refine T.ic.F.ok (k:=2) eW (by rintro ds S R Z ⟨_,_,_,e,_⟩;rw[e];rfl) (by rintro gv A outer s H E ds S R Z hr ⟨cs,d,r,e,hg,J,_⟩;exact J.elim)
 |n+1=>by
  refine T.ic.F.ok (k:=3+n) eW (by rintro ds S R Z ⟨_,_,_,e,_⟩;rw[e];rfl) ?_;rintro gv A outer s H E ds S R Z hr ⟨cs,d,r,e,hg,J,hw,q⟩;subst e;have y:=bY;refine{_,(sc (bR (i:=3) eW.nd<|ix hr.u (dv 1) di)<|sc (si (aR aK hr.u (dv 3) ds) (s1<|sr db) s0)<|sc (si (aR aK hr.u (dv 3) ds) (s1<|sr<|cm uy hr.u (ix hr.u (dv 2) di)<|ix hr.u (dv 1) di) s0)<|sc (si (aR aK hr.u (dv 3) ds) (s1<|sr<|Q5<|aU T.ic (l_ T n) hr<|ap 0<|ac (ix hr.u (dv 1) di)<|ap 2 an) s0)<|sc (si (aR uy hr.u (dv 3)<|bq<|ac ds<|ac ds an) (sc (uA (N:=["_law_one","_law_columns_here","_law_row"]) (src:=[none,some 0,some 2]) 4 eW.nd (lR sM) (HM<|ix hr.u (dv 1) di) qZ<|aU T.ic (l_ T n) hr<|ap 1<|ap 0<|ap 2 an)<|s1<|sr<|xZ<|ix hr.u (bT<|ac (cb OA T.OV IJ<|ap 4 an)<|ac (cb jL T.jV fF<|ap 4 an) an)<|ct EJ T.A3 rZ<|ac (cm aK hr.u (dv 3) ds) an) s0)<|sc (bR (i:=5) eW.nd<|ix hr.u (ix hr.u (dv 2) di)<|bm zQ PySem.F.slot_list_index PySem.F.type_list_index sD (TN (N:=["_law_name","_law_kind"]) (src:=[none,none]) (lR sM) (HM<|dv 0) (Ws<|show(["_law_name","_law_kind"]:δ ρ).Nodup by trivial) (mz rfl rfl) mG (λ_ _ _ _ _=>qZ) λ_ _ _ _ _=>(dv 0))<|ac (ix hr.u (dv 1) di) an)<|sc (si (twd<|twor (aR aK hr.u (dv 3) ds)<|tw1<|aR gq hr.u (dv 5) dn) (s1<|sr<|qz (cm aK hr.u (dv 3) ds)<|HI<|cm aK hr.u (dv 5)<|ix hr.u (dv 1) di) s0)<|sc (si (aR aK hr.u (dv 3) ds) (s1<|sr<|cm aK hr.u (slx (dv 5) o0<|o1<|cb ba T.aX aI<|ac (ix hr.u (dv 1) di) an)<|ix hr.u (dv 1) di) s0)<|s1<|sr<|xZ<|ix hr.u (bT<|ac (cm qA hr.u (dv 5)<|ix hr.u (dv 1) di)<|ac (cm oz hr.u (dv 5)<|ix hr.u (dv 1) di) an)<|ct EJ T.A3 rZ<|ac (cm aK hr.u (dv 3) ds) an),?_};rcases J with (rfl|⟨ks,rfl,a0,BO⟩|⟨o,c,v,M,x,ho,rfl⟩)|⟨e,rfl,he⟩|⟨o,es,ho,rfl,mh,Lp⟩;exact !!!!⟨jh<|fo q⟩;refine !!!!⟨bI ?_⟩;refine !!⟨jh !!!!{rfl,?_,?_}⟩;rw[List.all_map];exact zZ.mpr λ_ _=>rfl;rw[Bj]at q;exact fo q;rw[O9]at q;obtain⟨X,m⟩:=kL hg hw M;unfold Bi at q;have four:o ="is"\/(o ="below"\/o ="above"\/o ="begins"):=by rcases ho with h|⟨_,h|h|⟨h,_⟩⟩;exact .inl h;exact .inr<|.inl h;exact .inr<|.inr<|.inl h;exact .inr<|.inr<|.inr h
  have g:ω (o ="every")=ϰ/\ω (o ="key")=ϰ/\ω (o ="not")=ϰ/\Cd (.str o) [.str "and",.str "or"]=ϰ:=by rcases four with rfl|rfl|rfl|rfl<;>decide +kernel
  refine !!!!⟨kK g.1 !!⟨kK g.2.1 !!⟨kK g.2.2.1 !{y,rfl,rfl,_,rfl,kK g.2.2.2 !!!{_,.inl rfl,?_}}⟩⟩⟩;refine comp_map Su trivial (by show(cs.map aA).length<=1000;rw[zb];have:=hg.1;lia) (λd hd Q G=>?_) λp hp=>?_;obtain⟨c,_,rfl⟩:=zh.mp hd;exact !{rfl,_,_,rfl,_,_,rfl,rfl,_,rfl,G};rw[show({cs.map aA,λ_=>True}:n8).xs=cs.map aA from rfl,Bv];have sb:=Sub.new (c:=.lst<|(cs.map Prod.fst).map D.str) hp;have C:(S.set p<|.lst<|(cs.map Prod.fst).map D.str) p=ϑ (.lst<|(cs.map Prod.fst).map D.str):=aa;generalize S.set p (.lst<|(cs.map Prod.fst).map D.str)=S1 at sb C⊢;have lx:=KN hg M;refine{{rfl,_,C},_,rfl,_,rfl,_,.str c.1,Kg cs c.1,rfl,C,rfl,lx.1,lx.2.1,lx.2.2,_,cL X,?_};have a:∀{b:χ},R (.bl b) S->Fo S1 (R<|.bl b):=λh=>⟨S,sb,h⟩;rcases ho with rfl|⟨L,ho⟩;rw[qb rfl]at q;exact !!⟨jh !!⟨jh !!!⟨ku m.2 x.2<|a q⟩⟩⟩;have B:ω (o ="is")=ϰ:=by rcases ho with rfl|rfl|⟨rfl,_⟩<;>decide +kernel
  rw[qa<|yn B]at q;refine !!⟨kK B !!⟨bC (λh=>?_) λh=>?_⟩⟩;rw[qb h]at q;exact !!⟨kK B<|a q⟩;rw[qa<|by rw[show ah (ai cs r.2 c.1)=ϰ from h];exact zd]at q;rcases ho with rfl|rfl|⟨rfl,hk⟩;rw[qb rfl]at q;refine !!⟨bI ?_⟩;rcases l6 m x (aV h) L with⟨i,j,l,rfl⟩|⟨i,j,l,rfl⟩<;>rw[l]at q⊢<;>exact !!!!!!{y,λp hp=>!⟨.inr !{_,_,aa,(show gI _ 1=ϑ _ from rfl),_,.new hp,a q}⟩};rw[qa<|by trivial,qb rfl]at q;refine !!⟨bI ?_⟩;rcases l6 m x (aV h) L with⟨i,j,l,rfl⟩|⟨i,j,l,rfl⟩<;>rw[l]at q⊢<;>exact !!!!!!{y,λp hp=>!⟨.inr !{_,_,aa,(show gI _ 0=ϑ _ from rfl),_,.new hp,a q}⟩};rw[qa<|by trivial,qa<|by trivial]at q;have hz:∀z,ai cs r.2 c.1=.str z->z.length<=sizeLine:=λz e=>sm<|(Kc m (S:=S)).2 z e;have I:∀z,v=.str z->z.length<=sizeLine:=λz e=>sm<|(Kc x (S:=S)).2 z e;rw[hk]at m x;obtain⟨i,l⟩:=rB m<|aV h;obtain⟨j,rfl⟩:=rB x L;have hz:=hz i l;have I:=I j rfl;rw[l]at q⊢;refine !!⟨jh !!!!{I,_,rfl,hz,_,rfl,_,rfl,?_}⟩;show Fo S1 (R<|.bl<|ω<|PySem.Txt.slice i none (some ((j.length:π):ν))=j);rw[xK];exact a q;rw[Bk]at q;exact !!!!⟨bI !!⟨bI !!⟨jh !!!!{cs,e,r,rfl,hg,he,hw,_,rfl,fo q}⟩⟩⟩;have hz:es.length<=1000:=by lia
  have g:ω (o ="every")=ϰ/\ω (o ="key")=ϰ/\ω (o ="not")=ϰ/\Cd (.str o) [.str "and",.str "or"]=ϱ:=by rcases ho with rfl|rfl<;>decide +kernel
  refine !!!!⟨kK g.1 !!⟨kK g.2.1 !!⟨kK g.2.2.1 !{y,rfl,rfl,_,rfl,ify g.2.2.2 !!{_,.inl rfl,?_}}⟩⟩⟩;refine comp_map (λd=>.bl<|aW cs r n d) trivial hz (λd hd Q G=>!!!{cs,d,r,rfl,hg,Lp d hd,hw,G}) λp hp=>?_;have Y:es.map (λd=>D.bl<|aW cs r n d)=(es.map<|aW cs r n).map D.bl:=by rw[zy];rfl
  rw[show({es,λ_=>True}:n8).xs=es from rfl,Y];have O:(S.set p<|.lst<|(es.map<|aW cs r n).map D.bl) p=_:=aa;refine !{.ref p,es.map<|aW cs r n,rfl,O,_,rfl,.ref p,es.map<|aW cs r n,rfl,O,y,λp2 U=>?_};rcases ho with rfl|rfl;rw[Bl]at q;refine{_,rfl,.inr !{_,_,aa,(show gI _ 1=ϑ _ from rfl),S,(Sub.new hp).trans<|.new U,fo ?_}};show R (.bl<|(es.map<|aW cs r n).all id) S;rw[all_map];exact q;rw[Fi]at q;refine{_,rfl,.inr !{_,_,aa,(show gI _ 0=ϑ _ from rfl),S,(Sub.new hp).trans<|.new U,fo ?_}};show R (.bl<|(es.map<|aW cs r n).any id) S;rw[List.any_map];exact q
noncomputable def nJ:D->PyData|.int i=>.int i|.str z=>.str z|_=>.none
theorem KO(hx:bc x=ϱ):Dp S x (nJ x)/\(nJ x).canLay0=ϱ/\(nJ x).depth<=0:=by cases x with|ay=>exact{by simp only[Dp,nJ],by simp only[nJ,PyData.canLay0],by simp only[nJ,PyData.depth];lia}|int i=>exact{by simp only[Dp,nJ],by simp only[nJ,PyData.canLay0],by simp only[nJ,PyData.depth];lia}|str z=>refine{by simp only[Dp,nJ],?_,by simp only[nJ,PyData.depth];lia};unfold bc at hx;simp only[zJ]at hx;simp only[nJ,PyData.canLay0];exact hx.2|_=>cases hx
theorem nK:∀{xs:δ D},(∀x∈xs,bc x=ϱ)->DpAll S xs (xs.map nJ)/\PyData.canLayAll0 (xs.map nJ)=ϱ/\PyData.depthAll (xs.map nJ)<=0|[],_=>{by simp only[y4,DpAll],rfl,yb _}|x::xs,h=>by obtain⟨a,b,c⟩:=KO (S:=S)<|h x zq;obtain⟨e,g,i⟩:=nK (S:=S) λy d=>h y<|zg _ d;exact{by simp only[zA,DpAll];exact{_,_,rfl,a,e},by simp only[zA,PyData.canLayAll0,b,g,Bool.and_self],by simp only[zA,PyData.depthAll];lia}
noncomputable def HR(r:Row):PyData:=.tuple [.str r.1,.tuple<|r.2.map nJ]
theorem Sv(hw:Wg cs r.2):Dr S (ag r) (HR r):=by refine .tup<|.cons (.str _)<|.cons (.tup ?_) .nil;have h:=Wg.all hw;generalize r.2=ws at h;induction ws with|nil=>exact .nil|cons v ws c=>refine .cons ?_<|c λd hd=>h d<|zg _ hd;have a:=h v zq;cases v<;>first|exact .ay|exact .int _|exact .str _|cases a
theorem xM(hw:Wg cs r.2)(hk:r.1∈KS):(HR r).canLay0=ϱ/\(HR r).depth<=2:=by obtain⟨_,b,c⟩:=nK (S:=λ_=>none)<|Wg.all hw;have z:=(i8 _ hk).2.2;unfold HR;refine{by simp only[PyData.canLay0,PyData.canLayAll0,z,b,Bool.and_self],?_};simp only[PyData.depth,PyData.depthAll];lia
noncomputable def Bw:δ D->δ D->χ|[],[]=>true|x::xs,y::ys=>k_ x y&&Bw xs ys|_,_=>false
theorem rD:∀{xs ys:δ D},(∀x∈xs,bc x=ϱ)->(∀x∈ys,bc x=ϱ)->(Bw xs ys=ϱ↔xs=ys)|[],[],_,_=>by simp[Bw]|[],_::_,_,_=>by simp[Bw]|_::_,[],_,_=>by simp[Bw]|x::xs,y::ys,h,k=>by unfold Bw;rw[zJ,aT (h x zq)<|k y zq,rD (λz hz=>h z<|zg _ hz) λz hz=>k z<|zg _ hz,List.cons.injEq]
theorem Sw(hx:bc x=ϱ)(a:bc y=ϱ):PyData.eqv (nJ x) (nJ y)=k_ x y:=by rcases fu hx with rfl|⟨i,rfl⟩|⟨i,rfl⟩<;>rcases fu a with rfl|⟨j,rfl⟩|⟨j,rfl⟩<;>simp only[nJ,PyData.eqv,k_]<;>first|rfl|exact beq_eq_decide _ _
theorem xN:∀{xs ys:δ D},(∀x∈xs,bc x=ϱ)->(∀x∈ys,bc x=ϱ)->PyData.eqvAll (xs.map nJ) (ys.map nJ)=Bw xs ys|[],[],_,_=>by simp only[y4,PyData.eqvAll,Bw]|[],y::ys,_,_=>by simp only[y4,zA,PyData.eqvAll,Bw]|x::xs,[],_,_=>by simp only[y4,zA,PyData.eqvAll,Bw]|x::xs,y::ys,h,k=>by have a:=Sw (h x zq)<|k y zq;have b:=xN (λz hz=>h z<|zg _ hz) λz hz=>k z<|zg _ hz;simp only[zA,PyData.eqvAll,a,b,Bw]
def Ld(S:ak)(n:π)(d:D):Prop:=∃p,Dr S d p/\p.canLay0=ϱ/\p.depth<=n
theorem Ld.le(h:Ld S n d)(l:n<=m):Ld S m d:=by obtain⟨p,a,b,c⟩:=h;exact{p,a,b,zH c l}
theorem Ld.all:∀{ds:δ D},(∀d∈ds,Ld S n d)->∃ps,JD S ds ps/\PyData.canLayAll0 ps=ϱ/\PyData.depthAll ps<=n/\ps.length=ds.length|[],_=>{[],.nil,rfl,yb _,rfl}|d::ds,h=>by obtain⟨p,a,b,c⟩:=h d zq;obtain⟨ps,g,i,j,e⟩:=Ld.all λx hx=>h x<|zg _ hx;exact{p::ps,.cons a g,by simp only[PyData.canLayAll0,b,i,Bool.and_self],by simp only[PyData.depthAll];lia,by rw[zR,zR,e]}
theorem Ld.ref{S:ak}{n:π}{a:ε}{ds:δ D}(e:S a=ϑ (.lst ds))(h:∀d∈ds,Ld S n d):Ld S (n+1) (.ref a):=by obtain⟨ps,a,b,c,_⟩:=Ld.all h;exact{.list ps,.ref e a,by simp only[PyData.canLay0];exact b,by simp only[PyData.depth];lia}
theorem NJ{S:ak}{a b:ε}{ds:δ D}{R:KD}{n:π}(e1:S a=ϑ (.lst ds))(e2:S b=ϑ (.lst []))(h:∀d∈ds,Ld S n d){c:χ}(q:R (.bl<|if c then !ds.isEmpty else ds.isEmpty) S):YK c (.ref a) (.ref b) S R:=by obtain⟨ps,g,i,j,e⟩:=Ld.all h;refine{.list ps,.list [],.ref e1 g,.ref e2 .nil,by simp only[PyData.canLay0];exact i,by simp only[PyData.canLay0,PyData.canLayAll0],.inr<|by simp only[PyData.depth,PyData.depthAll];lia,?_};rw[tG,show ps.isEmpty=ds.isEmpty by cases ps<;>cases ds<;>first|rfl|cases e];exact q
inductive tT (ds:δ D) (S:ak) (R:KD) (Z:KX):η where
 |mk (ps:δ Part) (wy:ρ) (xs:δ D) (k:ρ) (ys:δ D) (l:ρ) (ks:δ ρ) (_:ds=[cI ps wy,D5 xs k,D5 ys l]) (_:ps.length=xs.length) (_:ps.length=ys.length) (_:ps.length<=8) (_:Paired (λk x=>Vg k x) ks xs) (_:Paired (λk x=>Vg k x) ks ys) (_:k∈KS) (_:l∈KS)
  (_:R (.bl<|ω<|ck (n_ ps wy) (xs++[.str k]) (ys++[.str l])<0) S):tT ds S R Z
inductive Plw (S:ak) (ps:δ Part) (wy:ρ) (xs ys:δ D) (k l:ρ) (j:ν) (av:SD) (S':ak):η where
 |mk (o3 o4 o5 o6 o7 o8:θ D) (_:av=[some<|cI ps wy,some<|D5 xs k,some<|D5 ys l,o3,o4,o5,o6,o7,o8]) (_:S'=S) (_:ck (n_ ps wy) (xs++[.str k]) (ys++[.str l])=j):Plw S ps wy xs ys k l j av S'
set_option tactic.hygienic true in
theorem nL(T:Txt w K mg t):Ok P w base T.lX 1 tT:=by
 refine T.lX.F.b_ fB ?_;obtain⟨ps,wy,xs,k,ys,l,ks,e,h1,h2,X,N,L,hk,hl,q⟩;have v:(ps.map p3).length=ps.length:=zb _;refine{_,(sc (qB<|AG (MN T.fq<|ac (cb ba T.aX aI<|ac (ix hr.u (dv 0) di) an) an) (gn (i:=3) fB.nd)<|sc (sa (ix hr.u (ix hr.u (dv 0) di)<|dv 3)<|gt (n:=3)<|gc (gn (i:=4) fB.nd)<|gc (gn (i:=5) fB.nd)<|gc (gn (i:=6) fB.nd) g0)<|sc (abb (i:=7) (j:=8) fB.nd<|ac (ix hr.u (ix hr.u (dv 1) di)<|dv 3)<|ac (ix hr.u (ix hr.u (dv 2) di)<|dv 3) an)<|s1<|si (aR g9 hr.u (dv 7)<|dv 8) (sc (si (twd<|twor (aR gq hr.u (dv 7) dn)<|tw1<|aR gq hr.u (dv 8) dn) (s1<|sr<|cm aK hr.u (cm gq hr.u (dv 7) dn)<|cm aK hr.u (dv 6) ds) s0)<|s1<|sr<|cm aK hr.u (cm oz hr.u (dv 7)<|dv 8)<|cm aK hr.u (dv 5) ds) s0)<|sc (si (aR aK hr.u (ix hr.u (dv 1) di)<|ix hr.u (dv 2) di) (s1<|sr db) s0)<|s1<|sr<|cm aK hr.u (cm oz hr.u (ix hr.u (dv 1) di)<|ix hr.u (dv 2) di)<|cm aK hr.u (ix hr.u (dv 0) di) ds),?_};refine{Plw S ps wy xs ys k l<|cV wy "last" (.str k)<|.str l,?_,?_};{refine !!!!{by rw[v];lia,by rw[v];lia,?_};refine{λi=>Plw S ps wy xs ys k l<|ck (n_ (ps.drop i) wy) (xs.drop i++[.str k])<|ys.drop i++[.str l],{_,_,_,_,_,_,rfl,rfl,rfl},λ_ _ _ _=>trivial,?_,?_};rintro i d av S' hd ⟨o3,o4,o5,o6,o7,o8,rfl,rfl,c⟩;obtain⟨hi,rfl⟩:=dw hd;have B:i<ps.length:=(by rw[v]at hi;lia);have C:i<xs.length:=(by lia);have E:i<ys.length:=(by lia);have e1:=zf B;have e2:=zf C;have e3:=zf E;rw[yc B,yc C,yc E]at c;generalize ps[i]=p at e1 c;generalize xs[i]=y at e2 c;generalize ys[i]=z at e3 c;have c:_=if cV p.2.1 p.2.2 y z=0 then ck (n_ (ps.drop<|i+1) wy) (xs.drop (i+1)++[.str k]) (ys.drop (i+1)++[.str l]) else cV p.2.1 p.2.2 y z:=c;obtain⟨A,I,m⟩:=eY N e2;obtain⟨Y,M,g⟩:=eY L e3;cases I.symm.trans M;have x:(0:ν)+((i:π):ν)=((i:π):ν):=Int.zero_add _;have U:gI (ps.map p3) (0+((i:π):ν))=ϑ (p3 p):=(by rw[x];exact cL<|by rw[zm,e1];rfl);have J:gI xs (0+((i:π):ν))=ϑ y:=(by rw[x];exact cL e2);have H:gI ys (0+((i:π):ν))=ϑ z:=(by rw[x];exact cL e3);refine !!!{_,U,_,rfl,rfl,_,_,rfl,_,_,rfl,_,_,rfl,rfl,?_};refine !!!{_,J,_,rfl,_,rfl,_,rfl,_,H,_,_,rfl,?_};refine !!⟨ku m.2 g.2 !⟨bC (λh=>?_) λh=>?_⟩⟩;have h:k_ y z=ϰ:=nt h;have s:y≠z:=λe=>(by rw[(aT m.2 g.2).mpr e]at h;cases h);have G:cV p.2.1 p.2.2 y z≠0:=λe=>s<|(jo ⟨A,m,g⟩).mp e;rw[qa G]at c;have o:R (.bl<|cG ("",p.2.1,p.2.2) y z) S':=(by have:ω (cV p.2.1 p.2.2 y z<0)=cG ("",p.2.1,p.2.2) y z:=(by rw[yj,zP,qm ⟨A,m,g⟩];exact{λh=>h.2,λh=>⟨s,h⟩});rw[c,this]at q;exact q);unfold cG at o;have two:(ah y||ah z)=(ah y != ah z):=(by cases e4:ah y<;>cases Q:ah z<;>first|rfl|(exfalso;exact s<|(dm e4).trans (dm Q).symm));refine !{ah y,rfl,Kx (ah z) (λh=>!!⟨h⟩) ?_};rw[two];refine bC (λr=>?_) λr=>?_;rw[qb r]at o;exact !!⟨kx<|fo o⟩;rw[qa<|by rw[r];exact zd]at o;rw[<-two,Bool.or_eq_false_iff]at r;rcases l6 m g (aV r.1) (aV r.2) with⟨a,b,rfl,rfl⟩|⟨a,b,rfl,rfl⟩;exact !!!⟨kx<|fo o⟩;exact !!!⟨kx<|fo o⟩;have h:k_ y z=ϱ:=nf h;rw[qb<|(jo ⟨A,m,g⟩).mpr<|(aT m.2 g.2).mp h]at c;exact{_,_,_,_,_,_,rfl,rfl,c};{rintro av S' ⟨o3,o4,o5,o6,o7,o8,rfl,rfl,c⟩;have c:_=ck (n_ (ps.drop (eV 0 (((ps.map p3).length:π):ν).toNat).length) wy) (xs.drop (eV 0 (((ps.map p3).length:π):ν).toNat).length++[.str k]) (ys.drop (eV 0 (((ps.map p3).length:π):ν).toNat).length++[.str l]):=c;rw[cQ,v,show((ps.length:π):ν).toNat=ps.length by lia,List.drop_length,h1,List.drop_length,<-h1,h2,List.drop_length]at c;refine fo {_,_,_,_,_,_,rfl,rfl,c.trans ?_};show(if cV wy "last" (.str k) (.str l)=0 then 0 else cV wy "last" (.str k) (.str l))=_;split;{next h=>exact h.symm};rfl}};rintro av S' ⟨o3,o4,o5,o6,o7,o8,rfl,rfl,c⟩;rw[c]at q;have cm:Cm (.str k) (.str l):={_,kz k hk,kz l hl};refine !!!!!⟨bC (λh=>?_) λh=>?_⟩;have h:k=l:=zG h;rw[(jo cm).mpr<|by rw[h]]at q;exact fo q;have h:¬k=l:=yn h;have s:D.str k≠.str l:=λe=>h<|D.str.inj e;have O:ω (cV wy "last" (.str k) (.str l)<0)=(n6 k l==ω (wy ="up")):=by rw[yj,zP,qm cm];exact{λh=>h.2,λh=>⟨s,h⟩}
 rw[O]at q;exact !!!!!!⟨kx<|fo q⟩
inductive vQ (ds:δ D) (S:ak) (R:KD) (Z:KX):η where
 |mk (cs ps wy r) (_:ds=[.tup<|cs.map aA,cI ps wy,ag r]) (_:Gd cs) (_:Pin cs ps) (_:ps.length<=8) (_:Wg cs r.2) (_:R (D5 (ps.map λp=>ai cs r.2 p.1) r.1) S)
theorem kC(T:Txt w K mg t):Ok P w base T.iV 1 vQ:=by
 refine T.iV.F.b_ sV ?_;obtain⟨cs,ps,wy,r,e,hg,hp,s,hw,q⟩;refine{_,(sc (bR (i:=3) sV.nd<|TN (N:=["_law_name","_law_kind"]) (src:=[none,none]) (lR vo) (HM<|dv 0) (Ws<|show(["_law_name","_law_kind"]:δ ρ).Nodup by trivial) (mz rfl rfl) mG (λ_ _ _ _ _=>qZ) λ_ _ _ _ _=>(dv 0))<|s1<|sr<|bq<|ac (ct iM T.bz aZ<|ac (y_ (N:=["_law_part","_law_row","_law_names"]) (src:=[none,some 2,some 3]) (lR vo) (HM<|ix hr.u (dv 1) di) qZ<|ix hr.u (ix hr.u (dv 1) di)<|bm zQ PySem.F.slot_list_index PySem.F.type_list_index sD (dv 2)<|ac (ix hr.u (dv 0) di) an) an)<|ac (ix hr.u (dv 2) di) an),?_};refine !{_,.inl rfl,?_};refine comp_map Su trivial (by show(cs.map aA).length<=1000;rw[zb];have:=hg.1;lia) (λd hd Q g=>?_) λpn o=>?_;obtain⟨c,_,rfl⟩:=zh.mp hd;exact !{rfl,_,_,rfl,_,_,rfl,rfl,_,rfl,g};rw[show({cs.map aA,λ_=>True}:n8).xs=cs.map aA from rfl,Bv];have sb:=Sub.new (c:=.lst<|(cs.map Prod.fst).map D.str) o;have a:(S.set pn<|.lst<|(cs.map Prod.fst).map D.str) pn=ϑ (.lst<|(cs.map Prod.fst).map D.str):=aa;generalize S.set pn (.lst<|(cs.map Prod.fst).map D.str)=S1 at sb a⊢;refine !!{_,.inl rfl,?_};refine comp_map (λd=>match d with|.tup (.str z::_)=>ai cs r.2 z|_=>.ay) trivial (by show(ps.map p3).length<=_;rw[zb];lia) (λd hd Q g=>?_) λp2 n=>?_;obtain⟨pt,l,rfl⟩:=zh.mp hd;obtain⟨c,h,m⟩:=hp pt l;have lx:=KN hg h;have j:=(kL hg hw h).1;rw[m]at lx j;exact !!!⟨{rfl,_,a},_,rfl,_,rfl,_,.str pt.1,Kg cs pt.1,rfl,a,rfl,lx.1,lx.2.1,lx.2.2,_,cL j,g⟩;have e3:(ps.map p3).map (λd=>match d with|.tup (.str z::_)=>ai cs r.2 z|_=>.ay)=ps.map λp=>ai cs r.2 p.1:=by rw[zy];rfl
 rw[show({ps.map p3,λ_=>True}:n8).xs=ps.map p3 from rfl,e3];exact{_,_,rfl,.inl aa,_,rfl,_,rfl,bY,S,sb.trans<|.new n,q}
noncomputable def D8(cs:δ<|ρ×ρ)(ps:δ Part)(r:Row):D:=.tup [D5 (ps.map λp=>ai cs r.2 p.1) r.1,ag r]
noncomputable def prF(cs:δ<|ρ×ρ)(ps:δ Part):D->D|.tup [.str k,.tup ws]=>D8 cs ps (k,ws)|d=>d
noncomputable def Sy(cs:δ<|ρ×ρ)(ps:δ Part)(wy:ρ)(b x:Row):Bool:=ω<|ck (n_ ps wy) (uJ cs ps x) (uJ cs ps b)<0
theorem An.ix{cs:δ<|ρ×ρ}(hg:Gd cs){ps:δ Part}(hp:Pin cs ps){wy:ρ}{A:δ Row}(h:An cs ps wy A){j:π}{b:Row}(e:A[j]?=some b):A.countP (Sy cs ps wy b)=j:=by
 have o:=(ze.mp e).1;have g:=zD e;have pv:∀r∈A,PV (Xk cs ps) (uJ cs ps r):=λr hr=>kB hg hp (h.rg.1 r hr)<|h.ky r hr;have lx:=List.pairwise_iff_getElem.mp<|h.lex hg hp;have lt:∀i d a l,i<d->A[i]?=some a->A[d]?=some l->ck (n_ ps wy) (uJ cs ps a) (uJ cs ps l)<0:=λi d a l hi e1 e2=>by have:=lx i d (ze.mp e1).1 (ze.mp e2).1 hi;rw[(ze.mp e1).2,(ze.mp e2).2]at this;exact this
 refine(KG ?_ (yR o) (λi a hi c=>zx<|lt i j a b hi c e) λi a hi c=>zw ?_).symm;refine(List.Pairwise.and_mem.mp<|h.lex hg hp).imp λ{x y} m n=>?_;exact zx<|D2 (pv x m.1) (pv y m.2.1) (pv b g) m.2.2<|zG n;rcases y9 j i with q|q;have h1:=lt j i b a q e c;have:=(tO (pv a<|zD c)<|pv b g).mp h1;lia;have:i=j:=by lia
 subst this;rw[e]at c;cases c;have:=(nI (ws:=n_ ps wy) xJ (pv b g)<|pv b g).mpr rfl;lia
noncomputable def fill(B:δ Row)(r:Row):D:=if B.any (λx=>ω<|x.1=r.1) then ag r else .ay
theorem KP{cs:δ<|ρ×ρ}{A B:δ Row}(hr:Rg cs A){i j:π}{b:Row}(d:B[i]?=some b)(c:A[j]?=some b):(A.map<|fill<|B.take i).set j (ag b)=A.map (fill<|B.take<|i+1):=by have p:=(ze.mp c).1;refine List.ext_getElem? λm=>?_;by_cases e:m=j;subst e;rw[List.getElem?_set_self<|by rw[zb];exact p,zm,c];show some (ag b)=ϑ (fill _ b);unfold fill;rw[take_snoc d,List.any_append,show([b].any λx=>ω<|x.1=b.1)=ϱ by simp,Bool.or_true];rfl;rw[List.getElem?_set_ne<|Ne.symm e,zm,zm];cases h:A[m]? with|none=>rfl|some a=>show some (fill _ a)=ϑ (fill _ a);have r:b.1≠a.1:=λq=>(by have h1:(A.map Prod.fst)[m]?=some a.1:=(by rw[zm,h];rfl);have h2:(A.map Prod.fst)[j]?=some a.1:=(by rw[zm,c,<-q];rfl);obtain⟨l,n⟩:=ze.mp h1;obtain⟨g,o⟩:=ze.mp h2;exact e<|(List.getElem_inj hr.2 (h₀:=l) (h₁:=g)).mp<|n.trans o.symm);unfold fill;rw[take_snoc d,List.any_append,show([b].any λx=>ω<|x.1=a.1)=ϰ by simp[r],Bool.or_false]
theorem KQ{A B:δ Row}(h:∀r∈A,r∈B):A.map (fill B)=A.map ag:=zX λr hr=>by unfold fill;rw[qb<|yx.mpr {r,h r hr,zx rfl}]
theorem Fv{g:Row->χ} : ∀l:δ Row,(l.map λx=>if g x then (1:ν) else 0).sum=((l.countP g:π):ν)|[]=>rfl|x::l=>by rw[zA,List.sum_cons,Fv l,List.countP_cons];cases g x<;>simp<;>lia
theorem nM{n j:π}(h:j<n):F_ n ((j:π):ν)=ϑ j:=by unfold F_;rw[qb<|by lia,qb<|by lia];rfl
inductive vR (ds:δ D) (S:ak) (R:KD) (Z:KX):η where
 |mk (cs:δ<|ρ×ρ) (ps:δ Part) (wy:ρ) (d:D) (lr:ε) (rows A:δ Row) (_:ds=[.tup<|cs.map aA,cI ps wy,d,.ref lr]) (_:Gd cs) (_:Og cs ps wy) (_:Sg cs 7 d) (_:S lr=ϑ (.lst<|rows.map ag)) (_:rows.length<=100) (_:Rg cs rows) (_:Pe rows) (_:Bu cs ps wy 7 d rows A)
  (_:∀p,S p=ϐ->R (.ref p) (S.set p<|.lst<|A.map ag)):vR ds S R Z
theorem vS(T:Txt w K mg t):Ok P w base T.rn 11 vR:=by
 refine T.rn.F.b_ fU ?_;obtain⟨cs,ps,wy,d,lr,rows,A,e,hg,ho,hd,AL,R,J,hk,hA,q⟩;have h8:=ho.len;refine{_,(sc (uA (N:=["_law_row","_law_columns_here","_law_order_here","_law_sieve_here"]) (src:=[none,some 0,some 1,some 2]) 5 fU.nd (lR vp) (il<|dv 3) (if1<|tv<|aU T.ic (l_ T 7) hr<|ap 1<|ap 3<|ap 0 an)<|bq<|ac (aU T.iV (kC T) hr<|ap 1<|ap 2<|ap 0 an)<|ap 0 an)<|sc (bR (i:=6) fU.nd<|bo RB hr.u (bT<|ac dn an)<|cb ba T.aX aI<|ap 5 an)<|sc (qB<|AG (il<|dv 5) (gt (n:=2)<|gc (gn (i:=7) fU.nd)<|gc (gn (i:=4) fU.nd) g0)<|s1<|sls (dv 6) (cb WX T.W8 Q2<|ac (TN (N:=["_law_other","_law_more","_law_order_here","_law_place_here"]) (src:=[none,none,some 1,some 7]) (lR vp) (il<|dv 5) (Ws<|show(["_law_other","_law_more","_law_order_here","_law_place_here"]:δ ρ).Nodup by trivial) (mz rfl rfl) mG (λ_ _ _ _ _=>qZ) λ_ _ _ _ _=>(ct EJ T.A3 rZ<|ac (aU T.lX (nL T) hr<|ap 2<|ap 0<|ap 3 an) an)) an)<|dv 4)<|s1<|sr<|dv 6),?_};refine !{_,AL,?_};refine eP (Bq cs d) (prF cs ps) AL (by show(rows.map ag).length<=_;rw[zb];lia) (λx hx Q Q' G DF=>?_) λl X=>?_;obtain⟨r,dH,rfl⟩:=zh.mp hx;exact !!!{cs,d,r,rfl,hg,hd,J.1 r dH,_,rfl,bC (λh=>!!!{cs,ps,wy,r,rfl,hg,ho.pin,h8,J.1 r dH,_,rfl,bY,G h}) λh=>DF h};have eB:((({rows.map ag,λS=>S lr=ϑ (.lst<|rows.map ag)}:n8).xs.filter<|Bq cs d).map<|prF cs ps)=(rows.filter λr=>aW cs r 7 d).map (D8 cs ps):=by show(((rows.map ag).filter<|Bq cs d).map<|prF cs ps)=_;rw[List.filter_map,zy];rfl
 rw[eB];have s:=hA.pm;have a:∀x∈rows.filter (λr=>aW cs r 7 d),Wg cs x.2/\x.1∈KS:=λx hx=>{J.1 x (ye.mp hx).1,hk x (ye.mp hx).1};have O:(rows.filter λr=>aW cs r 7 d).length<=100:=zH (yE _ _) R;generalize (rows.filter λr=>aW cs r 7 d)=B at s a O⊢;have s1:=Sub.new (c:=.lst<|B.map<|D8 cs ps) X;have H:(S.set l<|.lst<|B.map<|D8 cs ps) l=ϑ (.lst<|B.map<|D8 cs ps):=aa;generalize S.set l (.lst<|B.map<|D8 cs ps)=S1 at s1 H⊢;have I:(B.map<|D8 cs ps).length=B.length:=zb _;refine{sW,λp0 U=>!!⟨.inl {_,(Sub.new U) _ _ H,p0,.ay,_,rfl,rfl,aa,by lia,by rw[I];lia,λlf He=>?_}⟩};have e0:List.replicate (((B.map<|D8 cs ps).length:π):ν).toNat D.ay=A.map (fill<|B.take 0):=by rw[I,show((B.length:π):ν).toNat=A.length by rw[s.length_eq];lia];exact(List.map_const' ..).symm
 rw[e0];have s2:=s1.trans<|Sub.new (c:=.lst [.ay]) U;have m:=(Sub.new (c:=.lst [D.ay]) U) _ _ H;generalize S1.set p0 (.lst [.ay])=M at s2 m He⊢;have g:l≠lf:=gM m He;have R7:S lf=ϐ:=cH s2 He;refine{λav S'=>∃(o6 o7:θ D),av=[some<|.tup<|cs.map aA,some<|cI ps wy,some d,some<|.ref lr,o6,some<|.ref l,some<|.ref lf,o7]/\Sub (M.set lf<|.lst<|A.map ag) S',?_,?_};refine !{_,(ae g).trans m,?_};refine{λi av S'=>∃(o6 o7:θ D),av=[some<|.tup<|cs.map aA,some<|cI ps wy,some d,some<|.ref lr,o6,some<|.ref l,some<|.ref lf,o7]/\Sub (M.set lf<|.lst<|A.map<|fill<|B.take i) S',{none,none,rfl,.refl _},?_,?_,?_};rintro i av S' ⟨_,_,_,sb⟩;exact sb _ _<|(ae g).trans m;rintro i x av S' hx ⟨o6,o7,rfl,sb⟩;have hx:(B.map<|D8 cs ps)[i]?=some x:=hx;rw[zm]at hx;cases C:B[i]? with|none=>(rw[C]at hx;cases hx)|some b=>rw[C]at hx;cases hx;have o:=zD C;obtain⟨j,Z⟩:=yq<|s.mem_iff.mpr o;have Y:=(ze.mp Z).1;refine !{rfl,_,_,rfl,_,_,rfl,rfl,?_};have Xp:=sb _ _<|(ae g).trans m;have vb:=kB hg ho.pin (a b o).1 (a b o).2;refine !!!{_,Xp,?_};refine m_ (λe v=>∃y∈B,e=D8 cs ps y/\v=.int (if Sy cs ps wy b y then 1 else 0)) Xp (by show(B.map<|D8 cs ps).length<=_;lia) (λe he Q G=>?_) λout GO p hp=>?_;obtain⟨y,E,rfl⟩:=zh.mp he;exact !{rfl,_,_,rfl,_,_,rfl,rfl,_,rfl,_,rfl,_,rfl,ps,wy,_,_,_,_,_,rfl,by rw[zb],by rw[zb],h8,l8 hg ho.pin (a y E).1,l8 hg ho.pin (a b o).1,(a y E).2,(a b o).2,.inr !⟨G _ ⟨y,E,rfl,rfl⟩⟩};have eo:out=(B.map λy=>if Sy cs ps wy b y then (1:ν) else 0).map D.int:=(by have:∀{L:δ Row}{out:δ D},Paired (λe v=>∃y∈B,e=D8 cs ps y/\v=D.int (if Sy cs ps wy b y then 1 else 0)) (L.map<|D8 cs ps) out->out=(L.map λy=>if Sy cs ps wy b y then (1:ν) else 0).map D.int:=(by intro L;induction L with|nil=>(intro out h;cases h;rfl)|cons z L ih=>intro out h;cases h with|cons r t=>obtain⟨y,_,e1,e2⟩:=r;have:z=y:=(by unfold D8 ag at e1;injection e1 with e1;injection e1 with _ e1;injection e1 with e1 _;injection e1 with e1;injection e1 with a1 e1;injection e1 with a2 _;injection a1 with a1;injection a2 with a2;exact Prod.ext a1 a2);rw[e2,ih t,<-this];rfl);exact this GO);subst eo;have ec:((B.map λy=>if Sy cs ps wy b y then (1:ν) else 0).sum)=((j:π):ν):=(by rw[Fv,<-s.countP_eq,hA.an.ix hg ho.pin Z]);refine{_,_,rfl,aa,?_};rw[ec];have hF:(S'.set p<|.lst<|(B.map λy=>if Sy cs ps wy b y then (1:ν) else 0).map D.int) lf=ϑ (.lst<|A.map<|fill<|B.take i):=(Sub.new hp) _ _<|sb _ _ aa;refine{lf,_,((j:π):ν),j,rfl,rfl,hF,nM<|by rw[zb];exact Y,_,_,rfl,?_};rw[KP hA.an.rg C Z];exact Kz<|sb.trans<|.new hp
 rintro av S' ⟨o6,o7,rfl,sb⟩;have sb:Sub (M.set lf<|.lst<|A.map<|fill<|B.take (B.map<|D8 cs ps).length) S':=sb;rw[I,yP,KQ λr hr=>s.mem_iff.mp hr]at sb;exact fo {_,_,rfl,sb};rintro av S' ⟨o6,o7,rfl,sb⟩;exact !{_,(cO s2).trans sb,q lf R7}
theorem Fw(hg:Gd cs)(hp:Pin cs ps):∀{B:δ Row},Rg cs B->∃A:δ Row,A.Perm B/\A.Pairwise λa b=>bJ cs wy ps a b=ϱ|[],_=>{[],.refl _,.nil}|x::B,hr=>by obtain⟨A,pm,pw⟩:=Fw hg hp<|hr.sub<|List.sublist_cons_self x B;have c:Rg cs (x::A):=hr.perm<|pm.cons x;exact{_,(Kk x A _).trans<|List.perm_append_comm.trans<|pm.cons x,Bn hg hp c pw}
theorem xO(hg:Gd cs)(hp:Pin cs ps)(hr:Rg cs rows)(hk:Pe rows):∃A,Bu cs ps wy 7 d rows A:=by obtain⟨A,pm,pw⟩:=Fw hg hp<|hr.sub yN;exact{A,KL hr hk pm pw}
theorem KY(h:xs.length=10):(cP xs (some 2) none).length=8:=by unfold cP;rw[zE,zS,show HT.sIx xs.length 0 (some 2)=min 2 xs.length from HT.sIx_nat ..,show HT.sIx xs.length xs.length none=xs.length from rfl,h];rfl
inductive Bx (ds:δ D) (S:ak) (R:KD) (Z:KX):η where
 |mk (cs:δ<|ρ×ρ) (lk:ε) (kn:Kn) (c:ν) (_:ds=[.tup<|cs.map aA,.ref lk,.int c]) (_:Gd cs) (_:S lk=ϑ (.cM<|d_ kn)) (_:KI cs kn) (_:∀d eZ,GD KS cs kn d->KnD kn d eZ->KI cs eZ->R d (S.set lk<|.cM<|d_ eZ))
theorem KZ(T:Txt w K mg t):Ok P w base T.Dd 3 Bx:=by
 refine T.Dd.F.b_ ie ?_;obtain⟨cs,lk,kn,c0,e,hg,hk,l,q⟩;have J:=hg.1;have E:=l.len;refine{_,(sc (bR (i:=3) ie.nd<|aU T.gD (iq T) hr<|ap 2<|ac di an)<|sc (bR (i:=4) ie.nd<|aU T.vq (xu T) hr<|ac (ix hr.u (dv 3) di) an)<|sc (bR (i:=5) ie.nd<|aU T.j6 (pj T) hr<|ap 0<|ac (oI (dv 3) (o1 di) o0) an)<|sc (si (twd<|twand (aR uy hr.u (dv 4)<|dv 1)<|tw1<|aR aK hr.u (bo bh hr.u (ix hr.u (dv 3) di) di) di) (sc (se<|mp1 (dv 1)<|dv 4)<|s1<|sr<|bq<|ac ds<|ap 4 an) s0)<|sc (bR (i:=6) ie.nd<|xZ<|ix hr.u (bT<|ac ds<|ac ds an)<|ct EJ T.A3 rZ<|ac (cm uy hr.u (dv 4)<|dv 1) an)<|sc (sd hr.u (dv 1) (dv 4)<|dv 5)<|s1<|sr<|bq<|ap 6<|ap 4<|ap 5 an),?_};refine !{c0,10,rfl,by decide,λxs lx B hx G=>?_};have s1:=Sub.new (c:=.lst<|xs.map D.int) G;have j:(S.set lx<|.lst<|xs.map D.int) lx=ϑ (.lst<|xs.map D.int):=aa;generalize S.set lx (.lst<|xs.map D.int)=S1 at s1 j⊢;have at_:∀k:π,k<10->∃x:ν,gI (xs.map D.int) ((k:π):ν)=ϑ (.int x)/\0<=x:=λk hk=>kl (by lia) (by rw[zb];lia) hx;obtain⟨x0,H,_⟩:=at_ 0 (by decide);obtain⟨L,e1,_⟩:=at_ 1 (by decide);refine !{_,_,j,H,x0,rfl,λz hz=>?_};refine !!!{_,j,λp2 A=>{cs,p2,cP xs (some 2) none,rfl,hg,by rw[nH];exact aa,by rw[KY B];lia,λws hw=>?_}};have s2:=s1.trans<|Sub.new (c:=.lst<|cP (xs.map D.int) (some 2) none) A;have s:=(Sub.new (c:=.lst<|cP (xs.map D.int) (some 2) none) A) _ _ j;generalize S1.set p2 (.lst<|cP (xs.map D.int) (some 2) none)=o at s2 s⊢;have g:=s2 _ _ hk;have v:(bN (d_ kn)<|.inr z).isSome=(eG kn z).isSome:=by rw[km];cases eG kn z<;>rfl
 have hl:(d_ kn).length<sizeLine:=bg (by unfold d_;rw[zb];lia);have r:=bY;have y:=uG;have a:∀{d:D}{eZ:Kn},GD KS cs kn d->KnD kn d eZ->KI cs eZ->Fo (o.set lk<|.cM<|d_ eZ) (R d):=λh1 h2 I=>{_,cO s2,q _ _ h1 h2 I};refine !!⟨.inr {d_ kn,.inr z,g,rfl,_,rfl,bC (λh=>?_) λh=>?_}⟩;have h:(bN (d_ kn)<|.inr z).isSome=ϱ:=h;have m:(eG kn z).isSome=ϱ:=v ▸ h;obtain⟨vs,n⟩:=Option.isSome_iff_exists.mp m;refine !{_,_,s,e1,by decide,_,rfl,bC (λ_=>?_) λ_=>?_};refine !{lk,d_ kn,rfl,g,_,rfl,d_ kn,.inr z,.tup vs,g,rfl,by rw[km,n];rfl,?_};rw[J5];exact !{r,a (.inr<|.inr ⟨z,hz,m,rfl⟩) (.inr ⟨z,m,rfl,rfl⟩)<|l.del z};refine{r,λp hp=>!!⟨.inr {d_ kn,.inr z,(Sub.new hp) _ _ g,rfl,?_}⟩};rw[h];refine .inr !{_,_,aa,(show gI _ 1=ϑ _ from rfl),o,.new hp,?_};refine !!!{lk,d_ kn,.inr z,rfl,g,rfl,hl,?_};rw[xw];exact !!!{y,a (.inr<|.inl ⟨z,ws,hz,hw,m,rfl⟩) (.inl {_,z,ws,.inr rfl,rfl,rfl})<|l.put hz hw};have h:(bN (d_ kn)<|.inr z).isSome=ϰ:=h;have C:eG kn z=ϐ:=by cases e:eG kn z with|none=>rfl|some _=>rw[v,e]at h;cases h
 refine aL {r,λp hp=>!!⟨.inr {d_ kn,.inr z,(Sub.new hp) _ _ g,rfl,?_}⟩};rw[h];refine .inr !{_,_,aa,(show gI _ 0=ϑ _ from rfl),o,.new hp,?_};refine !!!{lk,d_ kn,.inr z,rfl,g,rfl,hl,?_};rw[xw];exact !!!{y,a (.inl ⟨z,ws,hz,hw,C,rfl⟩) (.inl {_,z,ws,.inl rfl,rfl,rfl})<|l.put hz hw}
inductive By (ds:δ D) (S:ak) (R:KD) (Z:KX):η where
 |mk (cs:δ<|ρ×ρ) (lk:ε) (kn:Kn) (_:ds=[.ref lk]) (_:S lk=ϑ (.cM<|d_ kn)) (_:KI cs kn) (_:∀ss p,ss.Perm (kn.map (·.1))->PyProof.Rows.sortedS ss=ϱ->S p=ϐ->R (.ref p) (S.set p<|.lst<|(bt kn ss).map ag))
theorem Bz(T:Txt w K mg t):Ok P w base T.w_ 1 By:=by
 refine T.w_.F.b_ G5 ?_;obtain⟨cs,lk,kn,e,hk,h,q⟩;have c:=h.len;refine{_,(s1<|sr<|y_ (N:=["_law_key_here","_law_standing"]) (src:=[none,some 0]) (lR JI) (il<|cb AJ T.h_ fw<|ap 0 an) qZ<|bq<|ap 0<|ac (ix hr.u (dv 1)<|dv 0) an),?_};refine !{lk,d_ kn,kn.map (·.1),rfl,hk,by unfold d_;rw[zy,zy];rfl,by unfold d_;rw[zb];lia,λss hp l p g=>?_};have hlen:ss.length<=60:=by rw[hp.length_eq,zb];exact c
 refine{_,aa,?_};refine comp_map (λd=>match d with|.str z=>.tup [.str z,tM kn z]|_=>.ay) aa (by show(ss.map D.str).length<=1000;rw[zb];lia) (λd hd Q a=>?_) λp2 i=>?_;obtain⟨z,hz,rfl⟩:=zh.mp hd;obtain⟨ws,m⟩:=ko<|hp.mem_iff.mp hz;have a:Q (.tup [.str z,tM kn z]) (S.set p<|.lst<|ss.map D.str):=a;have e1:bN (d_ kn) (.inr z)=ϑ (tM kn z):=by rw[km];unfold tM;rw[m];rfl
 exact !!!{d_ kn,_,(Sub.new g) _ _ hk,e1,bY,a};have j:(ss.map D.str).map (λd=>match d with|.str z=>D.tup [.str z,tM kn z]|_=>.ay)=(bt kn ss).map ag:=by rw[vP hp,zy];rfl
 rw[show({ss.map D.str,λS=>qX S (.ref p)<|ss.map D.str}:n8).xs=ss.map D.str from rfl,j];exact{_,cO<|.new g,q ss p2 hp l<|cH (.new g) i}
set_option genInjectivity true in
set_option genSizeOfSpec true in
inductive Sd where
 |s
 |e
 |g (g:Ss)
noncomputable def rE(cs:δ<|ρ×ρ)(ps:δ Part)(wy:ρ)(A:δ Row):Sd->π|.s=>0|.e=>A.length|.g g=>A.countP<|gP cs ps wy g
theorem SA:∀s,rE cs ps wy A s<=A.length|.s=>yb _|.e=>zk _|.g _=>List.countP_le_length
section
variable{cs:δ (ρ×ρ)}{ps:δ Part}{wy:ρ}
def Lr(cs:δ<|ρ×ρ)(ps:δ Part)(wy:ρ)(r s:Row):Prop:=ck (n_ ps wy) (uJ cs ps r) (uJ cs ps s)<0
def Ro(cs:δ<|ρ×ρ)(r:Row):Prop:=Wg cs r.2/\r.1∈KS
noncomputable def rF(cs:δ<|ρ×ρ)(ps:δ Part):θ Row->Sd|none=>.s|some q=>.g<|Ug cs ps "behind" q
def Bey(cs:δ<|ρ×ρ)(ps:δ Part)(wy:ρ):θ Row->Row->η|none,_=>True|some q,r=>Lr cs ps wy q r
theorem NL(hg:Gd cs)(hp:Pin cs ps)(h:Ro cs r):¬Lr cs ps wy r r:=λq=>by have z:=(nI (ws:=n_ ps wy) xJ (kB hg hp h.1 h.2)<|kB hg hp h.1 h.2).mpr rfl;unfold Lr at q;omega
theorem Pg(hg:Gd cs)(hp:Pin cs ps)(h1:Ro cs q)(h2:Ro cs r):gP cs ps wy (Ug cs ps "behind" q) r=ϱ↔¬Lr cs ps wy q r:=by have an:=tO (ws:=n_ ps wy) (kB hg hp h2.1 h2.2)<|kB hg hp h1.1 h1.2;show(ω (ck (n_ ps wy) (uJ cs ps r) (uJ cs ps q)<0)||(ω (ck (n_ ps wy) (uJ cs ps r) (uJ cs ps q)=0)&&true))=ϱ↔_;unfold Lr;rw[an,Bool.and_true,Bool.or_eq_true,zP,zP];omega
theorem ja(hg:Gd cs)(hp:Pin cs ps)(hA:An cs ps wy A)(hf:∀q,fr=ϑ q->Ro cs q)(e:A[i]?=some r):Bey cs ps wy fr r↔rE cs ps wy A (rF cs ps fr)<=i:=by cases fr with|none=>exact{λ_=>yb _,λ_=>trivial}|some q=>have hr:=zD e;have h1:=xI (hA.mono hg hp<|D6 hg hp (hf q rfl).1 (hf q rfl).2<|show KJ "behind"= true by trivial) e;rw[Pg hg hp (hf q rfl) {hA.rg.1 r hr,hA.ky r hr}]at h1;show Lr cs ps wy q r↔A.countP (gP cs ps wy<|Ug cs ps "behind" q)<=i;constructor;intro h;have:=mt h1.mpr λk=>k h;omega;intro h;refine Classical.byContradiction λk=>?_;have:=h1.mp k;omega
theorem K0(hg:Gd cs)(hp:Pin cs ps)(hA:An cs ps wy A)(e:A[i]?=some r):i<rE cs ps wy A (rF cs ps<|some r):=by have hr:=zD e;have ho:Ro cs r:={hA.rg.1 r hr,hA.ky r hr};have:=ja hg hp hA (fr:=some r) (λq h=>by cases h;exact ho) e;refine Nat.lt_of_not_le λk=>NL hg hp ho<|this.mpr k
variable{kn:Kn}{d:D}
theorem SE(a:ss.Perm (kn.map (·.1))):(z,ws)∈bt kn ss↔eG kn z=ϑ ws:=by unfold bt;rw[zh];constructor;rintro⟨y,d,e⟩;obtain⟨vs,c⟩:=ko<|a.mem_iff.mp d;rw[c]at e;cases e;exact c;intro h;exact{z,a.mem_iff.mpr<|zh.mpr {_,i9 h,rfl},by rw[h];rfl}
variable{ss:δ ρ}{A:δ Row}{n:π}
theorem SF(a:ss.Perm (kn.map (·.1)))(hA:Bu cs ps wy 7 d (bt kn ss) A):r∈A↔eG kn r.1=ϑ r.2/\aW cs r 7 d=ϱ:=by rw[hA.pm.mem_iff,ye];obtain⟨z,ws⟩:=r;rw[SE a]
variable{rows:δ Row}
end
structure abQ(t:gY)(ds:δ D)(S:ak)(R:KD)(Z:KX):η where
 of:O7 t ds S R Z
set_option genInjectivity true in
set_option genSizeOfSpec true in
inductive BA where
 |put (z:ρ) (ws:δ D)
 |chg (z:ρ) (ws:δ D)
 |tk (z:ρ)
 |pg (rows:δ Row)
inductive BB (cs:δ<|ρ×ρ) (S:ak) (n:π):D->BA->η|put {z:ρ}{ws:δ D} (hz:z∈KS) (hw:Wg cs ws):BB cs S n (.tup [.str "put",.str z,.tup ws]) (.put z ws)|chg {z:ρ}{ws:δ D} (hz:z∈KS) (hw:Wg cs ws):BB cs S n (.tup [.str "change",.str z,.tup ws]) (.chg z ws)|tk {z:ρ} (hz:z∈KS):BB cs S n (.tup [.str "take",.str z]) (.tk z)|pg {l:ε}{rows:δ Row} (hl:S l=ϑ (.lst<|rows.map ag)) (ho:∀r∈rows,Ro cs r) (hn:rows.length<=n):BB cs S n (.tup [.str "page",.ref l]) (.pg rows)
theorem BB.sub(h:BB cs S n d e)(b:Sub S S')(l:n<=m):BB cs S' m d e:=by cases h with|put hz hw=>exact .put hz hw|chg hz hw=>exact .chg hz hw|tk hz=>exact .tk hz|pg hl ho hn=>exact .pg (b _ _ hl) ho<|zH hn l
def lh(cs:δ<|ρ×ρ)(S:ak)(n:π)(ds:δ D)(es:δ BA):Prop:=Paired (λd e=>BB cs S n d e) ds es
theorem Fx{α β:Type}{r r':α->β->η}(i:∀a b,r a b->r' a b):∀{l:δ α}{m:δ β},Paired r l m->Paired r' l m|_,_,.nil=>.nil|_,_,.cons h t=>.cons (i _ _ h)<|Fx i t
theorem lh.sub{cs:δ<|ρ×ρ}{S S':ak}{n m:π}{ds:δ D}{es:δ BA}(h:lh cs S n ds es)(b:Sub S S')(l:n<=m):lh cs S' m ds es:=Fx (λ_ _ q=>q.sub b l) h
noncomputable def stepK(kn:Kn):BA->θ Kn|.put z ws=>(if (eG kn z).isSome=ϱ then none else some (ir kn z ws))|.chg z ws=>(if (eG kn z).isSome=ϱ then some (ir kn z ws) else none)|.tk z=>(if (eG kn z).isSome=ϱ then some (pq kn z) else none)|.pg _=>none
theorem xP(a:KI cs kn)(c:BB cs S n d e)(h:stepK kn e=ϑ eZ):KI cs eZ:=by cases c with|@put z ws hz hw=>(have h:(if (eG kn z).isSome=ϱ then none else some (ir kn z ws))=ϑ eZ:=h;split at h;cases h;cases h;exact a.put hz hw)|@chg z ws hz hw=>(have h:(if (eG kn z).isSome=ϱ then some (ir kn z ws) else none)=ϑ eZ:=h;split at h;cases h;exact a.put hz hw;cases h)|@tk z hz=>(have h:(if (eG kn z).isSome=ϱ then some (pq kn z) else none)=ϑ eZ:=h;split at h;cases h;exact a.del _;cases h)|pg _ _ _=>cases h
section
variable{P:Ψ}{w:Ω}{K:Φ}{mg:ρ->θ ξ}{base:Γ}{t:gY}{S:ak}{a:ε}{F:δ ε}{cs:δ (ρ×ρ)}{dl:δ D}{rs:rq}{kn:Kn}{d:D}{R:KD}{Z:KX}
theorem K1(g:cF t.ar S a F cs dl rs)(hg:Gd cs)(v:KI cs kn)(c:RI rs dl.length kn)(hl:dl.length<=200)(s:BB cs S n d e)(hp:∀rows,e≠.pg rows) (m:stepK kn e=ϐ->∀C,C=t.jR\/C=t.iQ->Z C S) (q:∀eZ S' F' dR,stepK kn e=ϑ eZ->cF t.ar S' a F' cs (dl++[d]) dR->DC F F' S S'->RI dR (dl.length+1) eZ->R .ay S'):Dos t [.ref a,d] S R Z:=by have r:=c.len g;have l:=hg.1;obtain⟨ld,lr,ra,h,_,_⟩:=id g;refine{a,_,h.ins,rfl,?_};cases s with|@put z ws hz hw=>(have ro:=DZ hz hw;have st:=D0 c hz;refine .inl {_,_,rfl,a,F,cs,_,rs,_,_,rfl,g,l,Bt hz,hw.gts l,by lia,by lia,λe=>tf ro e,λ_ e=>m (qb ?_) _<|.inl rfl,λo p e1 e2 _ e3 S' F' i j=>?_};rw[st,Bool.not_eq_false']at e;exact e;cases e1;cases e2;rw[st,yu]at e3;exact q _ S' F' _ (qa<|by rw[e3];exact zd) i j<|c.put hz)|@chg z ws hz hw=>(have ro:=DZ hz hw;have st:=D0 c hz;refine .inr<|.inl {_,_,rfl,a,F,cs,_,rs,_,_,rfl,g,l,Bt hz,hw.gts l,by lia,by lia,λe=>tf ro e,λ_ e=>m (qa ?_) _<|.inr rfl,λo p e1 e2 _ e3 S' F' i j=>?_};rw[st,yu]at e;rw[e];exact zd;cases e1;cases e2;rw[st,Bool.not_eq_false']at e3;exact q _ S' F' _ (qb e3) i j<|c.change hz)|@tk z hz=>(have st:=D0 c hz;refine .inr<|.inr !{a,F,cs,_,rs,_,rfl,g,Bt hz,by lia,λe=>tf (i8 z hz).1 e,λ_ e=>m (qa ?_) _<|.inr rfl,λo e1 _ e3 S' i j=>?_};rw[st,yu]at e;rw[e];exact zd;cases e1;rw[st,Bool.not_eq_false']at e3;exact q _ S' F _ (qb e3) i j<|c.del hz)|pg _ _ _=>exact absurd rfl<|hp _
inductive vT (t:gY) (ds:δ D) (S:ak) (R:KD) (Z:KX):η where
 |mk (a F cs dl rs kn n d e) (_:ds=[.ref a,d]) (_:cF t.ar S a F cs dl rs) (_:Gd cs) (_:KI cs kn) (_:RI rs dl.length kn) (_:dl.length<=200) (_:BB cs S n d e) (_:∀rows,e≠.pg rows)
  (_:stepK kn e=ϐ->R (.bl false) S) (_:∀eZ S' F' dR,stepK kn e=ϑ eZ->cF t.ar S' a F' cs (dl++[d]) dR->DC F F' S S'->RI dR (dl.length+1) eZ->R (.bl true) S'):vT t ds S R Z
theorem D9(T:Txt w K mg t):Ok P w base T.w6 8 (vT t):=by have j:Ok P w base T.rh 7 (abQ t):=(Np T).Wk λds S R Z h=>h.of;refine T.w6.F.b_ Dk ?_;rintro _ _ _ _ _ _ _ S R Z hr ⟨a,F,cs,dl,rs,kn,n,d,e,r,g,hg,q,o,hl,v,hp,s,i⟩;subst r;refine{_,(sc (W4 T.wW ⟨T.jW⟩ (s1<|se<|aU T.rh j hr<|ap 0<|ap 1 an) λ_=>(s1<|sr db))<|s1<|sr db),?_};refine !!⟨⟨(K1 g hg q o hl v hp (λh C m=>{?_,λx hx=>?_}) λeZ S' F' dR h l p c=>?_).of⟩⟩;exact fo<|i eZ S' F' dR h l p c;rcases m with rfl|rfl;exact T.dM;exact T.dU;exact{_,.new hx,s h}
inductive BC (ds:δ D) (S:ak) (R:KD) (Z:KX):η where
 |mk (cs r) (_:ds=[.tup<|cs.map aA,ag r]) (_:Gd cs) (_:Ro cs r) (_:R (.bl true) S)
theorem Hs(T:Txt w K mg t):Ok P w base T.Dc 6 BC:=by refine T.Dc.F.b_ G4 ?_;rintro _ _ _ _ _ _ _ S R Z hr ⟨cs,r,a,hg,ho,q⟩;subst a;refine{_,(sc (Wy<|s1<|se<|aU T.ib (i4 T) hr<|ap 0<|ap 1 an)<|s1<|sr db),?_};exact !!{cs,_,_,rfl,hg.1,Bt ho.2,ho.1.gts hg.1,λ_=>fo q,λe=>tf (DZ ho.2 ho.1) e}
end
theorem D_(l:δ ρ):∃ss:δ ρ,ss.Perm l/\PyProof.Rows.sortedS ss=ϱ:=by refine{l.mergeSort λa b=>ω<|a.cps.toList<=b.cps.toList,List.mergeSort_perm _ _,PyProof.Rows.sortedS_of_pairwise _ ?_};refine(List.pairwise_mergeSort (λa b c h1 h2=>?_) (λa b=>?_) l).imp λ{a b} h=>?_;exact zx<|List.le_trans (zG h1)<|zG h2;rw[Bool.or_eq_true,zP,zP];exact List.le_total _ _;rw[PyProof.Rows.ltCps_eq];exact zw<|List.not_lt.mpr<|zG h
abbrev Flt:=ρ×θ ρ
noncomputable def uK:θ ρ->D|none=>.ay|some z=>.str z
noncomputable def iy(told a:θ ρ):θ Flt:=if told=a then none else some ("missed",a)
noncomputable def Uk(A:δ Row)(r:Row):Bool:=A.any λy=>ω (y.1=r.1)&&Bw y.2 r.2
noncomputable def gs(cs:δ<|ρ×ρ)(ps:δ Part)(wy:ρ)(fr:θ Row)(r:Row):Bool:=match fr with|none=>true|some q=>ω<|ck (n_ ps wy) (uJ cs ps q) (uJ cs ps r)<0
noncomputable def Ht(cs:δ<|ρ×ρ)(ps:δ Part)(wy:ρ)(A:δ Row)(fr:θ Row):θ Str:=(A[rE cs ps wy A<|rF cs ps fr]?).map Prod.fst
noncomputable def tU(cs:δ<|ρ×ρ)(ps:δ Part)(wy:ρ)(A:δ Row)(fr:θ Row)(r:Row):θ Flt:=if Uk A r=ϱ then (if gs cs ps wy fr r=ϱ then iy (some r.1) (Ht cs ps wy A fr) else some ("order",some r.1)) else some ("strange",some r.1)
noncomputable def d9(cs:δ<|ρ×ρ)(ps:δ Part)(wy:ρ)(A:δ Row):θ Row->δ Row->θ Flt|_,[]=>none|fr,r::rs=>match tU cs ps wy A fr r with|some f=>some f|none=>d9 cs ps wy A (some r) rs
noncomputable def c_(cs:δ<|ρ×ρ)(ps:δ Part)(wy:ρ)(A:δ Row)(fr:θ Row)(rows:δ Row):θ Flt:=if rows.isEmpty=ϱ then iy none (Ht cs ps wy A fr) else d9 cs ps wy A fr rows
noncomputable def fh(fr:θ Row)(rows:δ Row):θ Row:=match rows.getLast? with|none=>fr|some r=>some r
theorem vU(fr:θ Row)(r:Row)(rs:δ Row):fh fr (r::rs)=fh (some r) rs:=by unfold fh;cases rs with|nil=>rfl|cons x xs=>rw[List.getLast?_cons_cons,List.getLast?_eq_some_getLast<|List.cons_ne_nil x xs]
noncomputable def nN(cs:δ<|ρ×ρ)(ps:δ Part)(wy:ρ)(d:D)(kn:Kn):δ Row:=Classical.epsilon λA=>∃ss,ss.Perm (kn.map (·.1))/\Bu cs ps wy 7 d (bt kn ss) A
theorem NM(hg:Gd cs)(hp:Pin cs ps)(h1:ss.Perm (kn.map (·.1)))(h2:s2.Perm (kn.map (·.1)))(hA:Bu cs ps wy 7 d (bt kn ss) A)(a:Bu cs ps wy 7 d (bt kn s2) A'):A'=A:=Bu.one hg hp {a.an,a.pm.trans<|((h2.trans h1.symm).map _).filter _} hA
theorem tV(hg:Gd cs)(hp:Pin cs ps)(h1:ss.Perm (kn.map (·.1)))(hA:Bu cs ps wy 7 d (bt kn ss) A):A=nN cs ps wy d kn:=by have h:∃ss,ss.Perm (kn.map (·.1))/\Bu cs ps wy 7 d (bt kn ss) (nN cs ps wy d kn):=Classical.epsilon_spec (p:=λA=>∃ss,ss.Perm (kn.map (·.1))/\Bu cs ps wy 7 d (bt kn ss) A) ⟨A,ss,h1,hA⟩;obtain⟨s2,h2,a⟩:=h;exact NM hg hp h2 h1 a hA
abbrev Res:=θ<|ρ×π×θ (θ ρ)
noncomputable def BD:Res->D|none=>.ay|some (w,i,none)=>.tup [.str w,.int (i:π)]|some (w,i,some k)=>.tup [.str w,.int (i:π),uK k]
noncomputable def bH(cs:δ<|ρ×ρ)(ps:δ Part)(wy:ρ)(d:D):Kn->θ Row->π->δ BA->Res|_,_,_,[]=>none|kn,fr,i,.pg rows::es=>(match c_ cs ps wy (nN cs ps wy d kn) fr rows with|some f=>some (f.1,i,some f.2)|none=>bH cs ps wy d kn (fh fr rows) (i+1) es)|kn,fr,i,e::es=>match stepK kn e with|none=>some ("event",i,none)|some eZ=>bH cs ps wy d eZ fr (i+1) es
theorem kO(hp:∀rows,e≠.pg rows):bH cs ps wy d kn fr i (e::es)=match stepK kn e with|none=>some ("event",i,none)|some eZ=>bH cs ps wy d eZ fr (i+1) es:=by cases e with|pg rows=>exact absurd rfl (hp rows)|_=>rfl
section
variable{cs:δ (ρ×ρ)}{ps:δ Part}{wy:ρ}
theorem jb:gs cs ps wy fr r=ϱ↔Bey cs ps wy fr r:=by cases fr with|none=>exact{λ_=>trivial,λ_=>rfl}|some q=>exact decide_eq_true_iff
theorem xQ(hA:∀y∈A,Ro cs y)(hr:Ro cs r):Uk A r=ϱ↔r∈A:=by unfold Uk;rw[yx];constructor;rintro⟨y,a,e⟩;rw[zJ,zP,rD (hA y a).1.all hr.1.all]at e;obtain⟨g,y2⟩:=y;obtain⟨c,d⟩:=r;obtain⟨e1,e2⟩:=e;cases e1;cases e2;exact a;intro h;exact{r,h,by rw[zJ,zP,rD hr.1.all hr.1.all];exact⟨rfl,rfl⟩}
end
theorem nO{α:Type}{l:δ α}{i:π}{a:α}(h:l[i]?=some a):l.drop i=a::l.drop (i+1):=by obtain⟨hi,e⟩:=ze.mp h;rw[yc hi,e]
noncomputable def abR(cs:δ<|ρ×ρ)(ps:δ Part):θ Row->D|none=>.ay|some q=>KH<|Ug cs ps "behind" q
noncomputable def LA(C a:ε)(cs:δ<|ρ×ρ)(ps:δ Part)(wy:ρ)(d:D)(fr:θ Row):Ce:=.ins C [("shelf",.ref a),("order",cI ps wy),("sieve",d),("hinder",abR cs ps fr)]
noncomputable def BE:θ Flt->D|none=>.ay|some (w,k)=>.tup [.str w,uK k]
structure HS(t:gY)(S:ak)(k a:ε)(F:δ ε)(cs:δ (ρ×ρ))(dl:δ D)(rs:rq)(ps:δ Part)(wy:ρ)(d:D)(fr:θ Row)(kn:Kn):η where
 hk:S k=ϑ (LA t.aP a cs ps wy d fr)
 nk:k∉F
 sh:cF t.ar S a F cs dl rs
 g:Gd cs
 o:Og cs ps wy
 s:Sq cs d
 ki:KI cs kn
 ri:RI rs dl.length kn
 fo:∀q,fr=ϑ q->Ro cs q
 tb:Tb t S
section
variable{t:gY}{S:ak}{k a:ε}{F:δ ε}{cs:δ (ρ×ρ)}{dl:δ D}{rs:rq}{ps:δ Part}{wy:ρ}{d:D}{fr:θ Row}{kn:Kn}
theorem HS.sub{S':ak}(h:HS t S k a F cs dl rs ps wy d fr kn)(b:Sub S S'):HS t S' k a F cs dl rs ps wy d fr kn:={b _ _ h.hk,h.nk,h.sh.sub b,h.g,h.o,h.s,h.ki,h.ri,h.fo,h.tb.sub b}
theorem HS.put{cn:θ Row}(h:HS t S k a F cs dl rs ps wy d fr kn)(hf:∀q,cn=ϑ q->Ro cs q):HS t (S.set k<|LA t.aP a cs ps wy d cn) k a F cs dl rs ps wy d cn kn:=by
 have n:∀{q:ε}{z:ρ},S q=ϑ (.tab z)->q≠k:=λe z=>by rw[z,h.hk]at e;cases e
 exact{aa,h.nk,h.sh.off h.nk,h.g,h.o,h.s,h.ki,h.ri,hf,(ae<|n h.tb.1).trans h.tb.1,(ae<|n h.tb.2).trans h.tb.2}
theorem ma(h:∀z,x=ϑ z->z∈KS):bc (uK x)=ϱ:=by cases x with|none=>rfl|some z=>exact(kz z<|h z rfl).2
theorem NN:k_ (uK x) (uK y)=ω (x=y):=by cases x<;>cases y<;>simp[uK,k_]
theorem tW{A:δ Row}(hA:An cs ps wy A):∀z,Ht cs ps wy A fr=ϑ z->z∈KS:=by intro z h;unfold Ht at h;cases e:A[rE cs ps wy A<|rF cs ps fr]? with|none=>(rw[e]at h;cases h)|some r=>rw[e]at h;cases h;exact hA.ky r<|zD e
noncomputable def Hu(kn:Kn)(r:Row):Bool:=match eG kn r.1 with|none=>false|some ws=>Bw ws r.2
theorem Xq(g:KI cs kn)(hr:Ro cs r)(q:R (.bl<|!Hu kn r) S):HJ true (tM kn r.1) (.tup r.2) S R:=by obtain⟨c,a,j⟩:=nK (S:=S) hr.1.all;unfold Hu at q;unfold tM;cases e:eG kn r.1 with|none=>rw[e]at q;refine{.none,.tuple<|r.2.map nJ,by simp only[Dl,Dp],by simp only[Dl,Dp];exact{_,rfl,c},by simp only[PyData.canLay0],by simp only[PyData.canLay0];exact a,.inl<|by simp only[PyData.depth];lia,?_};rw[qb rfl,show PyData.eqv .none (.tuple<|r.2.map nJ)=ϰ by simp only[PyData.eqv]];exact q|some ws=>rw[e]at q;have hw:∀x∈ws,bc x=ϱ:=(g.ok _<|i9 e).2.all;obtain⟨h,d,i⟩:=nK (S:=S) hw;refine{.tuple<|ws.map nJ,.tuple<|r.2.map nJ,by simp only[Dl,Dp];exact{_,rfl,h},by simp only[Dl,Dp];exact{_,rfl,c},by simp only[PyData.canLay0];exact d,by simp only[PyData.canLay0];exact a,.inl<|by simp only[PyData.depth];lia,?_};rw[qb rfl,show PyData.eqv (.tuple<|ws.map nJ) (.tuple<|r.2.map nJ)=Bw ws r.2 by simp only[PyData.eqv];exact xN hw hr.1.all];exact q
theorem SG(g:KI cs kn)(c:ss.Perm (kn.map (·.1)))(hA:Bu cs ps wy 7 d (bt kn ss) A)(hr:Ro cs r):Uk A r=(Hu kn r&&aW cs r 7 d):=by
 have h1:=xQ (λy a=>{hA.an.rg.1 y a,hA.an.ky y a}) hr;rw[SF c hA]at h1;have h2:Hu kn r=ϱ↔eG kn r.1=ϑ r.2:=by unfold Hu;cases e:eG kn r.1 with|none=>exact{λh=>(nomatch h),λh=>(nomatch h)}|some ws=>show Bw ws r.2=ϱ↔_;have hw:∀x∈ws,bc x=ϱ:=(g.ok _<|i9 e).2.all;rw[rD hw hr.1.all];exact{λh=>by rw[h],λh=>zT h}
 rw[yj,h1,zJ,h2]
end
inductive tX (t:gY) (ds:δ D) (S:ak) (R:KD) (Z:KX):η where
 |mk (k a F cs dl rs ps wy d fr kn r) (_:ds=[.ref k,ag r]) (_:HS t S k a F cs dl rs ps wy d fr kn) (_:Wg cs r.2) (_:R (D5 (ps.map λp=>ai cs r.2 p.1) r.1) S)
theorem qr(T:Txt w K mg t):vk P w mg base T.dY 4 (tX t):=by refine T.dY.F.b_ m8 ?_;rintro _ _ _ _ _ _ _ S R Z hr ⟨k,a,F,cs,dl,rs,ps,wy,d,fr,kn,r,e,c,hw,q⟩;subst e;obtain⟨ld,lr,ra,h,_⟩:=id c.sh;refine{_,(s1<|sr<|aU T.mV (qp T) hr<|ac (wM (fl T.aF T.bD<|dv 0) T.aq T.a_ (cW T) hr)<|ac (fl T.aF T.cS<|dv 0)<|ap 1 an),?_};exact !{k,_,_,rfl,c.hk,rfl,a,_,rfl,h.ins,rfl,a,F,cs,dl,rs,rfl,c.sh,_,rfl,k,_,_,rfl,c.hk,rfl,_,rfl,cs,ps,wy,r,rfl,c.g,c.o.pin,c.o.len,hw,fo q}
inductive jq (ds:δ D) (S:ak) (R:KD) (Z:KX):η where
 |mk (x y:θ ρ) (_:ds=[uK x,uK y]) (_:∀z,x=ϑ z->z∈KS) (_:∀z,y=ϑ z->z∈KS) (_:R (BE<|iy x y) S)
theorem iz(T:Txt w K mg t):Ok P w base T.eS 1 jq:=by refine T.eS.F.b_ oW ?_;rintro _ _ _ _ _ _ _ S R Z hr ⟨x,y,c,hx,a,q⟩;subst c;refine{_,(s1<|sr<|TH (aR aK hr.u (dv 0)<|dv 1) dn<|bq<|ac ds<|ap 1 an),?_};refine !!⟨ku (ma hx) (ma a) ?_⟩;rw[qa zd,NN];unfold iy at q;by_cases h:x=y;rw[qb h]at q;exact{_,rfl,jh (fo q)<|zx h};rw[qa h]at q;exact{_,rfl,bI (!{bY,fo q})<|zw h}
inductive kD (t:gY) (ds:δ D) (S:ak) (R:KD) (Z:KX):η where
 |mk (k a F cs dl rs ps wy d fr kn l A) (_:ds=[.ref k,.ref l]) (_:HS t S k a F cs dl rs ps wy d fr kn) (_:S l=ϑ (.lst<|A.map ag)) (_:An cs ps wy A) (_:R (uK<|Ht cs ps wy A fr) S)
theorem jr(T:Txt w K mg t):vk P w mg base T.cy 6 (kD t):=by
 refine T.cy.F.b_ cK ?_;rintro _ _ _ _ _ _ _ S R Z hr ⟨k,a,F,cs,dl,rs,ps,wy,d,fr,kn,l,A,m,c,hl,hA,q⟩;subst m;obtain⟨ld,lr,ra,h,_⟩:=id c.sh;refine{_,(sc (bR (i:=2) cK.nd di)<|sc (qB<|si (aR dJ hr.u (fl T.aF T.bL<|dv 0) dn) (s1<|bR (i:=2) cK.nd<|aU T.j5 (tR T) hr<|ac (wM (fl T.aF T.bD<|dv 0) T.aq T.a_ (cW T) hr)<|ac (fl T.aF T.cS<|dv 0)<|ap 1<|ac (fl T.aF T.bL<|dv 0) an) s0)<|s1<|sr<|TH (aR oz hr.u (dv 2)<|cb ba T.aX aI<|ap 1 an) (ix hr.u (ix hr.u (dv 1)<|dv 2) di) dn),?_};refine{λav S'=>av=[some<|.ref k,some<|.ref l,some<|.int (rE cs ps wy A (rF cs ps fr):π)]/\S'=S,?_,?_};cases fr with|none=>exact (!{k,_,_,rfl,c.hk,rfl,_,rfl,aL<|fo ⟨rfl,rfl⟩})|some r=>exact !{k,_,_,rfl,c.hk,rfl,_,rfl,cj !{k,_,_,rfl,c.hk,rfl,a,_,rfl,h.ins,rfl,a,F,cs,dl,rs,rfl,c.sh,_,rfl,k,_,_,rfl,c.hk,rfl,_,rfl,_,rfl,k,_,_,rfl,c.hk,rfl,cs,ps,wy,A,l,_,rfl,c.g,c.o.pin,c.o.len,hl,hA,D6 c.g c.o.pin (c.fo r rfl).1 (c.fo r rfl).2<|by trivial,fo ⟨rfl,rfl⟩}}
 rintro av S' ⟨rfl,rfl⟩;refine !!!⟨.inl {_,hl,?_}⟩;rw[zb];unfold Ht at q;by_cases j:rE cs ps wy A (rF cs ps fr)<A.length;have e:=zf j;rw[e]at q;generalize A[rE cs ps wy A<|rF cs ps fr]=r at e q;refine{_,rfl,jh (!!{_,ag r,hl,?_,_,rfl,fo q})<|zx<|by lia};unfold gI;rw[zb,nM j];show(A.map ag)[_]?=_;rw[zm,e];rfl;rw[List.getElem?_eq_none<|by lia]at q;exact{_,rfl,bI (fo q)<|zw<|by lia}
inductive qt (t:gY) (ds:δ D) (S:ak) (R:KD) (Z:KX):η where
 |mk (k a F cs dl rs ps wy d fr kn l A ss r) (_:ds=[.ref k,.ref l,ag r]) (_:HS t S k a F cs dl rs ps wy d fr kn) (_:S l=ϑ (.lst<|A.map ag)) (_:ss.Perm (kn.map (·.1))) (_:Bu cs ps wy 7 d (bt kn ss) A) (_:Ro cs r) (_:R (BE<|tU cs ps wy A fr r) S)
theorem xR(T:Txt w K mg t):vk P w mg base T.fc 12 (qt t):=by
 refine T.fc.F.b_ lY ?_;rintro _ _ _ _ _ _ _ S R Z hr ⟨k,a,F,cs,dl,rs,ps,wy,d,fr,kn,l,A,ss,r,p,c,hl,m,hA,ho,q⟩;subst p;obtain⟨ld,lr,ra,h,_⟩:=id c.sh;refine{_,(sc (si (twd<|twor (aR g9 hr.u (Yn (fl T.aF T.bD<|dv 0) T.aq T.cC.e ((i6 T).mono<|by decide) hr T.dj d1<|ac (ix hr.u (dv 2) di) an)<|ix hr.u (dv 2) di)<|tw1<|cJ<|tv<|aU T.passes (iw T 7) hr<|ac (wM (fl T.aF T.bD<|dv 0) T.aq T.a_ (cW T) hr)<|ac (fl T.aF T.fM<|dv 0)<|ap 2 an) (s1<|sr<|bq<|ac ds<|ac (ix hr.u (dv 2) di) an) s0)<|sc (si (twd<|twand (aR dJ hr.u (fl T.aF T.bL<|dv 0) dn)<|tw1<|tv<|aU T.mW (qq T) hr<|ac (fl T.aF T.cS<|dv 0)<|ac (q9 (dv 0) T.aF T.dY (qr T) hr<|ap 2 an)<|ac (fl T.aF T.bL<|dv 0) an) (s1<|sr<|bq<|ac ds<|ac (ix hr.u (dv 2) di) an) s0)<|s1<|sr<|aU T.eS (iz T) hr<|ac (ix hr.u (dv 2) di)<|ac (q9 (dv 0) T.aF T.cy (jr T) hr<|ap 1 an) an),?_};unfold tU at q;rw[SG c.ki m hA ho]at q;have hp:=c.o.pin;have h1:∀z,some r.1=ϑ z->z∈KS:=λz e=>by cases e;exact ho.2
 refine !{k,_,_,rfl,c.hk,rfl,a,_,rfl,h.ins,rfl,_,rfl,_,rfl,a,F,cs,dl,rs,_,.ay,rfl,c.sh,Bt ho.2,tw,λi hi=>?_,λe=>(by cases e)};cases hi;rw[c.ri.A_ ho.2];refine !!⟨Xq c.ki ho ?_⟩;have j:(Hu kn r&&aW cs r 7 d)=ϰ->R (.tup [.str "strange",.str r.1]) S:=λe=>by rw[qa<|by rw[e];exact zd]at q;exact q
 refine{_,rfl,bC (λe=>?_) λe=>?_};exact cj !!{bY,fo<|j<|by rw[nt e];rfl};refine !{k,_,_,rfl,c.hk,rfl,a,_,rfl,h.ins,rfl,a,F,cs,dl,rs,rfl,c.sh,_,rfl,k,_,_,rfl,c.hk,rfl,_,rfl,cs,d,r,rfl,c.g,c.s.1,ho.1,_,rfl,?_};refine bC (λe2=>?_) λe2=>?_;exact !!{bY,fo<|j<|by rw[nt e2,Bool.and_false]};rw[qb<|by rw[nf e,nf e2];rfl]at q;cases fr with|none=>have q:R (BE<|iy (some r.1)<|Ht cs ps wy A none) S:=q;exact (!{k,_,_,rfl,c.hk,rfl,_,rfl,aL !!!{k,_,rfl,c.hk,rfl,_,rfl,k,a,F,cs,dl,rs,ps,wy,d,none,kn,l,A,rfl,c,hl,hA.an,some r.1,_,rfl,h1,tW hA.an,fo q}})|some u=>have hu:=c.fo u rfl;refine !{k,_,_,rfl,c.hk,rfl,_,rfl,cj !{k,_,_,rfl,c.hk,rfl,_,rfl,k,_,rfl,c.hk,rfl,_,rfl,k,a,F,cs,dl,rs,ps,wy,d,some u,kn,r,rfl,c,ho.1,_,rfl,k,_,_,rfl,c.hk,rfl,cs,ps,wy,r,_,rfl,c.g,hp,ho.1,ho.2,D6 c.g hp hu.1 hu.2<|by trivial,_,rfl,?_}};have n:gs cs ps wy (some u) r=!gP cs ps wy (Ug cs ps "behind" u) r:=(by rw[yj,yu,jb,<-Bool.not_eq_true,Pg c.g hp hu ho,Classical.not_not];exact Iff.rfl);rw[n]at q;refine bC (λe3=>?_) λe3=>?_;rw[e3,qa<|by decide]at q;exact !!{bY,fo q};rw[e3,qb<|by decide]at q;exact !!!{k,_,rfl,c.hk,rfl,_,rfl,k,a,F,cs,dl,rs,ps,wy,d,some u,kn,l,A,rfl,c,hl,hA.an,some r.1,_,rfl,h1,tW hA.an,fo q}
theorem jc{cs:δ<|ρ×ρ}{ps:δ Part}{wy:ρ}{A:δ Row}{fr:θ Row}{r:Row}{rs:δ Row} : d9 cs ps wy A fr (r::rs)=match tU cs ps wy A fr r with|some f=>some f|none=>d9 cs ps wy A (some r) rs:=rfl
inductive nQ (t:gY) (ds:δ D) (S:ak) (R:KD) (Z:KX):η where
 |mk (k a F cs dl rs ps wy d fr kn l rows) (_:ds=[.ref k,.ref l]) (_:HS t S k a F cs dl rs ps wy d fr kn) (_:S l=ϑ (.lst<|rows.map ag)) (_:∀r∈rows,Ro cs r)
  (_:∀cn,(c_ cs ps wy (nN cs ps wy d kn) fr rows=ϐ->cn=fh fr rows)->(∀q,cn=ϑ q->Ro cs q)->R (BE<|c_ cs ps wy (nN cs ps wy d kn) fr rows) (S.set k<|LA t.aP a cs ps wy d cn)):nQ t ds S R Z
inductive Pw (t:gY) (S:ak) (k a:ε) (cs:δ<|ρ×ρ) (ps:δ Part) (wy:ρ) (d:D) (A rows:δ Row) (fr:θ Row) (l l2:ε) (i:π) (av:SD) (S':ak):η where
 |mk (cn:θ Row) (o3 o4:θ D) (_:av=[some<|.ref k,some<|.ref l,some<|.ref l2,o3,o4]) (_:Sub (S.set k<|LA t.aP a cs ps wy d cn) S') (_:∀q,cn=ϑ q->Ro cs q) (_:d9 cs ps wy A fr rows=d9 cs ps wy A cn (rows.drop i)) (_:fh fr rows=fh cn (rows.drop i)):Pw t S k a cs ps wy d A rows fr l l2 i av S'
theorem uL(T:Txt w K mg t)(B:Bm mg base):vk P w mg base T.eM 13 (nQ t):=by
 refine T.eM.F.b_ bZ ?_;rintro _ _ _ _ _ _ _ S R Z hr ⟨k,a,F,cs,dl,rs,ps,wy,d,fr,kn,l,rows,U,h,hl,O,q⟩;subst U;refine{_,(sc (bR (i:=2) bZ.nd<|aU T.fO (nE T B) hr<|ac (fl T.aF T.bD<|dv 0)<|ac (fl T.aF T.cS<|dv 0)<|ac (fl T.aF T.fM<|dv 0)<|ac dn an)<|sc (si (aR aK hr.u (cb ba T.aX aI<|ap 1 an) di) (s1<|sr<|aU T.eS (iz T) hr<|ac dn<|ac (q9 (dv 0) T.aF T.cy (jr T) hr<|ap 2 an) an) s0)<|sc (qB<|AG (il<|dv 1) (gn (i:=3) bZ.nd)<|sc (bR (i:=4) bZ.nd<|q9 (dv 0) T.aF T.fc (xR T) hr<|ap 2<|ap 3 an)<|sc (si (aR dJ hr.u (dv 4) dn) (s1<|sr<|dv 4) s0)<|s1<|sf T.aF T.bL (dv 0)<|bq<|ac (q9 (dv 0) T.aF T.dY (qr T) hr<|ap 3 an)<|ac ds an)<|s1<|sr dn),?_};obtain⟨ss,G,Y⟩:=D_ (kn.map (·.1));have y:Snap rs cs dl.length (bt kn ss):=⟨kn,ss,rfl,h.ki,G,Y,h.ri.wt⟩;have z:=y.vw h.sh h.ri (md:=.ay) rfl tw;refine !{k,_,_,rfl,h.hk,rfl,_,rfl,k,_,_,rfl,h.hk,rfl,_,rfl,k,_,_,rfl,h.hk,rfl,a,cs,ps,wy,d,.ay,bt kn ss,rfl,h.g,h.o,h.s,z,h.tb,λA l2 pm pw J=>?_};have hA:=KL z.rg y.key pm pw;rw[<-tV h.g h.o.pin G hA]at q;have s1:=Sub.new (c:=.lst<|A.map ag) J;have C:(S.set l2<|.lst<|A.map ag) l2=ϑ (.lst<|A.map ag):=aa;have j:=h.sub s1;have n:=s1 _ _ hl;have m:∀cn,(c_ cs ps wy A fr rows=ϐ->cn=fh fr rows)->(∀q,cn=ϑ q->Ro cs q)->∀S',Sub ((S.set l2<|.lst<|A.map ag).set k<|LA t.aP a cs ps wy d cn) S'->Fo S' (R<|BE<|c_ cs ps wy A fr rows):=λcn h1 h2 S' L=>{_,(cO s1).trans L,q cn h1 h2};generalize S.set l2 (.lst<|A.map ag)=S1 at s1 C j n m⊢;clear q J s1 hl h;have I:S1.set k (LA t.aP a cs ps wy d fr)=S1:=by funext b;by_cases e:b=k;rw[e,aa,j.hk];rw[ae e]
 refine !!⟨.inl {_,n,_,rfl,?_}⟩;rw[zb];refine bC (λh0=>?_) λh0=>?_;have h0:rows=[]:=List.length_eq_zero_iff.mp (by have:=zG h0;lia);subst h0;have:=m fr (λ_=>rfl) j.fo S1 (by rw[I];exact .refl _);exact !{k,_,rfl,j.hk,rfl,_,rfl,k,a,F,cs,dl,rs,ps,wy,d,fr,kn,l2,A,rfl,j,C,hA.an,none,_,rfl,(λ_ e=>nomatch e),tW hA.an,this};have h0:rows≠[]:=λe=>by subst e;exact absurd h0<|by decide
 have X:c_ cs ps wy A fr rows=d9 cs ps wy A fr rows:=qa (by rw[List.isEmpty_iff];exact h0);rw[X]at m;refine{λav S'=>∃cn,(∀q,cn=ϑ q->Ro cs q)/\d9 cs ps wy A fr rows=ϐ/\cn=fh fr rows/\Sub (S1.set k<|LA t.aP a cs ps wy d cn) S',?_,?_};refine !{_,n,?_};refine{Pw t S1 k a cs ps wy d A rows fr l l2,{fr,none,none,rfl,by rw[I];exact .refl _,j.fo,rfl,rfl},?_,?_,?_};rintro i av S' ⟨cn,o3,o4,rfl,sb,hf,e1,e2⟩;exact sb _ _<|(ae λe=>by rw[e,j.hk]at n;cases n).trans n;rintro i x av S' hx ⟨cn,o3,o4,rfl,sb,hf,e1,e2⟩;have hx:(rows.map ag)[i]?=some x:=hx;rw[zm]at hx;cases E:rows[i]? with|none=>(rw[E]at hx;cases hx)|some r=>rw[E]at hx;cases hx;have ho:=O r<|zD E;have Q:=nO E;rw[Q]at e1 e2;rw[vU]at e2;have v:=(j.put hf).sub sb;have M:=sb _ _<|(ae λe=>by rw[e,j.hk]at C;cases C).trans C;refine !{k,_,rfl,v.hk,rfl,_,rfl,_,rfl,k,a,F,cs,dl,rs,ps,wy,d,cn,kn,l2,A,ss,r,rfl,v,M,G,hA,ho,?_};rw[jc]at e1;cases H:tU cs ps wy A cn r with|some f=>rw[H]at e1;have e1:d9 cs ps wy A fr rows=ϑ f:=e1;rw[e1]at m;exact (!!⟨cj !⟨m cn (λe=>nomatch e) hf S' sb⟩⟩)|none=>rw[H]at e1;refine !!⟨aL !{k,_,rfl,v.hk,rfl,_,rfl,k,a,F,cs,dl,rs,ps,wy,d,cn,kn,r,rfl,v,ho.1,bY,_,rfl,k,_,rfl,v.hk,(show 4<1000 by decide),?_}⟩;refine{some r,_,_,rfl,?_,λq e=>by cases e;exact ho,e1,e2};have:=cO (p:=k) (c:=LA t.aP a cs ps wy d<|some r) sb;rw[bK]at this;exact this
 rintro av S' ⟨cn,o3,o4,rfl,sb,hf,e1,e2⟩;have N:rows.drop (rows.map ag).length=[]:=yB (by rw[zb];exact zk _);have e1:d9 cs ps wy A fr rows=d9 cs ps wy A cn (rows.drop (rows.map ag).length):=e1;have e2:fh fr rows=fh cn (rows.drop (rows.map ag).length):=e2;rw[N]at e1 e2;exact fo ⟨cn,hf,e1,e2.symm,sb⟩;rintro av S' ⟨cn,hf,e1,e2,sb⟩;rw[e1]at m;exact m cn (λ_=>e2) hf S' sb
noncomputable def NQ:BA->χ|.pg _=>true|_=>false
inductive js (ds:δ D) (S:ak) (R:KD) (Z:KX):η where
 |mk (cs n d e) (_:ds=[.tup<|cs.map aA,d]) (_:Gd cs) (_:BB cs S n d e) (_:n<=1000) (_:R (.bl<|NQ e) S)
theorem pF(T:Txt w K mg t):Ok P w base T.gQ 7 js:=by refine T.gQ.F.b_ oV ?_;rintro _ _ _ _ _ _ _ S R Z hr ⟨cs,n,d,e,c,hg,g,hn,q⟩;subst c;refine{_,(sc (si (twd<|twor (cJ<|tv<|cb cB T.aw ao<|ap 1<|ac (qy T.bz aZ) an)<|tw1<|aR g9 hr.u (cb ba T.aX aI<|ap 1 an) di) (s1<|sr db) s0)<|sc (si (twd<|twor (cJ<|tv<|cb cB T.aw ao<|ac (ix hr.u (dv 1) di)<|ac (qy T.mQ iH) an)<|tw1<|aR g9 hr.u (ix hr.u (dv 1) di) ds) (s1<|sr db) s0)<|s1<|sr<|qz (cb cB T.aw ao<|ac (ix hr.u (dv 1) di)<|ac (qy T.wV qW) an)<|HI<|cb jL T.jV fF<|ac (y_ (N:=["row","columns"]) (src:=[none,some 0]) (lR qD) (il<|ix hr.u (dv 1) di) qZ<|aU T.Dc (Hs T) hr<|ap 1<|ap 0 an) an),?_};cases g with|put hz hw=>exact (!{_,_,_,_,rfl,aE,rfl,_,rfl,aL !!!⟨jh (fo q) rfl⟩})|chg hz hw=>exact (!{_,_,_,_,rfl,aE,rfl,_,rfl,aL !!!⟨jh (fo q) rfl⟩})|tk hz=>exact (!{_,_,_,_,rfl,aE,rfl,_,rfl,aL !!!⟨bI (!!{_,_,_,_,rfl,bM,rfl,_,rfl,aL !!!⟨jh<|fo q⟩}) rfl⟩})|@pg l rows hl ho i=>refine !{_,_,_,_,rfl,aE,rfl,_,rfl,aL !!!⟨bI (!!{_,_,_,_,rfl,bM,rfl,_,rfl,aL !!!⟨bI !!{_,_,_,_,rfl,vO,.inl {rfl,_,hl},_,rfl,cj ?_}⟩}) rfl⟩};refine !!{_,hl,?_};refine comp_map (λ_=>.bl true) hl (by show(rows.map ag).length<=1000;rw[zb];lia) (λx hx Q a=>?_) λp hp=>?_;obtain⟨r,h,rfl⟩:=zh.mp hx;exact !!{cs,r,rfl,hg,ho r h,a};rw[show({rows.map ag,λS=>qX S (.ref l)<|rows.map ag}:n8).xs.map (λ_=>D.bl true)=(rows.map λ_=>true).map D.bl by show(rows.map ag).map _=_;rw[zy,zy];rfl];refine{.ref p,rows.map λ_=>true,rfl,aa,?_};rw[show(rows.map λ_=>true).all id=ϱ by rw[all_map];exact zZ.mpr λ_ _=>rfl];exact{S,.new hp,q}
inductive nR (t:gY) (ds:δ D) (S:ak) (R:KD) (Z:KX):η where
 |mk (k cs ps wy d) (_:ds=[.ref k,.tup<|cs.map aA,cI ps wy,d]) (_:Gd cs) (_:Og cs ps wy) (_:Sq cs d) (_:S k=ϑ (.ins t.aP []))
  (_:∀S' a F,cF t.ar S' a F cs [] []->S' k=ϑ (LA t.aP a cs ps wy d none)->k∉F->(∀b c,b≠k->S b=ϑ c->b∉F/\S' b=ϑ c)->R .ay S'):nR t ds S R Z
theorem K2(T:Txt w K mg t):vk P w mg base T.fS 7 (nR t):=by
 refine T.fS.F.b_ m7 ?_;rintro _ _ _ _ _ _ _ S R Z hr ⟨k,cs,ps,wy,d,h,hg,ho,hd,hk,q⟩;subst h;refine{_,(sc (sf T.aF T.bD (dv 0)<|mk T.JO (Ng T) (hr.mono<|by decide) T.JN T.fR.b d0<|ap 1 an)<|sc (se<|aU T.jX (tH T) hr<|ap 1<|ap 2 an)<|sc (se<|aU T.jY (tJ T) hr<|ap 1<|ap 3 an)<|sc (sf T.aF T.cS (dv 0)<|dv 2)<|sc (sf T.aF T.fM (dv 0)<|dv 3)<|s1<|sf T.aF T.bL (dv 0) dn),?_};refine{_,rfl,λa ha=>{a,cs,rfl,hg,aa,λS1 F g j=>{rfl,?_}}};have kept:∀b c,S b=ϑ c->b∉F/\S1 b=ϑ c:=λb c e=>by have h2:b≠a:=gM e ha;exact j b c (λm=>h2<|zL.mp m)<|(ae h2).trans e
 obtain⟨nk,i⟩:=kept _ _ hk;refine !{k,_,rfl,i,(show 0<1000 by decide),?_};refine !!{cs,ps,wy,rfl,hg,ho.tx,ho.ok,?_};refine !!{cs,d,rfl,hg,hd,?_};refine !!{k,_,rfl,aa,(show 1<1000 by decide),?_};refine !!{k,_,rfl,aa,(show 2<1000 by decide),?_};refine !{k,_,rfl,aa,(show 3<1000 by decide),?_};rw[bK,bK,bK];exact fo<|q _ a F (g.off nk) aa nk λb c n e=>{(kept b c e).1,(ae n).trans (kept b c e).2}
inductive nS (t:gY) (ds:δ D) (S:ak) (R:KD) (Z:KX):η where
 |mk (cs ps wy d l xs es n) (_:ds=[.tup<|cs.map aA,cI ps wy,d,.ref l]) (_:Gd cs) (_:Og cs ps wy) (_:Sq cs d) (_:Tb t S) (_:S l=ϑ (.lst xs)) (_:lh cs S n xs es) (_:n<=1000) (_:es.length<=100)
  (_:R (BD<|bH cs ps wy d [] none 0 es) S):nS t ds S R Z
inductive Wv (t:gY) (S:ak) (cs:δ<|ρ×ρ) (ps:δ Part) (wy:ρ) (d:D) (l k:ε) (es:δ BA) (i:π) (av:SD) (S':ak):η where
 |mk (o5 o6 o7:θ D) (a:ε) (F:δ ε) (dl:δ D) (rs:rq) (fr:θ Row) (kn:Kn) (_:av=[some<|.tup<|cs.map aA,some<|cI ps wy,some d,some<|.ref l,some<|.ref k,o5,o6,o7]) (_:HS t S' k a F cs dl rs ps wy d fr kn) (_:Sr S (k::F) S') (_:dl.length<=i)
  (_:bH cs ps wy d [] none 0 es=bH cs ps wy d kn fr i (es.drop i)):Wv t S cs ps wy d l k es i av S'
theorem tY:∀{l:δ α}{m:δ β},Paired r l m->∀{i:π}{a:α},l[i]?=some a->∃b,m[i]?=some b/\r a b|_,_,.nil,_,_,e=>by simp at e|_,_,.cons h t,0,_,e=>(by cases e;exact{_,rfl,h})|_,_,.cons h t,i+1,_,e=>tY t e
theorem nU:bH cs ps wy d kn fr i (.pg rows::es)=match c_ cs ps wy (nN cs ps wy d kn) fr rows with|some f=>some (f.1,i,some f.2)|none=>bH cs ps wy d kn (fh fr rows) (i+1) es:=rfl
theorem eT(T:Txt w K mg t)(B:Bm mg base):Ok P w base T.eK 14 (nS t):=by
 refine T.eK.F.b_ dy ?_;rintro _ _ _ _ _ _ _ S R Z hr ⟨cs,ps,wy,d,l,xs,es,n,e0,hg,ho,hd,H,hl,G,hn,Lp,q⟩;subst e0;refine{_,(sc (bR (i:=4) dy.nd<|mk T.JQ (K2 T) (hr.mono<|by decide) T.JP T.fS.b d0<|ap 0<|ap 1<|ap 2 an)<|sc (si (cJ<|tv<|cb cB T.aw ao<|ap 3<|ac (qy T.wV qW) an) (s1 z_) s0)<|sc (qB<|AG (ien T.pS<|ap 3 an) (gt (n:=2)<|gc (gn (i:=5) dy.nd)<|gc (gn (i:=6) dy.nd) g0)<|s1<|si (tv<|aU T.gQ (pF T) hr<|ap 0<|ap 6 an) (sc (bR (i:=7) dy.nd<|q9 (dv 4) T.aF T.eM (uL T B) hr<|ac (ix hr.u (dv 6) di) an)<|s1<|si (aR dJ hr.u (dv 7) dn) (s1<|sr<|bq<|ac (ix hr.u (dv 7) di)<|ap 5<|ac (ix hr.u (dv 7) di) an) s0)<|s1<|si (cJ<|tv<|aU T.w6 (D9 T) hr<|ac (fl T.aF T.bD<|dv 4)<|ap 6 an) (s1<|sr<|bq<|ac ds<|ap 5 an) s0)<|s1<|sr dn),?_};have Hf:xs.length=es.length:=yH G;refine !!!⟨λk hk=>{k,cs,ps,wy,d,rfl,hg,ho,hd,aa,λS1 a F U Yx nk kept=>{rfl,?_}}⟩;have p:Sr S (k::F) S1:=λb c e=>by have h2:b≠k:=gM e hk;obtain⟨j,o⟩:=kept b c h2<|(ae h2).trans e;exact{λm=>(zj.mp m).elim h2 j,o}
 have C:HS t S1 k a F cs [] [] ps wy d none []:={Yx,nk,U,hg,ho,hd,KI.nil cs,RI.nil,(λ_ e=>nomatch e),H.sub p.sub};refine !{_,_,_,_,rfl,vO,.inl {rfl,_,p.sub _ _ hl},_,rfl,aL ?_};refine{λav S'=>∃(o5 o6 o7:θ D),av=[some<|.tup<|cs.map aA,some<|cI ps wy,some d,some<|.ref l,some<|.ref k,o5,o6,o7]/\bH cs ps wy d [] none 0 es=ϐ/\Sub S S',?_,?_};refine !{_,_,rfl,p.sub _ _ hl,?_};refine{Wv t S cs ps wy d l k es,{none,none,none,a,F,[],[],none,[],rfl,C,p,zk _,rfl},?_,?_,?_};rintro i av S' ⟨o5,o6,o7,a,F,dl,rs,fr,kn,rfl,g,NH,N,hw⟩;exact NH.sub _ _ hl;rintro i x av S' hx ⟨o5,o6,o7,a,F,dl,rs,fr,kn,rfl,g,NH,N,hw⟩;obtain⟨de,ex,rfl⟩:=wI hx;obtain⟨e,E,Q⟩:=tY G ex;have hi:=(ze.mp E).1;have NP:=nO E;rw[NP]at hw;have A:=Q.sub NH.sub<|zk n;refine !{rfl,_,_,rfl,_,_,rfl,rfl,?_};refine !!{cs,n,de,e,rfl,hg,A,hn,_,rfl,?_};by_cases L:∃rows,e=.pg rows;obtain⟨rows,rfl⟩:=L;obtain⟨l2,rfl,xW,qu⟩:∃l2,de=.tup [.str "page",.ref l2]/\S' l2=ϑ (.lst<|rows.map ag)/\∀r∈rows,Ro cs r:=by cases A with|pg hl ho _=>exact{_,rfl,hl,ho}
 rw[nU]at hw;refine cj !{k,_,rfl,g.hk,rfl,_,rfl,_,rfl,k,a,F,cs,dl,rs,ps,wy,d,fr,kn,l2,rows,rfl,g,xW,qu,λcn h1 h2=>?_};have I:Sr S (k::F) (S'.set k<|LA t.aP a cs ps wy d cn):=λb c e=>by obtain⟨j,o⟩:=NH b c e;exact{j,(ae λe=>j<|by rw[e];exact zq).trans o}
 cases s:c_ cs ps wy (nN cs ps wy d kn) fr rows with|some f=>rw[s]at hw;rw[hw]at q;exact (!!⟨cj !!!!!⟨uG,S,I.sub,q⟩⟩)|none=>rw[s,<-h1 s]at hw;exact !!⟨aL {_,_,_,a,F,dl,rs,cn,kn,rfl,g.put h2,I,by lia,hw}⟩
 have y:∀rows,e≠.pg rows:=λrows h=>L ⟨rows,h⟩;have Y:NQ e=ϰ:=by cases e<;>first|rfl|exact absurd rfl (y _)
 rw[kO y]at hw;rw[Y];refine aL !{k,_,_,rfl,g.hk,rfl,_,rfl,a,F,cs,dl,rs,kn,n,de,e,rfl,g.sh,hg,g.ki,g.ri,by lia,A,y,λh=>?_,λeZ S2 O WI h v J z=>?_};rw[h]at hw;rw[hw]at q;exact{_,rfl,cj !⟨bY,S,NH.sub,q⟩};rw[h]at hw;have M:Sr S (k::O) S2:=λb c e=>by obtain⟨j,o⟩:=NH b c e;obtain⟨X,h6⟩:=J b c (λm=>j<|zg _ m) o;exact{λm=>(zj.mp m).elim (λm=>j<|by rw[m];exact zq) X,h6}
 obtain⟨n2,dE⟩:=J _ _ g.nk g.hk;exact{_,rfl,aL {_,_,_,a,O,_,WI,fr,eZ,rfl,{dE,n2,v,hg,ho,hd,xP g.ki Q h,by rw[zo];exact z,g.fo,H.sub M.sub},M,by rw[zo];show _+1<=_;lia,hw}};rintro av S' ⟨o5,o6,o7,a,F,dl,rs,fr,kn,rfl,g,NH,N,hw⟩;have el:es.drop (Ji xs).length=[]:=yB (by rw[wH];lia);have hw:bH cs ps wy d [] none 0 es=bH cs ps wy d kn fr (Ji xs).length (es.drop (Ji xs).length):=hw;rw[el]at hw;exact fo {_,_,_,rfl,hw.trans<|by unfold bH;rfl,NH.sub};rintro av S' ⟨o5,o6,o7,rfl,hw,sb⟩;rw[hw]at q;exact⟨S,sb,q⟩
theorem rw_eqv(hr:∀x∈r.2,bc x=ϱ)(a:∀x∈s.2,bc x=ϱ):PyData.eqv (HR r) (HR s)=(ω (r.1=s.1)&&Bw r.2 s.2):=by have h:=xN hr a;simp only[HR,PyData.eqv,PyData.eqvAll,h,Bool.and_true];congr 1
noncomputable def K5(r:Row):D->χ|.tup [.str k,.tup ws]=>ω (k=r.1)&&Bw ws r.2|_=>false
theorem K6(h:∀x∈r.2,bc x=ϱ):Dl S (ag r) (HR r):=by obtain⟨a,_,_⟩:=nK (S:=S) h;simp only[ag,HR,Dl,Dp,DpAll];exact !{_,_,rfl,rfl,_,_,rfl,!⟨a⟩,rfl}
theorem Hv(hr:Wg cs r.2)(hk:r.1∈KS)(hA:∀x∈A,Wg cs x.2)(e:Pe A):Each S (ag r) (A.map ag) (K5 r):=by obtain⟨c,l2⟩:=xM hr hk;refine{HR r,K6 hr.all,c,λd hd=>?_};obtain⟨x,hx,rfl⟩:=zh.mp hd;obtain⟨a,g⟩:=xM (hA x hx)<|e x hx;exact{HR x,K6 (hA x hx).all,a,.inl<|by lia,rw_eqv (hA x hx).all hr.all}
noncomputable def nV(cs:δ<|ρ×ρ)(ps:δ Part):θ Row->D|none=>.ay|some q=>D5 (ps.map λp=>ai cs q.2 p.1) q.1
noncomputable def stB(cs:δ<|ρ×ρ)(ps:δ Part)(wy:ρ)(st:θ Row)(y:Row):Bool:=match st with|none=>true|some r=>gs cs ps wy (some y) r
noncomputable def Hw(cs:δ<|ρ×ρ)(ps:δ Part)(wy:ρ)(fr st:θ Row)(y:Row):Bool:=gs cs ps wy fr y&&stB cs ps wy st y
noncomputable def K7(cs:δ<|ρ×ρ)(ps:δ Part)(wy:ρ)(A:δ Row)(fr st:θ Row):θ Str:=(A.find?<|Hw cs ps wy fr st).map Prod.fst
section
variable{cs:δ (ρ×ρ)}{ps:δ Part}{wy:ρ}{A:δ Row}{fr:θ Row}(hg:Gd cs)(hp:Pin cs ps)(hA:An cs ps wy A)(hf:∀q,fr=ϑ q->Ro cs q)
theorem An.ro(hA:An cs ps wy A){i:π}{r:Row}(e:A[i]?=some r):Ro cs r:={hA.rg.1 r<|zD e,hA.ky r<|zD e}
include hg hp hA hf
theorem NS:iy none (Ht cs ps wy A fr)=(K7 cs ps wy A fr none).map λz=>(("missed": ρ),some z):=by
 have h:A.find? (Hw cs ps wy fr none)=A[rE cs ps wy A<|rF cs ps fr]?:=by have key:∀{i:π}{a:Row},A[i]?=some a->(Hw cs ps wy fr none a=ϱ↔rE cs ps wy A (rF cs ps fr)<=i):=λ{i a} e=>(by show(gs cs ps wy fr a&&true)=ϱ↔_;rw[Bool.and_true,jb];exact ja hg hp hA hf e);cases e:A[rE cs ps wy A<|rF cs ps fr]? with|none=>(refine List.find?_eq_none.mpr λx hx=>?_;obtain⟨i,hi⟩:=yq hx;rw[key hi];have h1:=(ze.mp hi).1;have h2:=List.getElem?_eq_none_iff.mp e;lia)|some r=>obtain⟨h1,h2⟩:=ze.mp e;refine List.find?_eq_some_iff_getElem.mpr {(key e).mpr<|zk _,_,h1,h2,λj c=>?_};have:=key<|zf (l:=A) (i:=j) (by lia);rw[yu,<-Bool.not_eq_true,this];lia
 unfold K7 Ht iy;rw[h];cases A[rE cs ps wy A<|rF cs ps fr]? with|none=>rfl|some r=>rfl
theorem NT{r:Row}(hr:r∈A)(n:gs cs ps wy fr r=ϱ):iy (some r.1) (Ht cs ps wy A fr)=(K7 cs ps wy A fr<|some r).map λz=>(("missed": ρ),some z):=by
 obtain⟨j,c⟩:=yq hr;have d:=(ze.mp c).1;have hn:=(ja hg hp hA hf c).mp<|jb.mp n;have key:∀{i:π}{a:Row},A[i]?=some a->(Hw cs ps wy fr (some r) a=ϱ↔rE cs ps wy A (rF cs ps fr)<=i/\i<j):=λ{i a} e=>by have ho:=hA.ro e;unfold Hw;rw[zJ,jb,ja hg hp hA hf e];refine and_congr_right λ_=>?_;show gs cs ps wy (some a) r=ϱ↔_;rw[jb,ja hg hp hA (fr:=some a) (λq h=>by cases h;exact ho) c];have h1:=K0 (wy:=wy) hg hp hA e;constructor;intro h;lia;intro h;have h2:=List.pairwise_iff_getElem.mp (hA.lex hg hp) i j (ze.mp e).1 d h;rw[(ze.mp e).2,(ze.mp c).2]at h2;exact(ja hg hp hA (fr:=some a) (λq h=>by cases h;exact ho) c).mp h2
 unfold K7 Ht iy;rcases y9 (rE cs ps wy A<|rF cs ps fr) j with h|h;have hl:rE cs ps wy A (rF cs ps fr)<A.length:=by lia
 have e:=zf hl;have g:A.find? (Hw cs ps wy fr<|some r)=ϑ A[rE cs ps wy A<|rF cs ps fr]:=by refine List.find?_eq_some_iff_getElem.mpr {(key e).mpr {zk _,h},_,hl,rfl,λi hi=>?_};have:=key<|zf (l:=A) (i:=i) (by lia);rw[yu,<-Bool.not_eq_true,this];lia
 rw[g,e];generalize A[rE cs ps wy A<|rF cs ps fr]=y at e;have ne:y.1≠r.1:=λz=>by have o:(A.map Prod.fst)[rE cs ps wy A<|rF cs ps fr]?=some r.1:=(by rw[zm,e];exact congrArg some z);have m:(A.map Prod.fst)[j]?=some r.1:=(by rw[zm,c];rfl);have:=(List.getElem?_inj (by rw[zb];exact hl) hA.rg.2).mp<|o.trans m.symm;lia
 exact qa λz=>ne (zT z).symm;have g:A.find? (Hw cs ps wy fr<|some r)=ϐ:=by refine List.find?_eq_none.mpr λx hx=>?_;obtain⟨i,hi⟩:=yq hx;rw[key hi];lia
 rw[g,show rE cs ps wy A (rF cs ps fr)=j by lia,c];exact qb rfl
end
theorem Eb(c:KI cs kn)(a:ss.Perm (kn.map (·.1))):Pe (bt kn ss):=λr hr=>by obtain⟨z,hz,rfl⟩:=zh.mp hr;obtain⟨ws,hw⟩:=ko<|a.mem_iff.mp hz;exact(c.ok _<|i9 hw).1
theorem xS{cs:δ<|ρ×ρ}{ps:δ Part}{wy:ρ}(hg:Gd cs)(ho:Og cs ps wy){a b:Row}{S:ak}{R:KD}{Z:KX}(ha:Ro cs a)(c:Ro cs b)(q:R (.bl<|gs cs ps wy (some a) b) S):tT [cI ps wy,nV cs ps<|some a,nV cs ps<|some b] S R Z:={ps,wy,_,_,_,_,_,rfl,by rw[zb],by rw[zb],ho.len,l8 hg ho.pin ha.1,l8 hg ho.pin c.1,ha.2,c.2,q}
inductive jt (ds:δ D) (S:ak) (R:KD) (Z:KX):η where
 |mk (cs ps wy l A fr st) (_:ds=[.tup<|cs.map aA,cI ps wy,.ref l,nV cs ps fr,nV cs ps st]) (_:Gd cs) (_:Og cs ps wy) (_:S l=ϑ (.lst<|A.map ag)) (_:An cs ps wy A) (_:∀q,fr=ϑ q->Ro cs q) (_:∀q,st=ϑ q->Ro cs q)
  (_:R (uK<|K7 cs ps wy A fr st) S):jt ds S R Z
theorem iA(T:Txt w K mg t):Ok P w base T.dF 2 jt:=by
 refine T.dF.F.b_ dO ?_;rintro _ _ _ _ _ _ _ S R Z hr ⟨cs,ps,wy,l,A,fr,st,j,hg,ho,hl,hA,hf,n,q⟩;subst j;refine{_,(sc (qB<|AG (il<|dv 2) (gn (i:=5) dO.nd)<|sc (bR (i:=6) dO.nd<|aU T.iV (kC T) hr<|ap 0<|ap 1<|ap 5 an)<|s1<|si (twd<|twand (AW<|twd<|twor (aR gq hr.u (dv 3) dn)<|tw1<|tv<|aU T.lX (nL T) hr<|ap 1<|ap 3<|ap 6 an)<|tw1<|AW<|twd<|twor (aR gq hr.u (dv 4) dn)<|tw1<|tv<|aU T.lX (nL T) hr<|ap 1<|ap 6<|ap 4 an) (s1<|sr<|ix hr.u (dv 5) di) s0)<|s1<|sr dn),?_};unfold K7 at q;refine{λav S'=>S'=S/\A.find? (Hw cs ps wy fr st)=ϐ,?_,?_};refine !{_,hl,?_};refine{λi av S'=>(∃o5 o6,av=[some<|.tup<|cs.map aA,some<|cI ps wy,some<|.ref l,some<|nV cs ps fr,some<|nV cs ps st,o5,o6])/\S'=S/\A.find? (Hw cs ps wy fr st)=(A.drop i).find? (Hw cs ps wy fr st),{⟨none,none,rfl⟩,rfl,rfl},?_,?_,?_};rintro i av S' ⟨_,rfl,_⟩;exact hl;rintro i x av S' hx ⟨⟨o5,o6,rfl⟩,rfl,a⟩;have hx:(A.map ag)[i]?=some x:=hx;rw[zm]at hx;obtain⟨r,e,rfl⟩:=Option.map_eq_some_iff.mp hx;have d:=hA.ro e;have g:=nO e;rw[g,yd]at a;refine !!!{cs,ps,wy,r,rfl,hg,ho.pin,ho.len,d.1,?_};refine{λb S1=>b=gs cs ps wy fr r/\S1=S',?_,?_};cases fr with|none=>exact (!!⟨cj ⟨rfl,rfl⟩⟩)|some u=>exact !!⟨aL !!!⟨xS hg ho (hf u rfl) d !⟨rfl,rfl⟩⟩⟩
 rintro b S1 ⟨c,rfl⟩;rw[show Hw cs ps wy fr st r=(gs cs ps wy fr r&&stB cs ps wy st r) from rfl,<-c]at a;refine bC (λh=>?_) λh=>?_;rw[h,yp]at a;refine{λb m=>b=stB cs ps wy st r/\m=S1,?_,?_};cases st with|none=>exact (!!⟨cj ⟨rfl,rfl⟩⟩)|some u=>exact !!⟨aL !!!⟨xS hg ho d (n u rfl) !⟨rfl,rfl⟩⟩⟩
 rintro b S1 ⟨c,rfl⟩;rw[<-c]at a;refine bC (λh=>?_) λh=>?_;rw[h]at a;rw[a]at q;exact !!⟨fo q⟩;rw[h]at a;exact{{_,_,rfl},rfl,a};rw[h,zY]at a;exact aL {{_,_,rfl},rfl,a};rintro av S' ⟨_,rfl,a⟩;have o:A.drop (A.map ag).length=[]:=yB (by rw[zb];exact zk _);have a:A.find? (Hw cs ps wy fr st)=(A.drop (A.map ag).length).find? (Hw cs ps wy fr st):=a;rw[o]at a;exact fo ⟨rfl,a⟩;rintro av S' ⟨rfl,a⟩;rw[a]at q;exact fo q
inductive kE (ds:δ D) (S:ak) (R:KD) (Z:KX):η where
 |mk (cs ps wy d lk kn l rows fr) (_:ds=[.tup<|cs.map aA,cI ps wy,d,.ref lk,.ref l,nV cs ps fr]) (_:Gd cs) (_:Og cs ps wy) (_:Sg cs 7 d) (_:S lk=ϑ (.cM<|d_ kn)) (_:KI cs kn) (_:S l=ϑ (.lst<|rows.map ag)) (_:∀r∈rows,Ro cs r) (_:∀q,fr=ϑ q->Ro cs q)
  (_:∀cn,(c_ cs ps wy (nN cs ps wy d kn) fr rows=ϐ->cn=fh fr rows)->(∀q,cn=ϑ q->Ro cs q)->R (.tup [BE<|c_ cs ps wy (nN cs ps wy d kn) fr rows,nV cs ps cn]) S):kE ds S R Z
inductive Lpw (S:ak) (cs:δ<|ρ×ρ) (ps:δ Part) (wy:ρ) (d:D) (A rows:δ Row) (fr:θ Row) (lk l p:ε) (i:π) (av:SD) (S':ak):η where
 |mk (cn:θ Row) (o7 o8 o9:θ D) (_:av=[some<|.tup<|cs.map aA,some<|cI ps wy,some d,some<|.ref lk,some<|.ref l,some<|nV cs ps cn,some<|.ref p,o7,o8,o9]) (_:S'=S) (_:∀q,cn=ϑ q->Ro cs q) (_:d9 cs ps wy A fr rows=d9 cs ps wy A cn (rows.drop i)) (_:fh fr rows=fh cn (rows.drop i)):Lpw S cs ps wy d A rows fr lk l p i av S'
theorem tZ(T:Txt w K mg t):Ok P w base T.iW 12 kE:=by
 refine T.iW.F.b_ bw ?_;rintro _ _ _ _ _ _ _ S R Z hr ⟨cs,ps,wy,d,lk,kn,l,rows,fr,e0,hg,ho,hd,X,G,hl,O,hf,q⟩;subst e0;refine{_,(sc (bR (i:=6) bw.nd<|aU T.rn (vS T) hr<|ap 0<|ap 1<|ap 2<|ac (aU T.w_ (Bz T) hr<|ap 3 an) an)<|sc (qB<|AG (il<|dv 4) (gn (i:=7) bw.nd)<|sc (si (aR RJ hr.u (dv 7)<|dv 6) (s1<|sr<|bq<|ac (bq<|ac ds<|ac (ix hr.u (dv 7) di) an)<|ap 5 an) s0)<|sc (bR (i:=8) bw.nd<|aU T.iV (kC T) hr<|ap 0<|ap 1<|ap 7 an)<|sc (si (AW<|twd<|twand (aR dJ hr.u (dv 5) dn)<|tw1<|cJ<|tv<|aU T.lX (nL T) hr<|ap 1<|ap 5<|ap 8 an) (s1<|sr<|bq<|ac (bq<|ac ds<|ac (ix hr.u (dv 7) di) an)<|ap 5 an) s0)<|sc (bR (i:=9) bw.nd<|aU T.dF (iA T) hr<|ap 0<|ap 1<|ap 6<|ap 5<|ap 8 an)<|sc (si (aR dJ hr.u (dv 9) dn) (s1<|sr<|bq<|ac (bq<|ac ds<|ap 9 an)<|ap 5 an) s0)<|s1<|bR (i:=5) bw.nd<|dv 8)<|sc (bR (i:=9) bw.nd<|aU T.dF (iA T) hr<|ap 0<|ap 1<|ap 6<|ap 5<|ac dn an)<|sc (si (AW<|twd<|twand (aR aK hr.u (dv 4)<|bT an)<|tw1<|aR dJ hr.u (dv 9) dn) (s1<|sr<|bq<|ac (bq<|ac ds<|ap 9 an)<|ap 5 an) s0)<|s1<|sr<|bq<|ac dn<|ap 5 an),?_};have j:=bY;refine !!!!{cs,lk,kn,rfl,X,G,λss p J Pf hp=>?_};have U:=nG G J;have s:Pe (bt kn ss):=Eb G J;obtain⟨A,hA⟩:=xO (wy:=wy) (d:=d) hg ho.pin U s;rw[<-tV hg ho.pin J hA]at q;refine{cs,ps,wy,d,p,bt kn ss,A,rfl,hg,ho,hd,aa,zH (kN G J)<|by decide,U,s,hA,λp2 Y=>?_};have s1:=(Sub.new (c:=.lst<|(bt kn ss).map ag) hp).trans<|Sub.new (c:=.lst<|A.map ag) Y;have L:((S.set p<|.lst<|(bt kn ss).map ag).set p2<|.lst<|A.map ag) p2=ϑ (.lst<|A.map ag):=aa;have H:=s1 _ _ hl;generalize (S.set p<|.lst<|(bt kn ss).map ag).set p2 (.lst<|A.map ag)=S1 at s1 L H⊢;have n:∀cn,(c_ cs ps wy A fr rows=ϐ->cn=fh fr rows)->(∀q,cn=ϑ q->Ro cs q)->∀{S'},Sub S1 S'->Fo S' (R<|.tup [BE<|c_ cs ps wy A fr rows,nV cs ps cn]):=λcn h1 h2 S' h3=>{S,s1.trans h3,q cn h1 h2};clear q hp Y hl X;have o:=hA.an;refine{λav S'=>∃cn o7 o8 o9,av=[some<|.tup<|cs.map aA,some<|cI ps wy,some d,some<|.ref lk,some<|.ref l,some<|nV cs ps cn,some<|.ref p2,o7,o8,o9]/\S'=S1/\(∀q,cn=ϑ q->Ro cs q)/\d9 cs ps wy A fr rows=ϐ/\cn=fh fr rows,?_,?_};refine !{_,H,?_};refine{Lpw S1 cs ps wy d A rows fr lk l p2,⟨fr,none,none,none,rfl,rfl,hf,rfl,rfl⟩,?_,?_,?_};rintro i av S' ⟨_,_,_,_,_,rfl,_⟩;exact H;rintro i x av S' hx ⟨cn,o7,o8,o9,rfl,rfl,g,e1,e2⟩;have hx:(rows.map ag)[i]?=some x:=hx;rw[zm]at hx;obtain⟨r,E,rfl⟩:=Option.map_eq_some_iff.mp hx;have m:=O r<|zD E;have NP:=nO E;rw[NP]at e1 e2;rw[vU]at e2;rw[jc]at e1;have a:∀f,tU cs ps wy A cn r=ϑ f->Fo S' (R<|.tup [BE<|some f,nV cs ps cn]):=λf Xu=>by rw[Xu]at e1;have e1:d9 cs ps wy A fr rows=ϑ f:=e1;have kh:rows≠[]:=λe=>(by rw[e]at E;cases E);have C:c_ cs ps wy A fr rows=ϑ f:=(qa<|by rw[List.isEmpty_iff];exact kh).trans e1;rw[C]at n;exact n cn (λe=>nomatch e) g<|.refl _
 refine !!{p2,A.map ag,K5 r,rfl,L,Hv m.1 m.2 o.rg.1 o.ky,?_};rw[qb rfl,show(A.map ag).any (K5 r)=Uk A r by rw[List.any_map];rfl];unfold tU at a e1;cases N:Uk A r with|false=>rw[N]at a;exact{_,rfl,jh (!!{j,_,rfl,j,a _ rfl}) rfl}|true=>rw[N,qb rfl]at a e1;refine{_,rfl,bI (!!!{cs,ps,wy,r,rfl,hg,ho.pin,ho.len,m.1,?_}) rfl};refine{λb v=>b=(!gs cs ps wy cn r)/\v=S',?_,?_};(cases cn with|none=>exact (!!⟨aL ⟨rfl,rfl⟩⟩)|some u=>exact !!⟨cj !!!⟨xS hg ho (g u rfl) m !⟨rfl,rfl⟩⟩⟩);rintro b v ⟨rfl,rfl⟩;refine bC (λh=>?_) λh=>?_;rw[nt h]at a;exact !!{j,_,rfl,j,a _ rfl};have h:=nf h;rw[h,qb rfl,NT hg ho.pin o g ((xQ (λy Q=>{o.rg.1 y Q,o.ky y Q}) m).mp N) h]at a e1;refine !!!!!{cs,ps,wy,p2,A,cn,some r,rfl,hg,ho,L,o,g,(λq e=>by cases e;exact m),?_};cases hk:K7 cs ps wy A cn (some r) with|some z=>rw[hk]at a;exact (!!⟨cj !{j,_,rfl,j,a _ rfl}⟩)|none=>rw[hk]at e1;exact !!⟨aL !{some r,_,_,_,rfl,rfl,(λq e=>by cases e;exact m),e1,e2}⟩
 rintro av S' ⟨cn,o7,o8,o9,rfl,rfl,g,e1,e2⟩;have el:rows.drop (rows.map ag).length=[]:=yB (by rw[zb];exact zk _);have e1:d9 cs ps wy A fr rows=d9 cs ps wy A cn (rows.drop (rows.map ag).length):=e1;have e2:fh fr rows=fh cn (rows.drop (rows.map ag).length):=e2;rw[el]at e1 e2;exact fo {cn,_,_,_,rfl,rfl,g,e1,e2.symm};rintro av S' ⟨cn,o7,o8,o9,rfl,rfl,g,e1,e2⟩;refine !!!!{cs,ps,wy,p2,A,cn,none,rfl,hg,ho,L,o,g,(λ_ e=>nomatch e),?_};refine{λb v=>b=(rows.isEmpty&&(K7 cs ps wy A cn none).isSome)/\Sub S' v,?_,?_};refine !{lZ,λpe I=>eq_nil ((Sub.new I) _ _ H) aa (λx hx=>?_) !⟨?_⟩};obtain⟨r,m,rfl⟩:=zh.mp hx;exact D1 (O r m).2 (O r m).1;rw[show(rows.map ag).isEmpty=rows.isEmpty by cases rows<;>rfl];refine bC (λh=>?_) λh=>?_;rw[h];cases K7 cs ps wy A cn none with|none=>exact (!!{rfl,.new I})|some z=>exact !!{rfl,.new I}
 rw[h];exact{rfl,.new I};rintro b v ⟨rfl,sb⟩;cases B:rows.isEmpty with|false=>have C:c_ cs ps wy A fr rows=ϐ:=(qa<|by rw[B];exact zd).trans e1;rw[C]at n;exact bI (!{j,n cn (λ_=>e2) g sb}) rfl|true=>have M:=List.isEmpty_iff.mp B;subst M;have e2:cn=fr:=e2;subst e2;have C:c_ cs ps wy A cn []=(K7 cs ps wy A cn none).map λz=>(("missed": ρ),some z):=(qb rfl).trans<|NS hg ho.pin o g;rw[C]at n;cases hk:K7 cs ps wy A cn none with|some z=>rw[hk]at n;exact jh (!{j,_,rfl,j,n cn (λe=>nomatch e) g sb}) rfl|none=>rw[hk]at n;exact bI (!{j,n cn (λ_=>rfl) g sb}) rfl
structure Fm(S0:ak)(fs:δ (ε×Ce))(S:ak):η where
 fa:∀x∈fs,S x.1=ϑ x.2/\S0 x.1=ϐ
 nd:(fs.map Prod.fst).Nodup
 sb:Sub S0 S
section
variable{S0 S:ak}{fs:δ (ε×Ce)}
theorem Fm.at(h:Fm S0 fs S)(i:π)(e:fs[i]?=some (b,c)):S b=ϑ c:=(h.fa _<|zD e).1
theorem Fm.sub(h:Fm S0 fs S)(b:Sub S S'):Fm S0 fs S':={λx hx=>{b _ _ (h.fa x hx).1,(h.fa x hx).2},h.nd,h.sb.trans b}
theorem Fm.out(h:Fm S0 fs S)(hp:S p=ϐ):S0 p=ϐ:=cH h.sb hp
theorem Fm.new(h:Fm S0 fs S)(hp:S p=ϐ)(c:Ce):Fm S0 ((p,c)::fs) (S.set p c):=by have h1:=h.sub<|.new (c:=c) hp;refine{λx hx=>?_,yr.mpr {λm=>?_,h.nd},h1.sb};rcases zj.mp hx with rfl|hx;exact{aa,h.out hp};exact h1.fa x hx;obtain⟨x,hx,e⟩:=zh.mp m;have:=(h.fa x hx).1;rw[e,hp]at this;cases this
theorem Fm.grow(h:Fm S0 fs S)(hp:S p=ϐ)(c:Ce):Fm (S0.set p c) fs (S.set p c):=by refine{λx hx=>?_,h.nd,cO h.sb};obtain⟨h1,h2⟩:=h.fa x hx;have n:=gM h1 hp;exact{(ae n).trans h1,(ae n).trans h2}
theorem Fm.put(h:Fm S0 fs S)(i:π)(e:fs[i]?=some (b,c))(d:Ce):Fm S0 (fs.set i (b,d)) (S.set b d):=by
 have l:=h.fa _<|zD e;have hi:=(ze.mp e).1;have n:(fs.set i (b,d)).map Prod.fst=fs.map Prod.fst:=by refine List.ext_getElem? λj=>?_;rw[zm,zm];by_cases q:j=i;subst q;rw[List.getElem?_set_self hi,e];rfl;rw[List.getElem?_set_ne<|Ne.symm q]
 refine{λx hx=>?_,by rw[n];exact h.nd,λx c hx=>(ae<|gM hx l.2).trans<|h.sb x c hx};obtain⟨j,a⟩:=yq hx;by_cases q:j=i;subst q;rw[List.getElem?_set_self hi]at a;cases a;exact⟨aa,l.2⟩;rw[List.getElem?_set_ne<|Ne.symm q]at a;have g:=h.fa x<|zD a;refine{(ae λe2=>q ?_).trans g.1,g.2};have t:(fs.map Prod.fst)[j]?=some x.1:=by rw[zm,a];rfl
 have p:(fs.map Prod.fst)[i]?=some b:=by rw[zm,e];rfl
 obtain⟨r,s⟩:=ze.mp t;obtain⟨o,m⟩:=ze.mp p;exact(List.getElem_inj h.nd (h₀:=r) (h₁:=o)).mp<|by rw[s,m];exact e2
end
theorem K8(h:GD KS cs kn d)(k:KnD kn d eZ):∃e,(∀S n,BB cs S n d e)/\(∀rows,e≠.pg rows)/\stepK kn e=ϑ eZ:=by
 rcases h with⟨z,ws,hz,hw,hn,rfl⟩|⟨z,ws,hz,hw,hn,rfl⟩|⟨z,hz,hn,rfl⟩;refine{.put z ws,λ_ _=>.put hz hw,λ_ e=>(nomatch e),?_};have a:eZ=ir kn z ws:=by rcases k with⟨n,y,vs,_,e1,e2⟩|⟨y,_,e1,_⟩<;>cases e1;exact e2
 rw[a];exact qa (by rw[hn];exact zd);refine{.chg z ws,λ_ _=>.chg hz hw,λ_ e=>(nomatch e),?_};have a:eZ=ir kn z ws:=by rcases k with⟨n,y,vs,_,e1,e2⟩|⟨y,_,e1,_⟩<;>cases e1;exact e2
 rw[a];exact qb hn;refine{.tk z,λ_ _=>.tk hz,λ_ e=>(nomatch e),?_};have a:eZ=pq kn z:=by rcases k with⟨n,y,vs,_,e1,e2⟩|⟨y,_,e1,e2⟩<;>cases e1;exact e2
 rw[a];exact qb hn
section
variable{cs:δ (ρ×ρ)}{ps:δ Part}{wy:ρ}{A:δ Row}(hg:Gd cs)(hp:Pin cs ps)(hA:An cs ps wy A)
include hg hp hA
theorem K9(e:A[m]?=some r):rE cs ps wy A (rF cs ps<|some r)=m+1:=by have ho:=hA.ro e;have h1:=K0 (wy:=wy) hg hp hA e;have h2:=SA (cs:=cs) (ps:=ps) (wy:=wy) (A:=A)<|rF cs ps<|some r;rcases y9 (m+1) A.length with h|h;have a:=List.pairwise_iff_getElem.mp (hA.lex hg hp) m (m+1) (ze.mp e).1 h (by lia);rw[(ze.mp e).2]at a;have:=(ja (wy:=wy) hg hp hA (fr:=some r) (λq h=>by cases h;exact ho)<|zf h).mp a;lia;lia
theorem Fz:∀{n m:π}{fr:θ Row},(∀q,fr=ϑ q->Ro cs q)->rE cs ps wy A (rF cs ps fr)=m->d9 cs ps wy A fr ((A.drop m).take n)=ϐ
 |0,m,fr,_,_=>by rw[List.take_zero];rfl
 |n+1,m,fr,hf,hm=>by
  rcases y9 m A.length with h|h;have e:=zf h;rw[yc h,List.take_succ_cons,jc];generalize A[m]=r at e;have ho:=hA.ro e;have hr:tU cs ps wy A fr r=ϐ:=by unfold tU iy Ht;rw[qb<|(xQ (λy a=>{hA.rg.1 y a,hA.ky y a}) ho).mpr<|zD e,qb<|jb.mpr<|(ja hg hp hA hf e).mpr<|Nat.le_of_eq hm,hm,e];exact qb rfl
  rw[hr];exact Fz (λq h=>by cases h;exact ho)<|K9 hg hp hA e;rw[yB h,List.take_nil];rfl
theorem NU(hn:1<=n)(hf:∀q,fr=ϑ q->Ro cs q):c_ cs ps wy A fr ((A.filter<|gs cs ps wy fr).take n)=ϐ:=by
 have key:A.filter (gs cs ps wy fr)=A.drop (rE cs ps wy A<|rF cs ps fr):=by have gen:∀(l:δ Row)(n:π),(∀i a,l[i]?=some a->(gs cs ps wy fr a=ϱ↔n<=i))->l.filter (gs cs ps wy fr)=l.drop n:=(by intro l;induction l with|nil=>intro n _;rw[List.drop_nil];rfl|cons x l c=>intro n h;cases n with|zero=>(rw[y3];exact List.filter_eq_self.mpr λa ha=>by obtain⟨i,hi⟩:=yq ha;exact(h i a hi).mpr<|yb _)|succ n=>have h0:=h 0 x rfl;rw[List.drop_succ_cons,List.filter_cons_of_neg λz=>by have:=h0.mp z;lia];exact c n λi a e=>by have:=h (i+1) a e;rw[this];lia);exact gen A _ λi a e=>jb.trans<|ja hg hp hA hf e
 rw[key];unfold c_;cases d:((A.drop<|rE cs ps wy A<|rF cs ps fr).take n).isEmpty with|false=>rw[qa zd];exact Fz hg hp hA hf rfl|true=>rw[qb rfl];have h1:=List.isEmpty_iff.mp d;have h2:(A.drop<|rE cs ps wy A<|rF cs ps fr).length=0:=(by have:=congrArg List.length h1;rw[zE]at this;show _=0;have g:([]:δ Row).length=0:=rfl;lia);rw[zS]at h2;unfold Ht iy;rw[List.getElem?_eq_none<|by lia];exact qb rfl
end
def Ec(cs:δ<|ρ×ρ)(ps:δ Part)(wy:ρ)(d:D)(es:δ BA)(kn:Kn)(fr:θ Row):Prop:=∀tl,bH cs ps wy d [] none 0 (es++tl)=bH cs ps wy d kn fr es.length tl
theorem Ec.JV(h:Ec cs ps wy d es kn fr)(hp:∀rows,e≠.pg rows)(k:stepK kn e=ϑ eZ):Ec cs ps wy d (es++[e]) eZ fr:=λtl=>by rw[List.append_assoc,h,List.singleton_append,kO hp,k,zo];rfl
theorem Ec.abT(h:Ec cs ps wy d es kn fr)(k:c_ cs ps wy (nN cs ps wy d kn) fr rows=ϐ):Ec cs ps wy d (es++[.pg rows]) kn (fh fr rows):=λtl=>by rw[List.append_assoc,h,List.singleton_append,nU,k,zo];rfl
theorem SI{r:Row}{rows:δ Row}(e:rows.getLast?=some r):gI (rows.map ag) (-1)=ϑ (ag r):=by obtain⟨ys,rfl⟩:=List.getLast?_eq_some_iff.mp e;rw[zI];exact NG _ _
noncomputable def btk(cs:δ<|ρ×ρ)(ps:δ Part)(wy:ρ)(fr:θ Row):D->χ|.tup [.str k,.tup ws]=>gs cs ps wy fr (k,ws)|_=>false
inductive t5 (ds:δ D) (S:ak) (R:KD) (Z:KX):η where
 |mk (cs ps wy d l) (ms:δ ν) (_:ds=[.tup<|cs.map aA,cI ps wy,d,.ref l]) (_:Gd cs) (_:Og cs ps wy) (_:Sg cs 7 d) (_:S l=ϑ (.lst<|ms.map D.int)) (_:ms.length<=40)
  (_:∀S' p xs es,S' p=ϑ (.lst xs)->Sub S S'->lh cs S' 60 xs es->es.length<=40->bH cs ps wy d [] none 0 es=ϐ->R (.ref p) S'):t5 ds S R Z
inductive Evw (S:ak) (cs:δ<|ρ×ρ) (ps:δ Part) (wy:ρ) (d:D) (l lk le:ε) (i:π) (av:SD) (S':ak):η where
 |mk (S0:ak) (kn:Kn) (fr:θ Row) (xs:δ D) (es:δ BA) (o7 o8 o9 YW YX:θ D) (_:av=[some<|.tup<|cs.map aA,some<|cI ps wy,some d,some<|.ref l,some<|.ref lk,some<|nV cs ps fr,some<|.ref le,o7,o8,o9,YW,YX])
  (_:Fm S0 [(le,.lst xs),(lk,.cM<|d_ kn)] S') (_:Sub S S0) (_:KI cs kn) (_:∀q,fr=ϑ q->Ro cs q) (_:lh cs S0 60 xs es) (_:Ec cs ps wy d es kn fr) (_:es.length=i):Evw S cs ps wy d l lk le i av S'
theorem Hx(T:Txt w K mg t):Ok P w base T.sS 12 t5:=by
 refine T.sS.F.b_ bB ?_;rintro _ _ _ _ _ _ _ S R Z hr ⟨cs,ps,wy,d,l,ms,e0,hg,ho,hd,hl,a3,q⟩;subst e0;refine{_,(sc (bR (i:=4) bB.nd Q6)<|sc (bR (i:=5) bB.nd dn)<|sc (bR (i:=6) bB.nd<|bT an)<|sc (qB<|AG (il<|dv 3) (gn (i:=7) bB.nd)<|sc (bR (i:=8) bB.nd<|aU T.gD (iq T) hr<|ap 7<|ac di an)<|s1<|si (aR oz hr.u (bo bh hr.u (ix hr.u (dv 8) di) di) di) (s1<|se<|bm zQ z0 ya cA (dv 6)<|ac (aU T.Dd (KZ T) hr<|ap 0<|ap 4<|ac (bo dh hr.u (dv 7) di) an) an)<|sc (bR (i:=9) bB.nd<|aU T.rn (vS T) hr<|ap 0<|ap 1<|ap 2<|ac (aU T.w_ (Bz T) hr<|ap 4 an) an)<|sc (uA (N:=["_law_row","_law_fore","_law_order_here","_law_columns_here"]) (src:=[none,some 5,some 1,some 0]) 10 bB.nd (lR C6) (il<|dv 9) (if1<|AW<|twd<|twor (aR gq hr.u (dv 1) dn)<|tw1<|tv<|aU T.lX (nL T) hr<|ap 2<|ap 1<|ac (aU T.iV (kC T) hr<|ap 3<|ap 2<|ap 0 an) an)<|dv 0)<|sc (bR (i:=11) bB.nd<|oI (dv 10) o0<|o1<|xZ<|ix hr.u (bT<|ac di<|ac di<|ac di<|ac di an)<|bo bh hr.u (ix hr.u (dv 8) di) di)<|sc (se<|bm zQ z0 ya cA (dv 6)<|ac (bq<|ac ds<|ap 11 an) an)<|s1<|si (aR g9 hr.u (dv 11)<|bT an) (s1<|bR (i:=5) bB.nd<|aU T.iV (kC T) hr<|ap 0<|ap 1<|ac (ix hr.u (dv 11)<|IY di) an) s0)<|s1<|sr<|dv 6),?_};have hp:=ho.pin;refine λlk MR=>{lZ,λle U=>?_};have SJ:Fm S [(le,.lst []),(lk,.cM<|d_ [])] ((S.set lk<|.cM []).set le<|.lst []):=(Fm.new (fs:=[]) {λ_ h=>(nomatch h),.nil,.refl S} MR<|.cM []).new U _;generalize (S.set lk<|.cM []).set le (.lst [])=S1 at SJ⊢;clear MR U;refine{λav S'=>∃i,i<=40/\Evw S cs ps wy d l lk le i av S',?_,?_};refine !{_,SJ.sb _ _ hl,?_};refine{Evw S cs ps wy d l lk le,{S,[],none,[],[],none,none,none,none,none,rfl,SJ,.refl S,KI.nil cs,(λ_ e=>nomatch e),.nil,λtl=>rfl,rfl},?_,?_,?_};rintro i av S' ⟨S0,kn,fr,xs,es,o7,o8,o9,YW,YX,rfl,g,sb,a,hf,I,K_,hi⟩;exact(sb.trans g.sb) _ _ hl;rintro i x av S' hx ⟨S0,kn,fr,xs,es,o7,o8,o9,YW,YX,rfl,g,sb,a,hf,I,K_,hi⟩;have hx:(ms.map D.int)[i]?=some x:=hx;rw[zm]at hx;obtain⟨c,ec,rfl⟩:=Option.map_eq_some_iff.mp hx;have a7:=(ze.mp ec).1;have Hf:xs.length=es.length:=yH I;refine !{c,3,rfl,by decide,λys py Xb a4 a2=>?_};have M9:=g.sub<|.new (c:=.lst<|ys.map D.int) a2;have hY:(S'.set py<|.lst<|ys.map D.int) py=ϑ (.lst<|ys.map D.int):=aa;generalize S'.set py (.lst<|ys.map D.int)=S2 at M9 hY⊢;clear g a2;have at_:∀k:π,k<3->∃x:ν,gI (ys.map D.int) ((k:π):ν)=ϑ (.int x)/\0<=x:=λk hk=>kl (by lia) (by rw[zb];lia) a4;obtain⟨y0,e0,_⟩:=at_ 0 (by decide);obtain⟨y1,e1,_⟩:=at_ 1 (by decide);refine !{_,_,hY,e0,by decide,_,rfl,bC (λ_=>?_) λ_=>?_};refine{_,rfl,{rfl,_,M9.at 0 rfl},_,rfl,_,rfl,_,rfl,{by decide,by trivial},cs,lk,kn,_,rfl,hg,M9.at 1 rfl,a,λde eZ a8 a6 a5=>?_};have C:Fm S0 [(le,.lst xs),(lk,.cM<|d_ eZ)] (S2.set lk<|.cM<|d_ eZ):=M9.put 1 rfl _;generalize S2.set lk (.cM<|d_ eZ)=O at C⊢;obtain⟨e,he,hp,lO⟩:=K8 a8 a6;refine{le,_,_,rfl,rfl,C.at 0 rfl,bg<|by lia,?_};have M:Fm S0 [(le,.lst<|xs++[de]),(lk,.cM<|d_ eZ)] (O.set le<|.lst<|xs++[de]):=C.put 0 rfl _;exact{S0,eZ,fr,xs++[de],es++[e],_,_,_,_,_,rfl,M,sb,a5,hf,I.snoc<|he S0 60,K_.JV hp lO,by rw[zo,hi];rfl};have Lw:∀ss:δ ρ,ss.Perm (kn.map (·.1))->Pe (bt kn ss):=λss j=>Eb a j;refine !!!!{cs,lk,kn,rfl,M9.at 1 rfl,a,λss p j Pf fC=>?_};have NK:=nG a j;obtain⟨A,hA⟩:=xO (wy:=wy) (d:=d) hg hp NK<|Lw ss j;refine{cs,ps,wy,d,p,bt kn ss,A,rfl,hg,ho,hd,aa,zH (kN a j)<|by decide,NK,Lw ss j,hA,λp2 du=>?_};have v:=(Sub.new (c:=.lst<|(bt kn ss).map ag) fC).trans<|Sub.new (c:=.lst<|A.map ag) du;have C:=M9.sub v;have E:=v _ _ hY;have Ea:((S2.set p<|.lst<|(bt kn ss).map ag).set p2<|.lst<|A.map ag) p2=ϑ (.lst<|A.map ag):=aa;generalize (S2.set p<|.lst<|(bt kn ss).map ag).set p2 (.lst<|A.map ag)=O at C E Ea⊢;clear M9 hY fC du v;have a9:A.length<=60:=by rw[hA.pm.length_eq];exact zH (yE _ _)<|kN a j
 refine !{_,Ea,?_};refine eP (btk cs ps wy fr) id Ea (by show(A.map ag).length<=_;rw[zb];lia) (λy hy Q Q' hQ DF=>?_) λp3 lI=>?_;obtain⟨r,dH,rfl⟩:=zh.mp hy;have qu:Ro cs r:={hA.an.rg.1 r dH,hA.an.ky r dH};refine{λb S9=>b=gs cs ps wy fr r/\S9=O,?_,?_};cases fr with|none=>exact (!!⟨cj ⟨rfl,rfl⟩⟩)|some u=>exact !!⟨aL !!!!!{cs,ps,wy,r,rfl,hg,hp,ho.len,qu.1,xS hg ho (hf u rfl) qu !⟨rfl,rfl⟩}⟩
 rintro b S9 ⟨rfl,rfl⟩;exact bC (λh=>!⟨hQ h⟩) λh=>DF h;have eB:(({A.map ag,λS=>qX S (.ref p2)<|A.map ag}:n8).xs.filter<|btk cs ps wy fr).map id=(A.filter<|gs cs ps wy fr).map ag:=by show((A.map ag).filter<|btk cs ps wy fr).map id=_;rw[List.map_id,List.filter_map];rfl
 rw[eB];have Xw:∀r∈A.filter (gs cs ps wy fr),Ro cs r:=λr hr=>{hA.an.rg.1 r (ye.mp hr).1,hA.an.ky r (ye.mp hr).1};have a0:∀{n:π},1<=n->c_ cs ps wy (nN cs ps wy d kn) fr ((A.filter<|gs cs ps wy fr).take n)=ϐ:=λhn=>by rw[<-tV hg hp j hA];exact NU hg hp hA.an hn hf
 generalize A.filter (gs cs ps wy fr)=L at Xw a0⊢;have M:=C.sub<|.new (c:=.lst<|L.map ag) lI;have H:=(Sub.new (c:=.lst<|L.map ag) lI) _ _ E;have G:(O.set p3<|.lst<|L.map ag) p3=ϑ (.lst<|L.map ag):=aa;generalize O.set p3 (.lst<|L.map ag)=S4 at M H G⊢;clear C E lI Ea;refine !{sX,λp4 Bo=>!{_,_,(Sub.new Bo) _ _ H,e1,by decide,cz (zV _<|by decide) (zU _<|by decide) Bo λdn YY=>?_}};obtain⟨n,rfl,Lu,b0⟩:∃n:π,dn=.int n/\1<=n/\n<=9:=by have YY:dn∈[D.int 1,.int 2,.int 3,.int 9]:=YY;simp only[zj,zN,or_false]at YY;rcases YY with h|h|h|h;exact{1,h,by decide,by decide};exact{2,h,by decide,by decide};exact{3,h,by decide,by decide};exact{9,h,by decide,by decide}
 refine !{_,G,λm uk=>?_};rw[show cP (L.map ag) none (some ((n:π):ν))=(L.take n).map ag by unfold cP;rw[HT.sIx_nat,HT.sIx_none,y3,Nat.sub_zero,<-yY,zb];exact congrArg _<|List.take_eq_take_iff.mpr<|by lia];have a1:(L.take n).length<=60:=by rw[zE];lia
 have J:∀r∈L.take n,Ro cs r:=λr hr=>Xw r<|List.mem_of_mem_take hr;have Ue:=a0 Lu;generalize L.take n=B at a1 J Ue⊢;have Nj:=M.out uk;have Y:=M.grow uk<|.lst<|B.map ag;have z:(S0.set m<|.lst<|B.map ag) m=ϑ (.lst<|B.map ag):=aa;have o:=sb.trans<|.new (c:=.lst<|B.map ag) Nj;have Xy:=I.sub (.new (c:=.lst<|B.map ag) Nj)<|zk _;generalize S0.set m (.lst<|B.map ag)=T0 at Y z o Xy;generalize S4.set m (.lst<|B.map ag)=S5 at Y⊢;clear M Nj uk H G;refine{_,rfl,{rfl,_,Y.at 0 rfl},_,rfl,bY,le,_,_,rfl,rfl,Y.at 0 rfl,bg<|by lia,?_};have s:Fm T0 [(le,.lst<|xs++[.tup [.str "page",.ref m]]),(lk,.cM<|d_ kn)] (S5.set le<|.lst<|xs++[.tup [.str "page",.ref m]]):=Y.put 0 rfl _;generalize S5.set le (.lst<|xs++[.tup [.str "page",.ref m]])=S6 at s⊢;have BF:lh cs T0 60 (xs++[.tup [.str "page",.ref m]]) (es++[.pg B]):=Xy.snoc<|.pg z J a1;have FA:=K_.abT Ue;have AL:=s.sb _ _ z;have YZ:∀q,fh fr B=ϑ q->Ro cs q:=λq h=>by unfold fh at h;cases e:B.getLast? with|none=>rw[e]at h;exact hf q h|some r=>rw[e]at h;cases h;exact J _<|List.mem_of_getLast? e
 refine !{lZ,λpe x6=>NA ((Sub.new x6) _ _ AL) aa (λx hx=>?_) !⟨?_⟩};obtain⟨r,dH,rfl⟩:=zh.mp hx;exact D1 (J r dH).2 (J r dH).1;rw[show(B.map ag).isEmpty=B.isEmpty by cases B<;>rfl];have X:=s.sub<|.new (c:=.lst []) x6;have Xz:(es++[BA.pg B]).length=i+1:=by rw[zo,hi];rfl
 refine bC (λh=>?_) λh=>?_;cases e:B.getLast? with|none=>(rw[List.getLast?_eq_none_iff.mp e]at h;cases h)|some r=>have qu:=J r<|List.mem_of_getLast? e;have el:fh fr B=ϑ r:=(by unfold fh;rw[e]);rw[el]at YZ FA;exact !!!!{_,_,(Sub.new x6) _ _ AL,SI e,cs,ps,wy,r,rfl,hg,hp,ho.len,qu.1,T0,kn,some r,_,_,_,_,_,_,_,rfl,X,o,a,YZ,BF,FA,Xz}
 have hB:B=[]:=by cases B<;>first|rfl|cases h
 have el:fh fr B=fr:=by rw[hB];rfl
 rw[el]at YZ FA;exact{T0,kn,fr,_,_,_,_,_,_,_,rfl,X,o,a,YZ,BF,FA,Xz};rintro av S' h;exact fo {_,by show(ms.map D.int).length<=40;rw[zb];exact a3,h};rintro av S' ⟨i,hi,⟨S0,kn,fr,xs,es,o7,o8,o9,YW,YX,rfl,g,sb,a,hf,I,K_,a7⟩⟩;have hw:=K_ [];rw[List.append_nil]at hw;exact{_,rfl,fo<|q S' le xs es (g.at 0 rfl) (sb.trans g.sb) (I.sub g.sb<|zk _) (by lia)<|hw.trans<|by unfold bH;rfl}
inductive vV (ds:δ D) (S:ak) (R:KD) (Z:KX):η where
 |mk (cs lk kn eZ de e n) (_:ds=[.ref lk,de]) (_:S lk=ϑ (.cM<|d_ kn)) (_:kn.length<=100) (_:BB cs S n de e) (_:stepK kn e=ϑ eZ) (_:R .ay<|S.set lk<|.cM<|d_ eZ)
set_option tactic.hygienic true in
theorem La(T:Txt w K mg t):Ok P w base T.xa 1 vV:=by refine T.xa.F.b_ Dn ?_;rintro _ _ _ _ _ _ _ S R Z hr ⟨cs,lk,kn,eZ,de,e,n,c,hk,hn,g,a,q⟩;subst c;refine{_,(s1<|si (aR aK hr.u (ix hr.u (dv 1) di) ds) (s1<|se<|mp1 (dv 0)<|ix hr.u (dv 1) di)<|s1<|sd hr.u (dv 0) (ix hr.u (dv 1) di)<|ix hr.u (dv 1) di),?_};have hl:(d_ kn).length<sizeLine:=bg (by unfold d_;rw[zb];lia);cases g with|@put z ws hz hw=>(have a:(if (eG kn z).isSome=ϱ then none else some (ir kn z ws))=ϑ eZ:=a;split at a;cases a;cases a;refine !!!⟨bI !!!!!{lk,d_ kn,.inr z,rfl,hk,rfl,hl,?_}⟩;rw[xw];exact fo q)|@chg z ws hz hw=>(have a:(if (eG kn z).isSome=ϱ then some (ir kn z ws) else none)=ϑ eZ:=a;split at a;cases a;refine !!!⟨bI !!!!!{lk,d_ kn,.inr z,rfl,hk,rfl,hl,?_}⟩;rw[xw];exact fo q;cases a)|@tk z hz=>(have a:(if (eG kn z).isSome=ϱ then some (pq kn z) else none)=ϑ eZ:=a;split at a;(case isTrue h=>cases a;obtain⟨ws,d⟩:=Option.isSome_iff_exists.mp h;refine (!!!⟨jh !{lk,d_ kn,rfl,hk,_,rfl,_,rfl,d_ kn,.inr z,.tup ws,hk,rfl,by rw[km,d];rfl,?_}⟩);rw[J5];exact fo q);case isFalse=>cases a)|pg _ _ _=>cases a
inductive FC (ds:δ D) (S:ak) (R:KD) (Z:KX):η where
 |mk (cs lk kn de e n) (_:ds=[.ref lk,de]) (_:S lk=ϑ (.cM<|d_ kn)) (_:BB cs S n de e) (_:∀rows,e≠.pg rows) (_:R (.bl (stepK kn e).isSome) S)
theorem SM(T:Txt w K mg t):Ok P w base T.JR 1 FC:=by
 refine T.JR.F.b_ JT ?_;rintro _ _ _ _ _ _ _ S R Z hr ⟨cs,lk,kn,de,e,n,c,hk,d,hp,q⟩;subst c;refine{_,(s1<|sr<|cm g9 hr.u (cm uy hr.u (ix hr.u (dv 1) di)<|dv 0)<|cm aK hr.u (ix hr.u (dv 1) di) ds),?_};have a:∀z,(bN (d_ kn)<|.inr z).isSome=(eG kn z).isSome:=λz=>by rw[km];cases eG kn z<;>rfl
 cases d with|@put z ws hz hw=>(have q:R (.bl (if (eG kn z).isSome=ϱ then (none:θ Kn) else some (ir kn z ws)).isSome) S:=q;refine !!!⟨.inr {d_ kn,.inr z,hk,rfl,_,rfl,_,rfl,kx ?_}⟩;show Fo S (R<|.bl<|!((bN (d_ kn)<|.inr z).isSome==ω (("put": ρ) ="put")));rw[a,zx rfl];cases h:(eG kn z).isSome<;>rw[h]at q<;>exact fo q)|@chg z ws hz hw=>(have q:R (.bl (if (eG kn z).isSome=ϱ then some (ir kn z ws) else (none:θ Kn)).isSome) S:=q;refine !!!⟨.inr {d_ kn,.inr z,hk,rfl,_,rfl,_,rfl,kx ?_}⟩;show Fo S (R<|.bl<|!((bN (d_ kn)<|.inr z).isSome==ω (("change": ρ) ="put")));rw[a,zw<|by decide];cases h:(eG kn z).isSome<;>rw[h]at q<;>exact fo q)|@tk z hz=>(have q:R (.bl (if (eG kn z).isSome=ϱ then some (pq kn z) else (none:θ Kn)).isSome) S:=q;refine !!!⟨.inr {d_ kn,.inr z,hk,rfl,_,rfl,_,rfl,kx ?_}⟩;show Fo S (R<|.bl<|!((bN (d_ kn)<|.inr z).isSome==ω (("take": ρ) ="put")));rw[a,zw<|by decide];cases h:(eG kn z).isSome<;>rw[h]at q<;>exact fo q)|pg _ _ _=>exact absurd rfl<|hp _
inductive FD (ds:δ D) (S:ak) (R:KD) (Z:KX):η where
 |mk (cs ps wy d l xs es n) (_:ds=[.tup<|cs.map aA,cI ps wy,d,.ref l]) (_:Gd cs) (_:Og cs ps wy) (_:Sg cs 7 d) (_:S l=ϑ (.lst xs)) (_:lh cs S n xs es) (_:R (BD<|bH cs ps wy d [] none 0 es) S)
inductive Duw (S:ak) (cs:δ<|ρ×ρ) (ps:δ Part) (wy:ρ) (d:D) (l lk:ε) (es:δ BA) (i:π) (av:SD) (S':ak):η where
 |mk (kn:Kn) (fr:θ Row) (o6 o7 o8:θ D) (_:av=[some<|.tup<|cs.map aA,some<|cI ps wy,some d,some<|.ref l,some<|.ref lk,some<|nV cs ps fr,o6,o7,o8])
  (_:Fm S [(lk,.cM<|d_ kn)] S') (_:KI cs kn) (_:∀q,fr=ϑ q->Ro cs q) (_:bH cs ps wy d [] none 0 es=bH cs ps wy d kn fr i (es.drop i)):Duw S cs ps wy d l lk es i av S'
theorem SN(T:Txt w K mg t):Ok P w base T.JS 13 FD:=by
 refine T.JS.F.b_ fV ?_;rintro _ _ _ _ _ _ _ S R Z hr ⟨cs,ps,wy,d,l,xs,es,n,H,hg,ho,hd,hl,v,q⟩;subst H;refine{_,(sc (bR (i:=4) fV.nd Q6)<|sc (bR (i:=5) fV.nd dn)<|sc (qB<|AG (ien T.pS<|ap 3 an) (gt (n:=2)<|gc (gn (i:=6) fV.nd)<|gc (gn (i:=7) fV.nd) g0)<|s1<|si (AW<|aR g9 hr.u (ix hr.u (dv 7) di) ds) (sc (si (cJ<|tv<|aU T.JR (SM T) hr<|ap 4<|ap 7 an) (s1<|sr<|bq<|ac ds<|ap 6 an) s0)<|s1<|se<|aU T.xa (La T) hr<|ap 4<|ap 7 an)<|sc (sa (aU T.iW (tZ T) hr<|ap 0<|ap 1<|ap 2<|ap 4<|ac (ix hr.u (dv 7) di)<|ap 5 an)<|gt (n:=2)<|gc (gn (i:=8) fV.nd)<|gc (gn (i:=5) fV.nd) g0)<|s1<|si (aR dJ hr.u (dv 8) dn) (s1<|sr<|bq<|ac (ix hr.u (dv 8) di)<|ap 6<|ac (ix hr.u (dv 8) di) an) s0)<|s1<|sr dn),?_};have I:xs.length=es.length:=yH v;refine λlk G=>?_;have o:Fm S [(lk,.cM<|d_ [])] (S.set lk<|.cM []):=Fm.new (fs:=[]) {λ_ h=>(nomatch h),.nil,.refl S} G<|.cM [];generalize S.set lk (.cM [])=S1 at o⊢;refine{λav S'=>∃o4 o5 o6 o7 o8,av=[some<|.tup<|cs.map aA,some<|cI ps wy,some d,some<|.ref l,o4,o5,o6,o7,o8]/\bH cs ps wy d [] none 0 es=ϐ/\Sub S S',?_,?_};refine !{_,_,rfl,o.sb _ _ hl,?_};refine{Duw S cs ps wy d l lk es,{[],none,none,none,none,rfl,o,KI.nil cs,(λ_ e=>nomatch e),rfl},?_,?_,?_};rintro i av S' ⟨kn,fr,o6,o7,o8,rfl,a,c,hf,hw⟩;exact a.sb _ _ hl;rintro i x av S' hx ⟨kn,fr,o6,o7,o8,rfl,a,c,hf,hw⟩;obtain⟨de,ex,rfl⟩:=wI hx;obtain⟨e,z,s⟩:=tY v ex;have E:=nO z;rw[E]at hw;have p:=s.sub a.sb<|zk n;refine !{rfl,_,_,rfl,_,_,rfl,rfl,?_};refine{λb S1=>b=!NQ e/\S1=S',?_,?_};cases s<;>exact !!!⟨rfl,rfl⟩;rintro b S1 ⟨rfl,rfl⟩;by_cases y:∃rows,e=.pg rows;obtain⟨rows,rfl⟩:=y;obtain⟨l2,rfl,C,B⟩:∃l2,de=.tup [.str "page",.ref l2]/\S1 l2=ϑ (.lst<|rows.map ag)/\∀r∈rows,Ro cs r:=by cases p with|pg hl ho _=>exact{_,rfl,hl,ho}
 rw[nU]at hw;refine bI (!!!!!!!{cs,ps,wy,d,lk,kn,l2,rows,fr,rfl,hg,ho,hd,a.at 0 rfl,c,C,B,hf,λcn h1 h2=>!{rfl,_,_,rfl,_,_,rfl,rfl,?_}}) rfl;cases j:c_ cs ps wy (nN cs ps wy d kn) fr rows with|some f=>rw[j]at hw;rw[hw]at q;exact (!!⟨cj !!!!!⟨uG,S,a.sb,q⟩⟩)|none=>rw[j,<-h1 j]at hw;exact !!⟨aL {kn,cn,_,_,_,rfl,a,c,h2,hw}⟩
 have m:∀rows,e≠.pg rows:=λrows h=>y ⟨rows,h⟩;rw[kO m]at hw;refine jh ?_ (by cases e<;>first|rfl|exact absurd rfl (m _));refine !!{cs,lk,kn,de,e,n,rfl,a.at 0 rfl,p,m,_,rfl,?_};cases g:stepK kn e with|none=>rw[g]at hw;rw[hw]at q;exact cj {_,rfl,bY,S,a.sb,q}|some eZ=>rw[g]at hw;exact aL !!{cs,lk,kn,eZ,de,e,n,rfl,a.at 0 rfl,zH c.len<|by decide,p,g,eZ,fr,_,_,_,rfl,a.put 0 rfl _,xP c s g,hf,hw}
 rintro av S' ⟨kn,fr,o6,o7,o8,rfl,a,c,hf,hw⟩;have A:es.drop (Ji xs).length=[]:=yB (by rw[wH];lia);have hw:bH cs ps wy d [] none 0 es=bH cs ps wy d kn fr (Ji xs).length (es.drop (Ji xs).length):=hw;rw[A]at hw;exact fo {_,_,_,_,_,rfl,hw.trans<|by unfold bH;rfl,a.sb};rintro av S' ⟨o4,o5,o6,o7,o8,rfl,hw,sb⟩;rw[hw]at q;exact⟨S,sb,q⟩
theorem dA(L:δ D)(k:π):cP L none (some ((k:π):ν))=L.take k:=by unfold cP;rw[HT.sIx_nat,HT.sIx_none,y3,Nat.sub_zero];exact List.take_eq_take_iff.mpr<|by lia
theorem iB(L:δ D)(k:π):cP L (some ((k:π):ν)) none=L.drop k:=by unfold cP;rw[HT.sIx_nat,HT.sIx_none];rcases Nat.le_total k L.length with h|h;rw[Nat.min_eq_left h,List.take_of_length_le<|by rw[zS];exact zk _];rw[Nat.min_eq_right h,Nat.sub_self,List.take_zero,yB h]
theorem iC(L:δ D)(k:π):cP L (some<|((k:π):ν)+1) none=L.drop (k+1):=iB L<|k+1
theorem vW(L:δ D)(k:π):cP L none (some<|((k:π):ν)+1)=L.take (k+1):=dA L<|k+1
theorem kP(h:0<n):∃k:π,x%((n:π):ν)=((k:π):ν)/\k<n:=by have h1:=zV x (b:=(n:ν)) (by lia);have h2:=zU x (b:=(n:ν)) (by lia);exact{(x%(n:ν)).toNat,by lia,by lia}
inductive vX (ds:δ D) (S:ak) (R:KD) (Z:KX):η where
 |mk (cs:δ<|ρ×ρ) (l:ε) (rows:δ Row) (lx:ε) (xs:δ ν) (_:ds=[.tup<|cs.map aA,.ref l,.ref lx]) (_:Gd cs) (_:S l=ϑ (.lst<|rows.map ag)) (_:∀r∈rows,Ro cs r) (_:rows.length<=200) (_:S lx=ϑ (.lst<|xs.map D.int)) (_:xs.length=12) (_:∀x∈xs,0<=x)
  (_:∀(S':ak)(p:ε)(nW:δ Row),S' p=ϑ (.lst<|nW.map ag)->Sub S S'->(∀r∈nW,Ro cs r)->nW.length<=rows.length+1->R (.ref p) S'):vX ds S R Z
theorem Lb(T:Txt w K mg t):Ok P w base T.iX 3 vX:=by
 refine T.iX.F.b_ fe ?_;rintro _ _ _ _ _ _ _ S R Z hr ⟨cs,l,rows,lx,xs,e0,hg,hl,Q,a0,hX,C,h0,q⟩;subst e0;refine{_,(sc (si (aR aK hr.u (dv 1)<|bT an) (s1<|sr<|bT<|ac (bq<|ac (aU T.vq (xu T) hr<|ac (ix hr.u (dv 2) di) an)<|ac (aU T.j6 (pj T) hr<|ap 0<|ac (oI (dv 2) (o1 di) o0) an) an) an) s0)<|sc (bR (i:=3) fe.nd<|bo bh hr.u (ix hr.u (dv 2) di)<|cb ba T.aX aI<|ap 1 an)<|sc (bR (i:=4) fe.nd<|bo bh hr.u (ix hr.u (dv 2) di) di)<|sc (si (aR aK hr.u (dv 4) di) (s1<|sr<|bo aS hr.u (oI (dv 1) o0<|o1<|dv 3)<|oI (dv 1) (o1<|bo pP hr.u (dv 3) di) o0) s0)<|sc (si (aR aK hr.u (dv 4) di) (s1<|sr<|bo aS hr.u (oI (dv 1) o0<|o1<|bo pP hr.u (dv 3) di)<|oI (dv 1) (o1<|dv 3) o0) s0)<|sc (si (aR aK hr.u (dv 4) di) (s1<|sr<|bo aS hr.u (oI (dv 1) (o1<|dv 3) o0)<|oI (dv 1) o0<|o1<|dv 3) s0)<|sc (si (aR aK hr.u (dv 4) di) (s1<|sr<|bo aS hr.u (bo aS hr.u (oI (dv 1) o0<|o1<|dv 3)<|bT<|ac (bq<|ac (ix hr.u (ix hr.u (dv 1)<|dv 3) di)<|ac (aU T.j6 (pj T) hr<|ap 0<|ac (oI (dv 2) (o1 di) o0) an) an) an)<|oI (dv 1) (o1<|bo pP hr.u (dv 3) di) o0) s0)<|sc (si (aR aK hr.u (dv 4) di) (s1<|sr<|bo aS hr.u (bo aS hr.u (oI (dv 1) o0<|o1<|dv 3)<|bT<|ac (bq<|ac (aU T.vq (xu T) hr<|ac (ix hr.u (dv 2) di) an)<|ac (ix hr.u (ix hr.u (dv 1)<|dv 3) di) an) an)<|oI (dv 1) (o1<|dv 3) o0) s0)<|s1<|sr<|bT an),?_};have Ui:=hg.1;have n2:=bY;have at_:∀k:π,k<12->∃x:ν,gI (xs.map D.int) ((k:π):ν)=ϑ (.int x)/\0<=x:=λk hk=>kl (by lia) (by rw[zb];lia) h0;obtain⟨x1,e1,_⟩:=at_ 1 (by decide);obtain⟨x2,e2,_⟩:=at_ 2 (by decide);obtain⟨x3,e3,_⟩:=at_ 3 (by decide);have G:cs.length<=(cP xs (some 2) none).length:=by have:(cP xs (some 2) none).length=10:=(by unfold cP;rw[show HT.sIx xs.length 0 (some 2)=2 by rw[C];rfl,HT.sIx_none,zE,zS,C];rfl);lia
 refine !{lZ,λpe x6=>eq_nil ((Sub.new x6) _ _ hl) aa (λx hx=>?_) !⟨?_⟩};obtain⟨r,o,rfl⟩:=zh.mp hx;exact D1 (Q r o).2 (Q r o).1;rw[show(rows.map ag).isEmpty=rows.isEmpty by cases rows<;>rfl];have sb:=Sub.new (c:=.lst []) x6;generalize S.set pe (.lst [])=S1 at sb⊢;clear x6;have B:=sb _ _ hX;have g:=sb _ _ hl;refine bC (λh=>?_) λh=>?_;refine !{_,_,B,e1,x1,rfl,λz hz=>?_};refine !!!{_,B,λp2 s=>{cs,p2,cP xs (some 2) none,rfl,hg,by rw[nH];exact aa,G,λws hw=>?_}};refine{n2,sW,λp3 a=>fo ?_};exact q _ p3 [(z,ws)] aa (sb.trans<|(Sub.new s).trans<|.new a) (λr o=>by rw[zL.mp o];exact⟨hw,hz⟩) (by show 1<=_;lia);have kh:rows≠[]:=λe=>by rw[e]at h;cases h
 have Si:0<rows.length:=List.length_pos_iff.mpr kh;obtain⟨k,ek,hk⟩:=kP (x:=x1) Si;refine !{_,_,B,e1,_,rfl,_,rfl,.inl {_,g,?_}};rw[zb];refine{by lia,?_};rw[ek];refine !{_,_,B,e2,by decide,?_};have ml:(rows.map ag).length=rows.length:=zb _;have big:∀{n:π},n<=1000->n<=sizeLine:=λh=>by rw[yf];lia
 have d:∀{S':ak}{p:ε}{L:δ D}(nW:δ Row),S' p=ϑ (.lst L)->L=nW.map ag->Sub S1 S'->(∀r∈nW,r∈rows\/Ro cs r)->nW.length<=rows.length+1->Fo S' (R<|.ref p):=λnW h1 h2 h3 h4 h5=>fo<|q _ _ nW (by rw[<-h2];exact h1) (sb.trans h3) (λr o=>(h4 r o).elim (Q r) id) h5;have tk:∀{r:Row}{j:π},r∈rows.take j->r∈rows\/Ro cs r:=λh=>.inl<|List.mem_of_mem_take h;have U:∀{r:Row}{j:π},r∈rows.drop j->r∈rows\/Ro cs r:=λh=>.inl<|List.mem_of_mem_drop h;have X:=zf hk;have I:(rows.map ag)[k]?=some (ag rows[k]):=by rw[zm,X];rfl
 have XB:∀{S':ak},Sub S1 S'->gI (rows.map ag) ((k:π):ν)=ϑ (ag rows[k]):=λ_=>by unfold gI;rw[ml,nM hk];exact I
 have Lw:=Q _<|zD X;generalize rows[k]=r at X I XB Lw;refine !!⟨bC (λ_=>?_) λ_=>?_⟩;refine !!!{_,g,λv m=>!!!{_,(Sub.new m) _ _ g,λp2 s=>?_}};rw[dA,iC]at *;refine{_,_,(Sub.new s) _ _ aa,aa,big<|by rw[zE,zS];lia,λp3 a=>?_};exact d (rows.take k++rows.drop (k+1)) aa (by rw[zI,yY,List.map_drop]) ((Sub.new m).trans<|(Sub.new s).trans<|.new a) (λr o=>(zO.mp o).elim tk U) (by rw[zo,zE,zS];lia);refine !!⟨bC (λ_=>?_) λ_=>?_⟩;refine !!!{_,g,λv m=>!!!{_,(Sub.new m) _ _ g,λp2 s=>?_}};rw[vW,iB]at *;refine{_,_,(Sub.new s) _ _ aa,aa,big<|by rw[zE,zS];lia,λp3 a=>?_};exact d (rows.take (k+1)++rows.drop k) aa (by rw[zI,yY,List.map_drop]) ((Sub.new m).trans<|(Sub.new s).trans<|.new a) (λr o=>(zO.mp o).elim tk U) (by rw[zo,zE,zS];lia);refine !!⟨bC (λ_=>?_) λ_=>?_⟩;refine !!!{_,g,λv m=>!!!{_,(Sub.new m) _ _ g,λp2 s=>?_}};rw[dA,iB]at *;refine{_,_,(Sub.new s) _ _ aa,aa,big<|by rw[zE,zS];lia,λp3 a=>?_};exact d (rows.drop k++rows.take k) aa (by rw[zI,yY,List.map_drop]) ((Sub.new m).trans<|(Sub.new s).trans<|.new a) (λr o=>(zO.mp o).elim U tk) (by rw[zo,zE,zS];lia);have three:∀{A:Row},Ro cs A->∀{j:π},j=k\/j=k+1->(∀x∈(rows.take k++[A])++rows.drop j,x∈rows\/Ro cs x)/\((rows.take k++[A])++rows.drop j).length<=rows.length+1:=λ{A} ho {j} hj=>by refine{λx hx=>?_,by rw[zo,zo,zE,zS];show _+1+_<=_;lia};rcases zO.mp hx with hx|hx;rcases zO.mp hx with hx|hx;exact tk hx;rw[zL.mp hx];exact .inr ho;exact U hx
 refine !!⟨bC (λ_=>?_) λ_=>?_⟩;refine !!!{_,g,λv m=>?_};rw[dA]at *;have s1:=Sub.new (c:=.lst<|(rows.map ag).take k) m;have M:(S1.set v<|.lst<|(rows.map ag).take k) v=ϑ (.lst<|(rows.map ag).take k):=aa;generalize S1.set v (.lst<|(rows.map ag).take k)=O at s1 M⊢;refine !!{_,ag r,s1 _ _ g,XB s1,_,rfl,_,rfl,_,rfl,_,rfl,_,s1 _ _ B,λp2 s=>{cs,p2,cP xs (some 2) none,rfl,hg,by rw[nH];exact aa,G,λws hw=>?_}};have s2:=Sub.new (c:=.lst<|cP (xs.map D.int) (some 2) none) s;generalize O.set p2 (.lst<|cP (xs.map D.int) (some 2) none)=S3 at s2⊢;refine{n2,sW,λp3 a=>{_,_,(Sub.new a) _ _<|s2 _ _ M,aa,big<|by rw[zE];show _+1<=_;lia,λy Bo=>?_}};have E:=(Sub.new (c:=.lst [.tup [.str r.1,.tup ws]]) a).trans<|Sub.new (c:=.lst<|(rows.map ag).take k++[.tup [.str r.1,.tup ws]]) Bo;have N:((S3.set p3<|.lst [.tup [.str r.1,.tup ws]]).set y<|.lst<|(rows.map ag).take k++[.tup [.str r.1,.tup ws]]) y=ϑ (.lst<|(rows.map ag).take k++[.tup [.str r.1,.tup ws]]):=aa;generalize (S3.set p3<|.lst [.tup [.str r.1,.tup ws]]).set y (.lst<|(rows.map ag).take k++[.tup [.str r.1,.tup ws]])=S5 at E N⊢;have J:=s1.trans<|s2.trans E;refine !!!{_,J _ _ g,λp5 H=>?_};rw[iC]at *;refine{_,_,(Sub.new H) _ _ N,aa,big<|by rw[zo,zE,zS];show _+1+_<=_;lia,λp6 LC=>?_};obtain⟨t1,Y⟩:=three (A:=(r.1,ws)) ⟨hw,Lw.2⟩ (j:=k+1)<|.inr rfl;exact d _ aa (by rw[zI,zI,yY,List.map_drop];rfl) (J.trans<|(Sub.new H).trans<|.new LC) t1 Y;refine !!⟨bC (λ_=>?_) λ_=>?_⟩;refine !!!{_,g,λv m=>?_};rw[dA]at *;have s1:=Sub.new (c:=.lst<|(rows.map ag).take k) m;have M:(S1.set v<|.lst<|(rows.map ag).take k) v=ϑ (.lst<|(rows.map ag).take k):=aa;generalize S1.set v (.lst<|(rows.map ag).take k)=O at s1 M⊢;refine !{_,_,s1 _ _ B,e3,x3,rfl,λz hz=>!!{_,ag r,s1 _ _ g,XB s1,_,rfl,?_}};refine{n2,sW,λp3 a=>{_,_,(Sub.new a) _ _ M,aa,big<|by rw[zE];show _+1<=_;lia,λy Bo=>?_}};have E:=(Sub.new (c:=.lst [.tup [.str z,.tup r.2]]) a).trans<|Sub.new (c:=.lst<|(rows.map ag).take k++[.tup [.str z,.tup r.2]]) Bo;have N:((O.set p3<|.lst [.tup [.str z,.tup r.2]]).set y<|.lst<|(rows.map ag).take k++[.tup [.str z,.tup r.2]]) y=ϑ (.lst<|(rows.map ag).take k++[.tup [.str z,.tup r.2]]):=aa;generalize (O.set p3<|.lst [.tup [.str z,.tup r.2]]).set y (.lst<|(rows.map ag).take k++[.tup [.str z,.tup r.2]])=S5 at E N⊢;have J:=s1.trans E;refine !!!{_,J _ _ g,λp5 H=>?_};rw[iB]at *;refine{_,_,(Sub.new H) _ _ N,aa,big<|by rw[zo,zE,zS];show _+1+_<=_;lia,λp6 LC=>?_};obtain⟨t1,Y⟩:=three (A:=(z,r.2)) ⟨Lw.1,hz⟩ (j:=k)<|.inl rfl;exact d _ aa (by rw[zI,zI,yY,List.map_drop];rfl) (J.trans<|(Sub.new H).trans<|.new LC) t1 Y;exact{lZ,λp hp=>d [] aa rfl (.new hp) (λ_ h=>nomatch h)<|by show 0<=_;lia}
theorem rG:∀{l:δ α}{m:δ β}(k:π),Paired r l m->Paired r (l.take k) (m.take k)|_,_,0,_=>by rw[List.take_zero,List.take_zero];exact .nil|_,_,k+1,.nil=>.nil|_,_,k+1,.cons h t=>.cons h<|rG k t
theorem rH:∀{l:δ α}{m:δ β}(k:π),Paired r l m->Paired r (l.drop k) (m.drop k)|_,_,0,h=>h|_,_,k+1,.nil=>.nil|_,_,k+1,.cons h t=>rH k t
noncomputable def t6:D->χ|.tup (.str o::_)=>ω (o ="page")|_=>false
noncomputable def Ed:D->D|.tup [_,x]=>x|_=>.ay
inductive t9 (ds:δ D) (S:ak) (R:KD) (Z:KX):η where
 |mk (cs:δ<|ρ×ρ) (l:ε) (c:ν) (xs:δ D) (es:δ BA) (m:π) (_:ds=[.tup<|cs.map aA,.ref l,.int c]) (_:Gd cs) (_:S l=ϑ (.lst xs)) (_:lh cs S m xs es) (_:es≠[]) (_:es.length<=m) (_:m<=90)
  (_:∀(S':ak)(p:ε)(GJ:δ D)(Lo:δ BA),S' p=ϑ (.lst GJ)->Sub S S'->lh cs S' (m+1) GJ Lo->Lo.length<=m+1->R (.ref p) S'):t9 ds S R Z
theorem Hz(T:Txt w K mg t):Ok P w base T.sT 4 t9:=by
 refine T.sT.F.b_ bP ?_;rintro _ _ _ _ _ _ _ S R Z hr ⟨cs,l,c,xs,es,m,e0,hg,hl,mh,kh,b2,hm,q⟩;subst e0;refine{_,(sc (bR (i:=3) bP.nd<|aU T.gD (iq T) hr<|ap 2<|ac di an)<|sc (bR (i:=4) bP.nd<|bo bh hr.u (ix hr.u (dv 3) di)<|cb ba T.aX aI<|ap 1 an)<|sc (bR (i:=5) bP.nd<|ix hr.u (dv 1)<|dv 4)<|sc (si (aR aK hr.u (bo bh hr.u (ix hr.u (dv 3) di) di) di) (s1<|sr<|bo aS hr.u (oI (dv 1) o0<|o1<|dv 4)<|oI (dv 1) (o1<|bo pP hr.u (dv 4) di) o0) s0)<|sc (si (aR aK hr.u (bo bh hr.u (ix hr.u (dv 3) di) di) di) (sc (bR (i:=6) bP.nd<|bo bh hr.u (ix hr.u (dv 3) di)<|cb ba T.aX aI<|ap 1 an)<|sc (bR (i:=7) bP.nd<|bo aS hr.u (oI (dv 1) o0<|o1<|dv 4)<|oI (dv 1) (o1<|bo pP hr.u (dv 4) di) o0)<|s1<|sr<|bo aS hr.u (bo aS hr.u (oI (dv 7) o0<|o1<|dv 6)<|bT<|ap 5 an)<|oI (dv 7) (o1<|dv 6) o0) s0)<|sc (si (AW<|aR g9 hr.u (ix hr.u (dv 5) di) ds) (s1<|sr<|bo aS hr.u (oI (dv 1) o0<|o1<|bo pP hr.u (dv 4) di)<|oI (dv 1) (o1<|dv 4) o0) s0)<|sc (uA (N:=["_law_one"]) (src:=[none]) 8 bP.nd (lR C7) (il<|dv 1) (if1<|aR aK hr.u (ix hr.u (dv 0) di) ds)<|ix hr.u (dv 0) di)<|sc (bR (i:=9) bP.nd<|aU T.iX (Lb T) hr<|ap 0<|ac (ix hr.u (dv 5) di)<|ap 3 an)<|sc (qB<|si (aR aK hr.u (bo bh hr.u (ix hr.u (dv 3) di) di) di) (s1<|bR (i:=9) bP.nd<|bo aS hr.u (ix hr.u (dv 5) di)<|oI (ix hr.u (dv 8)<|bo bh hr.u (ix hr.u (dv 3) di)<|cb ba T.aX aI<|ap 8 an) o0<|o1 di) s0)<|s1<|sr<|bo aS hr.u (bo aS hr.u (oI (dv 1) o0<|o1<|dv 4)<|bT<|ac (bq<|ac ds<|ap 9 an) an)<|oI (dv 1) (o1<|bo pP hr.u (dv 4) di) o0),?_};have Hf:xs.length=es.length:=yH mh;have Si:0<xs.length:=by rw[Hf];exact List.length_pos_iff.mpr kh
 have n2:=bY;have big:∀{n:π},n<=1000->n<=sizeLine:=λh=>by rw[yf];lia
 refine !{c,12,rfl,by decide,λys lx Xb h0 xX=>?_};have s1:=Sub.new (c:=.lst<|ys.map D.int) xX;have v:(S.set lx<|.lst<|ys.map D.int) lx=ϑ (.lst<|ys.map D.int):=aa;generalize S.set lx (.lst<|ys.map D.int)=S1 at s1 v⊢;have d:=s1 _ _ hl;have U:=mh.sub s1<|zk m;have q1:∀{S':ak}{p:ε}{GJ:δ D}{Lo:δ BA},S' p=ϑ (.lst GJ)->Sub S1 S'->lh cs S' (m+1) GJ Lo->Lo.length<=m+1->Fo S' (R<|.ref p):=λh1 h2 h3 h4=>fo<|q _ _ _ _ h1 (s1.trans h2) h3 h4;clear q xX s1 hl mh;have at_:∀k:π,k<12->∃x:ν,gI (ys.map D.int) ((k:π):ν)=ϑ (.int x)/\0<=x:=λk hk=>kl (by lia) (by rw[zb];lia) h0;obtain⟨x0,e0,_⟩:=at_ 0 (by decide);obtain⟨x8,e8,_⟩:=at_ 8 (by decide);obtain⟨x9,e9,_⟩:=at_ 9 (by decide);obtain⟨a7,a4,_⟩:=at_ 10 (by decide);obtain⟨b1,YS,_⟩:=at_ 11 (by decide);obtain⟨k,ek,hk⟩:=kP (x:=x0) Si;refine !{_,_,v,e0,_,rfl,_,rfl,.inl {_,d,by lia,?_}};rw[ek];have ex:=zf hk;generalize xs[k]=de at ex;obtain⟨e,ee,G⟩:=tY U ex;have XB:gI xs ((k:π):ν)=ϑ de:=by unfold gI;rw[nM hk];exact ex
 refine !!{_,de,d,XB,?_};have b4:k<es.length:=by lia
 have E:∀{j i:π},(i=j\/i=j+1\/j=i+1)->i<=xs.length->j<=xs.length->(xs.take j).length+(xs.drop i).length<=1000/\(es.take j++es.drop i).length<=m+1:=λ{j i} h1 h2 h3=>by rw[zo,zE,zE,zS,zS];lia
 have J:∀{S':ak}{j i:π},Sub S1 S'->lh cs S' (m+1) (xs.take j++xs.drop i) (es.take j++es.drop i):=λh=>cY (rG _<|U.sub h<|yJ m)<|rH _<|U.sub h<|yJ m;refine !{_,_,v,YS,by decide,_,rfl,bC (λ_=>?_) λ_=>?_};refine !!!{_,d,λs o=>!!!{_,(Sub.new o) _ _ d,λp2 z=>?_}};rw[dA,iC]at *;obtain⟨Y,t2⟩:=E (j:=k) (i:=k+1) (.inr<|.inl rfl) (by lia) (by lia);refine{_,_,(Sub.new z) _ _ aa,aa,big Y,λp3 lI=>?_};have sb:=(Sub.new (c:=.lst<|xs.take k) o).trans<|(Sub.new (c:=.lst<|xs.drop<|k+1) z).trans<|.new (c:=.lst<|xs.take k++xs.drop (k+1)) lI;exact q1 aa sb (J sb) t2;refine !{_,_,v,YS,by decide,_,rfl,bC (λ_=>?_) λ_=>?_};obtain⟨j,ej,hj⟩:=kP (x:=a7) Si;refine !{_,_,v,a4,_,rfl,_,rfl,.inl {_,d,by lia,?_}};rw[ej];refine !!!{_,d,λs o=>!!!{_,(Sub.new o) _ _ d,λp2 z=>?_}};rw[dA,iC]at *;obtain⟨Y,t2⟩:=E (j:=k) (i:=k+1) (.inr<|.inl rfl) (by lia) (by lia);refine{_,_,(Sub.new z) _ _ aa,aa,big Y,λp3 lI=>?_};have sb:=(Sub.new (c:=.lst<|xs.take k) o).trans<|(Sub.new (c:=.lst<|xs.drop<|k+1) z).trans<|.new (c:=.lst<|xs.take k++xs.drop (k+1)) lI;have Hc:(((S1.set s<|.lst<|xs.take k).set p2<|.lst<|xs.drop<|k+1).set p3<|.lst<|xs.take k++xs.drop (k+1)) p3=ϑ (.lst<|xs.take k++xs.drop (k+1)):=aa;have A:=J (j:=k) (i:=k+1) sb;have Lp:(es.take k++es.drop (k+1)).length+1<=m:=by rw[zo,zE,zS];lia
 generalize ((S1.set s<|.lst<|xs.take k).set p2<|.lst<|xs.drop<|k+1).set p3 (.lst<|xs.take k++xs.drop (k+1))=g at sb Hc A⊢;generalize xs.take k++xs.drop (k+1)=us at Hc A;generalize es.take k++es.drop (k+1)=vs at A Lp;have a9:us.length=vs.length:=yH A;refine !!!{_,Hc,λp4 Bo=>!{sW,λa uk=>?_}};rw[dA]at *;refine{_,_,(Sub.new uk) _ _ aa,aa,big<|by rw[zE];show _+1<=_;lia,λH O=>?_};have s6:=(Sub.new (c:=.lst<|us.take j) Bo).trans<|(Sub.new (c:=.lst [de]) uk).trans<|.new (c:=.lst<|us.take j++[de]) O;have XD:(((g.set p4<|.lst<|us.take j).set a<|.lst [de]).set H<|.lst<|us.take j++[de]) H=ϑ (.lst<|us.take j++[de]):=aa;generalize ((g.set p4<|.lst<|us.take j).set a<|.lst [de]).set H (.lst<|us.take j++[de])=S3 at s6 XD⊢;refine !!!{_,s6 _ _ Hc,λp7 C=>?_};rw[iB]at *;refine{_,_,(Sub.new C) _ _ XD,aa,big<|by rw[zo,zE,zS];show _+1+_<=_;lia,λp8 I=>?_};have B:=s6.trans<|(Sub.new (c:=.lst<|us.drop j) C).trans<|.new (c:=.lst<|us.take j++[de]++us.drop j) I;have XF:=A.sub B<|zk _;exact q1 aa (sb.trans B) (cY (cY (rG j XF)<|.cons (G.sub (sb.trans B)<|yJ m) .nil)<|rH j XF) (by rw[zo,zo,zE,zS];show _+1+_<=_;lia);refine{λb g=>b=!NQ e/\g=S1,?_,?_};cases G<;>exact !!!⟨rfl,rfl⟩;rintro b g ⟨rfl,rfl⟩;by_cases K3:∃rows,e=.pg rows;obtain⟨rows,rfl⟩:=K3;obtain⟨l2,rfl,xW,qu,b5⟩:∃l2,de=.tup [.str "page",.ref l2]/\g l2=ϑ (.lst<|rows.map ag)/\(∀r∈rows,Ro cs r)/\rows.length<=m:=by cases G with|pg hl ho hn=>exact{_,rfl,hl,ho,hn}
 refine bI ?_ rfl;have all:∀y∈xs,∃e,BB cs g m y e:=λy hy=>by obtain⟨i,hi⟩:=yq hy;obtain⟨e,_,h⟩:=tY U hi;exact⟨e,h⟩
 refine !{_,d,?_};refine eP t6 Ed d (by show xs.length<=_;lia) (λy hy Q Q' hQ DF=>?_) λs o=>?_;obtain⟨e,G⟩:=all y hy;cases G with|put _ _=>exact (!!!⟨bI<|DF<|show ω (("put": ρ) ="page")=ϰ by decide⟩)|chg _ _=>exact (!!!⟨bI<|DF<|show ω (("change": ρ) ="page")=ϰ by decide⟩)|tk _=>exact (!!!⟨bI<|DF<|show ω (("take": ρ) ="page")=ϰ by decide⟩)|pg _ _ _=>exact !!!⟨jh !!⟨hQ<|show ω (("page": ρ) ="page")=ϱ by decide⟩⟩
 have XG:∀y∈(xs.filter t6).map Ed,∃(X:ε) (M:δ Row),y=.ref X/\g X=ϑ (.lst<|M.map ag)/\(∀r∈M,Ro cs r):=λy hy=>by obtain⟨x,hx,rfl⟩:=zh.mp hy;obtain⟨h1,h2⟩:=ye.mp hx;obtain⟨e,G⟩:=all x h1;cases G with|put _ _=>exact absurd (show ω (("put": ρ) ="page")=ϱ from h2) (by decide)|chg _ _=>exact absurd (show ω (("change": ρ) ="page")=ϱ from h2) (by decide)|tk _=>exact absurd (show ω (("take": ρ) ="page")=ϱ from h2) (by decide)|pg hl ho _=>exact{_,_,rfl,hl,ho}
 have eC:0<((xs.filter t6).map Ed).length:=by rw[zb];exact List.length_pos_iff.mpr<|List.ne_nil_of_mem<|ye.mpr {zD ex,show ω (("page": ρ) ="page")=ϱ by decide}
 have YU:((xs.filter t6).map Ed).length<=100:=by rw[zb];exact zH (yE _ _)<|by lia
 rw[show(({xs,λS=>qX S (.ref l) xs}:n8).xs.filter t6).map Ed=(xs.filter t6).map Ed from rfl];generalize (xs.filter t6).map Ed=XH at XG eC YU⊢;have s2:=Sub.new (c:=.lst XH) o;have hP:(g.set s<|.lst XH) s=ϑ (.lst XH):=aa;generalize g.set s (.lst XH)=S3 at s2 hP⊢;refine !!!!{cs,l2,rows,lx,ys,rfl,hg,s2 _ _ xW,qu,by lia,s2 _ _ v,Xb,h0,λS4 p4 XI Bo s4 a8 b3=>?_};have XJ:=s2.trans s4;refine{λav S'=>∃(a:ε)(FE:δ Row),av=[some<|.tup<|cs.map aA,some<|.ref l,some<|.int c,some<|.ref lx,some<|.int (k:π),some<|.tup [.str "page",.ref l2],none,none,some<|.ref s,some<|.ref a]/\Sub S4 S'/\S' a=ϑ (.lst<|FE.map ag)/\(∀r∈FE,Ro cs r)/\FE.length<=m+1,?_,?_};refine !{_,_,XJ _ _ v,e9,by decide,_,rfl,bC (λ_=>?_) λ_=>?_};obtain⟨j,ej,hj⟩:=kP (x:=x8) eC;have ey:=zf hj;obtain⟨X,M,e3,Vk,a3⟩:=XG _<|zD ey;rw[e3]at ey;have a6:gI XH ((j:π):ν)=ϑ (.ref X):=by unfold gI;rw[nM hj];exact ey
 refine !!!!{_,_,XJ _ _ v,e8,_,rfl,_,rfl,.inl {_,s4 _ _ hP,by lia,?_}};rw[ej];refine{_,.ref X,s4 _ _ hP,a6,_,rfl,_,XJ _ _ Vk,λH O=>?_};rw[show cP (M.map ag) none (some 1)=(M.map ag).take 1 from dA _ 1]at *;refine{_,_,(Sub.new O) _ _<|XJ _ _ xW,aa,big<|by rw[zE,zb];lia,λp7 C=>fo {p7,rows++M.take 1,rfl,(Sub.new O).trans<|.new C,?_,λr dH=>?_,by rw[zo,zE];lia}};rw[aa,zI,yY];exact(zO.mp dH).elim (qu r) λh=>a3 r<|List.mem_of_mem_take h;exact fo {p4,XI,rfl,.refl _,Bo,a8,by lia};rintro av S5 ⟨a,FE,rfl,s5,uk,a1,a5⟩;have LD:=XJ.trans s5;refine !!!{_,LD _ _ d,λH O=>!{n2,sW,λp7 C=>?_}};rw[dA]at *;refine{_,_,(Sub.new C) _ _ aa,aa,big<|by rw[zE];show _+1<=_;lia,λp8 I=>?_};have B:=(Sub.new (c:=.lst<|xs.take k) O).trans<|(Sub.new (c:=.lst [.tup [.str "page",.ref a]]) C).trans<|.new (c:=.lst<|xs.take k++[.tup [.str "page",.ref a]]) I;have XM:(((S5.set H<|.lst<|xs.take k).set p7<|.lst [.tup [.str "page",.ref a]]).set p8<|.lst<|xs.take k++[.tup [.str "page",.ref a]]) p8=ϑ (.lst<|xs.take k++[.tup [.str "page",.ref a]]):=aa;generalize ((S5.set H<|.lst<|xs.take k).set p7<|.lst [.tup [.str "page",.ref a]]).set p8 (.lst<|xs.take k++[.tup [.str "page",.ref a]])=S8 at B XM⊢;refine !!!{_,(LD.trans B) _ _ d,λp9 a0=>?_};rw[iC]at *;refine{_,_,(Sub.new a0) _ _ XM,aa,big<|by rw[zo,zE,zS];show _+1+_<=_;lia,λb0 a2=>?_};have L:=B.trans<|(Sub.new (c:=.lst<|xs.drop<|k+1) a0).trans<|.new (c:=.lst<|xs.take k++[.tup [.str "page",.ref a]]++xs.drop (k+1)) a2;have A:=U.sub (LD.trans L)<|yJ m;exact q1 aa (LD.trans L) (cY (cY (rG k A)<|.cons (.pg (L _ _ uk) a1 a5) .nil)<|rH (k+1) A) (by rw[zo,zo,zE,zS];show _+1+_<=_;lia);have K4:∀rows,e≠.pg rows:=λrows h=>K3 ⟨rows,h⟩;refine jh ?_ (by cases e<;>first|rfl|exact absurd rfl (K4 _));refine !!!{_,d,λs o=>!!!{_,(Sub.new o) _ _ d,λp2 z=>?_}};rw[vW,iB]at *;obtain⟨Y,t2⟩:=E (j:=k+1) (i:=k) (.inr<|.inr rfl) (by lia) (by lia);refine{_,_,(Sub.new z) _ _ aa,aa,big Y,λp3 lI=>?_};have sb:=(Sub.new (c:=.lst<|xs.take<|k+1) o).trans<|(Sub.new (c:=.lst<|xs.drop k) z).trans<|.new (c:=.lst<|xs.take (k+1)++xs.drop k) lI;exact q1 aa sb (J sb) t2
theorem Sg.up:∀{n:π}{d:D},Sg cs n d->Sg cs (n+1) d|0,_,h=>h.elim|n+1,d,h=>by rcases h with h|⟨e,h1,h2⟩|⟨o,ds,h1,h2,c,a⟩;exact .inl h;exact .inr<|.inl ⟨e,h1,h2.up⟩;exact .inr<|.inr {o,ds,h1,h2,c,λe g=>(a e g).up}
theorem Pk:∀{n:π}{d:D},Sg cs n d->qj (n+1) d=qj n d|0,_,h=>h.elim|n+1,d,h=>by show((nv d).map<|qj<|n+1).sum+1=((nv d).map<|qj n).sum+1;rw[zX λf hf=>Pk<|Ke h f hf]
theorem Pl{cs:δ<|ρ×ρ}{n:π}{d:D}(h:Sg cs n d)(h2:qj n d<=40):∀k,Sg cs (n+k) d/\qj (n+k) d<=40|0=>⟨h,h2⟩|k+1=>by obtain⟨a,b⟩:=Pl h h2 k;exact{a.up,by show qj (n+k+1) d<=40;rw[Pk a];exact b}
theorem SO{P:Ψ}{w:Ω}{K:Φ}{mg:ρ->θ ξ}{base:Γ}{k N:π}{f:ε}{fd:FuncData}{ps:δ ρ}{sp:π->qY}(F:∀n,n<=N->bS P w K mg base (f_ P w mg) k f fd ps (ud K<|sp n)):bS P w K mg base (f_ P w mg) k f fd ps (ud K λds S R Z=>∃n,n<=N/\sp n ds S R Z):=by refine{?_,?_};rintro vs H Q E ⟨ds,S,R,Z,a,b,⟨n,hn,c⟩,d⟩;exact(F n hn).len vs H Q E ⟨ds,S,R,Z,a,b,c,d⟩;rintro A outer s H args us vs Q E hr h g e ⟨ds,S,R,Z,a,b,⟨n,hn,c⟩,d⟩;exact(F n hn).run A outer s H args us vs Q E hr h g e ⟨ds,S,R,Z,a,b,c,d⟩
theorem aca(c:ν):∃m:π,c%3=((m:π):ν)/\m<3:=kP (n:=3)<|by decide
theorem Lh(a:bc x=ϱ):Dr S x (nJ x):=by cases x<;>first|exact .ay|exact .int _|exact .str _|cases a
theorem XN(ns:δ ν):(cP ns (some 8)<|some 48).length<=40:=by unfold cP;rw[show HT.sIx ns.length 0 (some 8)=min 8 ns.length from HT.sIx_nat ..,show HT.sIx ns.length ns.length (some 48)=min 48 ns.length from HT.sIx_nat ..];exact zH (List.length_take_le _ _)<|by lia
theorem XO(h:BB cs S n d e):Ld S 5 d:=by
 have c:∀{z:ρ},z∈KS->PyData.strOk z=ϱ:=λh=>(i8 _ h).2.2;have i:∀{ws:δ D},Wg cs ws->Ld S 1 (.tup ws):=λ{ws} h=>by obtain⟨ps,g,a,j,_⟩:=Ld.all (S:=S) (n:=0) (ds:=ws) λx hx=>{nJ x,Lh<|h.all x hx,(KO (S:=S)<|h.all x hx).2};exact{.tuple ps,.tup g,by simp only[PyData.canLay0];exact a,by simp only[PyData.depth];lia}
 have st:∀{z:ρ},PyData.strOk z=ϱ->Ld S 4 (.str z):=λh=>{_,.str _,by simp only[PyData.canLay0];exact h,by simp only[PyData.depth];lia};have tp:∀{ds:δ D},(∀x∈ds,Ld S 4 x)->Ld S 5 (.tup ds):=λh=>by obtain⟨ps,g,a,j,_⟩:=Ld.all h;exact{.tuple ps,.tup g,by simp only[PyData.canLay0];exact a,by simp only[PyData.depth];lia}
 cases h with|put hz hw=>exact tp (ym.mpr {st<|by trivial,ym.mpr {st<|c hz,ym.mpr {(i hw).le<|by decide,λ_ h=>nomatch h}}})|chg hz hw=>exact tp (ym.mpr {st<|by trivial,ym.mpr {st<|c hz,ym.mpr {(i hw).le<|by decide,λ_ h=>nomatch h}}})|tk hz=>exact tp (ym.mpr {st<|by trivial,ym.mpr {st<|c hz,λ_ h=>nomatch h}})|pg hl ho _=>refine tp<|ym.mpr {st<|by trivial,ym.mpr {(Ld.ref hl λx hx=>?_:Ld S 4 _),λ_ h=>nomatch h}};obtain⟨r,hr,rfl⟩:=zh.mp hx;have h1:=xM (ho r hr).1 (ho r hr).2;exact{HR r,Sv (ho r hr).1,h1.1,by lia}
theorem Ee{cs:δ<|ρ×ρ}{S:ak}{n:π} : ∀{xs:δ D}{es:δ BA},lh cs S n xs es->∀d∈xs,Ld S 5 d|_,_,.nil,_,h=>nomatch h|_,_,.cons h t,d,hd=>by rcases zj.mp hd with rfl|hd;exact XO h;exact Ee t d hd
theorem SQ(hg:Gd cs)(hp:Pin cs ps)(a:KI cs kn):An cs ps wy (nN cs ps wy d kn):=by obtain⟨A,hA⟩:=xO (wy:=wy) (d:=d) hg hp (nG a<|.refl _)<|Eb a<|.refl _;rw[<-tV hg hp (.refl _) hA];exact hA.an
def Fok(f:Flt):Prop:=PyData.strOk f.1=ϱ/\∀z,f.2=ϑ z->z∈KS
theorem FF(h:∀z,y=ϑ z->z∈KS)(e:iy x y=ϑ f):Fok f:=by unfold iy at e;split at e;cases e;cases e;exact{show PyData.strOk "missed"= true by trivial,h}
theorem FG(hA:An cs ps wy A):∀{rows:δ Row}{fr:θ Row},(∀r∈rows,Ro cs r)->∀{f:Flt},d9 cs ps wy A fr rows=ϑ f->Fok f
 |[],_,_,_,e=>nomatch e
 |r::rows,fr,h,f,e=>by
  rw[jc]at e;have hk:∀z,some r.1=ϑ z->z∈KS:=λz e=>by cases e;exact(h r zq).2
  cases a:tU cs ps wy A fr r with|some g=>(rw[a]at e;cases e;unfold tU at a;split at a;split at a;exact FF (tW hA) a;cases a;exact{show PyData.strOk "order"= true by trivial,hk};cases a;exact{show PyData.strOk "strange"= true by trivial,hk})|none=>rw[a]at e;exact FG hA (λx hx=>h x<|zg _ hx) e
theorem xT{cs:δ<|ρ×ρ}(hg:Gd cs){ps:δ Part}(hp:Pin cs ps){wy:ρ}{d:D}{S:ak}{n:π} : ∀{xs:δ D}{es:δ BA}{kn:Kn}{fr:θ Row}{i:π},KI cs kn->lh cs S n xs es->Ly S 64 (BD<|bH cs ps wy d kn fr i es)
 |_,_,_,_,_,_,.nil=>Ly.ay.le (by decide)
 |_,e::es,kn,fr,i,c,.cons h t=>by
  have l:Ly S 64 (BD<|some ("event",i,none)):=(Ly.tup (n:=0) λx hx=>by simp only[zj,zN,or_false]at hx;rcases hx with rfl|rfl;exact Ly.str (by trivial);exact Ly.plain rfl).le (by decide);by_cases g:∃rows,e=.pg rows;obtain⟨rows,rfl⟩:=g;rw[nU];cases a:c_ cs ps wy (nN cs ps wy d kn) fr rows with|none=>exact xT hg hp c t|some f=>have hA:=SQ (wy:=wy) (d:=d) hg hp c;have hf:Fok f:=(by unfold c_ at a;split at a;exact FF (tW hA) a;cases h with|pg _ ho _=>exact FG hA ho a);refine(Ly.tup (n:=0) λx hx=>?_).le (by decide);simp only[zj,zN,or_false]at hx;rcases hx with rfl|rfl|rfl;exact Ly.str hf.1;exact Ly.plain rfl;exact Ly.plain<|ma hf.2
  have j:∀rows,e≠.pg rows:=λrows h=>g ⟨rows,h⟩;rw[kO j];cases m:stepK kn e with|none=>exact l|some eZ=>exact xT hg hp (xP c h m) t
theorem HA{cs:δ<|ρ×ρ}(hg:Gd cs){ps:δ Part}(hp:Pin cs ps){wy:ρ}{d:D} : bH cs ps wy d [] none 0 [.pg []]=ϐ:=by have hA:Bu cs ps wy 7 d (bt [] []) []:={{{(λ_ h=>nomatch h),.nil},(λ_ h=>nomatch h),.nil},.refl _};rw[nU,<-tV hg hp (ss:=[]) (.refl _) hA];rfl
inductive Li (t:gY) (ds:δ D) (S:ak) (R:KD) (Z:KX):η where
 |mk (ns:δ ν) (_:ds=[.jH<|ns.map D.int]) (_:ns.length<=63) (_:Tb t S) (_:R (.bl true) S)
inductive Lv (S:ak) (ns:δ ν) (cs:δ<|ρ×ρ) (ps:δ Part) (wy:ρ) (d:D) (i:π) (av:SD) (S':ak):η where
 |mk (p:ε) (xs:δ D) (es:δ BA) (o5:θ D) (_:av=[some<|.jH<|ns.map D.int,some<|.tup<|cs.map aA,some<|cI ps wy,some d,some<|.ref p,o5,none,none,none,none]) (_:Sub S S') (_:S' p=ϑ (.lst xs)) (_:lh cs S' (60+i) xs es) (_:es.length<=60+i):Lv S ns cs ps wy d i av S'
theorem NW(T:Txt w K mg t)(B:Bm mg base):Ok P w base T.law 20 (Li t):=by
 have HB:Ok P w base T.iU 5 _:=SO (sp:=Sl) (N:=3) λn hn=>(pE T n).mono (by lia);refine T.law.F.b_ fW ?_;obtain⟨ns,e,Rq,U,q⟩;refine{_,(sc (bR (i:=1) fW.nd<|aU T.oS (DH T) hr<|ac (aU T.dP (eQ T) hr<|ap 0<|ac di an) an)<|sc (bR (i:=2) fW.nd<|aU T.w9 (Kw T) hr<|ap 1<|ac (aU T.dP (eQ T) hr<|ap 0<|ac di an) an)<|sc (qB<|bR (i:=3) fW.nd<|aU T.iU HB hr<|ap 1<|ac (aU T.gD (iq T) hr<|ac (aU T.dP (eQ T) hr<|ap 0<|ac di an)<|ac di an)<|ac (bo bh hr.u (aU T.dP (eQ T) hr<|ap 0<|ac di an) di) an)<|sc (bR (i:=4) fW.nd<|aU T.sS (Hx T) hr<|ap 1<|ap 2<|ap 3<|ac (oI (dv 0) (o1 di)<|o1 di) an)<|sc (si (aR dJ hr.u (aU T.eK (eT T B) hr<|ap 1<|ap 2<|ap 3<|ac (ct I9 T.wV qW<|ap 4 an) an) dn) (s1<|sr db) s0)<|sc (qB<|AG (MN T.fq<|ac (bo bh hr.u (bo dh hr.u (aU T.dP (eQ T) hr<|ap 0<|ac di an) di) di) an) (gn (i:=5) fW.nd)<|s1<|si (aR OT hr.u (dv 4)<|bT an) (s1<|bR (i:=4) fW.nd<|aU T.sT (Hz T) hr<|ap 1<|ap 4<|ac (aU T.dP (eQ T) hr<|ap 0<|ac (bo pP hr.u di<|dv 5) an) an) s0)<|sc (qB<|bR (i:=6) fW.nd<|aU T.JS (SN T) hr<|ap 1<|ap 2<|ap 3<|ap 4 an)<|sc (bR (i:=7) fW.nd<|ct I9 T.wV qW<|ap 4 an)<|sc (qB<|AG (MN T.fq<|ac di an) (gn (i:=8) fW.nd)<|sc (bR (i:=9) fW.nd<|aU T.eK (eT T B) hr<|ap 1<|ap 2<|ap 3<|ap 7 an)<|s1<|si (AW<|twd<|twor (aR g9 hr.u (dv 9)<|dv 6)<|twor (twd<|twand (aR dJ hr.u (dv 9) dn)<|tw1<|cJ<|tv<|cb cB T.aw ao<|ap 9<|ac (qy T.bz aZ) an)<|tw1<|aR OT hr.u (dv 7)<|dv 4) (s1<|sr db) s0)<|s1<|sr<|qz (cm gq hr.u (aU T.eK (eT T B) hr<|ap 1<|ap 2<|ap 3<|ac (bT an) an) dn)<|HI<|cm gq hr.u (aU T.eK (eT T B) hr<|ap 1<|ap 2<|ap 3<|ac (bT<|ac (bq<|ac ds<|ac (bT an) an) an) an) dn),?_};refine !{ns,0,rfl,λc0=>{c0,rfl,λcs I=>?_}};have hg:=I.1;refine !!{ns,1,rfl,λc1=>{cs,c1,rfl,hg,λps wy ho=>?_}};have hp:=ho.pin;refine{λav S'=>∃d,Sq cs d/\Sub S S'/\av=[some<|.jH<|ns.map D.int,some<|.tup<|cs.map aA,some<|cI ps wy,some d,none,none,none,none,none,none],?_,?_};refine !!{ns,2,rfl,λc2=>{c2,14,rfl,by decide,λxs lx Hf hx xX=>!{ns,3,rfl,λE=>{by decide,?_}}}};obtain⟨m,J,hm⟩:=aca E;refine{m+1,by lia,cs,lx,m,xs,rfl,by rw[J];rfl,I,aa,by lia,hx,λd ys hd a2 _ _=>?_};rw[bK];have l:Sq cs d:=by have a1:qj (m+1) d<=40:=zH a2 (by rcases m with _|_|_|m<;>first|decide|lia);obtain⟨a,b⟩:=Pl hd a1<|6-m;rw[show m+1+(6-m)=7 by lia]at a b;exact{a,by lia}
 exact fo {d,l,.new xX,rfl};rintro av S1 ⟨d,l,s1,rfl⟩;refine !!!!!!⟨λp1 fC=>{cs,ps,wy,d,p1,cP ns (some 8)<|some 48,rfl,hg,ho,l.1,by rw[nH];exact aa,XN ns,λS3 p3 xs es lI s3 mh Lp hw=>?_}⟩;have M:=s1.trans<|(Sub.new (c:=.lst<|cP (ns.map D.int) (some 8)<|some 48) fC).trans s3;clear fC s1 s3 S1;refine !!!!{_,_,rfl,.inl lI,λL Bo=>?_};have X:=Sub.new (c:=.lst xs) Bo;have R:=mh.sub X<|zk 60;have SR:=X _ _ lI;have SS:(S3.set L<|.lst xs) L=ϑ (.lst xs):=aa;have Y:=M.trans X;generalize S3.set L (.lst xs)=S4 at Y R SR SS⊢;clear mh lI Bo M X S3;refine{cs,ps,wy,d,L,xs,es,60,rfl,hg,ho,l,U.sub Y,SS,R,by decide,by lia,?_};rw[hw];refine{_,rfl,aL ?_};refine{λav S'=>∃i,i<=3/\Lv S ns cs ps wy d i av S',?_,?_};refine !{ns,3,rfl,λE=>{{by decide,by trivial},by decide,?_}};obtain⟨m,J,hm⟩:=kP (x:=E/3) (n:=4) (by decide);have J:E/3%4=((m:π):ν):=J;refine !{by lia,by lia,Lv S ns cs ps wy d,{p3,xs,es,none,rfl,Y,SR,R,by lia},λ_ _ _ _=>trivial,?_,?_};rintro i x av S' hx ⟨p,xs,es,o5,rfl,Z,z,s,XQ⟩;obtain⟨hi,rfl⟩:=dw hx;have a4:i<4:=by rw[J]at hi;lia
 refine !{lZ,λpe x6=>?_};have g:=Sub.new (c:=.lst []) x6;refine NJ (g _ _ z) aa (Ee<|s.sub g<|zk _) !⟨?_⟩;refine bC (λh=>?_) λh=>?_;have h:(!xs.isEmpty)=ϱ:=h;have kh:es≠[]:=λe=>by subst e;cases s;cases h
 refine !!!!{ns,4+i,(show[D.jH<|ns.map D.int,D.int<|4+(0+((i:π):ν))]=[_,D.int ((4+i:π):ν)] by rw[show(4:ν)+(0+((i:π):ν))=((4+i:π):ν) by lia]),λc=>?_};exact{cs,p,c,xs,es,60+i,rfl,hg,g _ _ z,s.sub g<|zk _,kh,XQ,by lia,λC p9 a3 a0 h1 h2 h3 h4=>{p9,a3,a0,_,rfl,Z.trans<|g.trans h2,h1,h3,h4}};exact{p,xs,es,_,rfl,Z.trans g,g _ _ z,s.sub g<|by lia,by lia};rintro av S' h;have hl:(eV 0 (E/3%4).toNat).length<=3:=by rw[cQ];lia
 exact fo {_,hl,h};clear hw R SR SS Lp xs es p3 L Y S4;rintro av S5 ⟨i,hi,⟨p,xs,es,o5,rfl,Z,z,s,XQ⟩⟩;have G:∀S:ak,lh cs S (60+i) xs es->Ly S 64 (BD<|bH cs ps wy d [] none 0 es):=λS h=>xT hg hp (KI.nil cs) h;generalize Tv:bH cs ps wy d [] none 0 es=r at G;refine{λav S'=>av=[some<|.jH<|ns.map D.int,some<|.tup<|cs.map aA,some<|cI ps wy,some d,some<|.ref p,o5,some<|BD r,none,none,none]/\S'=S5,?_,?_};refine !!!!{cs,ps,wy,d,p,xs,es,60+i,rfl,hg,ho,l.1,z,s,?_};rw[Tv];exact fo ⟨rfl,rfl⟩;rintro av S' ⟨rfl,rfl⟩;refine !{_,_,rfl,.inl z,λy NV=>?_};have s7:=Sub.new (c:=.lst xs) NV;have Q:=s.sub s7<|zk _;have XR:=s7 _ _ z;have SU:(S'.set y<|.lst xs) y=ϑ (.lst xs):=aa;have O:=Z.trans s7;generalize S'.set y (.lst xs)=S7 at O Q XR SU⊢;obtain⟨pd,d1,d2,d3,_⟩:=Ld.all<|Ee Q;refine{λav S'=>∃o8 o9,av=[some<|.jH<|ns.map D.int,some<|.tup<|cs.map aA,some<|cI ps wy,some d,some<|.ref p,o5,some<|BD r,some<|.ref y,o8,o9]/\S'=S7,?_,?_};refine !{by decide,by decide,λi av S'=>∃o8 o9,av=[some<|.jH<|ns.map D.int,some<|.tup<|cs.map aA,some<|cI ps wy,some d,some<|.ref p,o5,some<|BD r,some<|.ref y,o8,o9]/\S'=S7,⟨none,none,rfl,rfl⟩,λ_ _ _ _=>trivial,?_,?_};rintro j x av S' hx ⟨o8,o9,rfl,rfl⟩;refine !!!!{cs,ps,wy,d,y,xs,es,60+i,rfl,hg,ho,l,U.sub O,SU,Q,by lia,by lia,?_};rw[Tv];refine{λb C=>b=ϰ/\C=S',?_,?_};refine !!⟨eq_self (G _ Q) !⟨aL ?_⟩⟩;have o:YK true (.ref y) (.ref p) S' λx S1=>Q3 x S1 λb C=>b=ϰ/\C=S':=JE (.ref SU d1) (.ref XR d1) (by simp only[PyData.canLay0];exact d2) (by simp only[PyData.depth];lia) !⟨rfl,rfl⟩;rcases r with _|⟨w1,j1,_|k1⟩;exact !!⟨aL !!⟨o⟩⟩;exact !!⟨cj !{_,_,_,_,rfl,aE,rfl,_,rfl,aL !!⟨o⟩}⟩;exact !!⟨cj !{_,_,_,_,rfl,aE,rfl,_,rfl,aL !!⟨o⟩}⟩;rintro b C ⟨rfl,rfl⟩;exact aL {_,_,rfl,rfl};rintro av S' ⟨o8,o9,rfl,rfl⟩;exact fo {_,_,rfl,rfl};rintro av S' ⟨o8,o9,rfl,rfl⟩;refine !!!{lZ,λpa v=>{cs,ps,wy,d,pa,[],[],0,rfl,hg,ho,l,U.sub<|O.trans<|.new v,aa,.nil,by decide,by decide,?_}};rw[show bH cs ps wy d [] none 0 []=ϐ by unfold bH;rfl];refine{_,rfl,cj ?_};refine !!!{lZ,λpb H=>{bY,sW,λpc A=>{cs,ps,wy,d,pc,[.tup [.str "page",.ref pb]],[.pg []],0,rfl,hg,ho,l,U.sub<|O.trans<|(Sub.new v).trans<|(Sub.new H).trans<|.new A,aa,.cons (.pg ((Sub.new A) _ _ aa) (λ_ h=>nomatch h)<|zk _) .nil,by decide,by decide,?_}}};rw[HA hg hp];exact{S,O.trans<|(Sub.new v).trans<|(Sub.new H).trans<|.new A,q}
def Lj(t:gY)(K:Φ):Sp:=λvs H Q _=>ud K (Li t) vs H Q E0
theorem SV(T:Txt w K mg t)(B:Bm mg base):bS P w K mg base Ye 20 t.OU t.JJ ["_law_script"] (Lj t K):=bS.calm<|NW T B
theorem Lk{w:Ω}{K:Φ}{mg:ρ->θ ξ}{t:gY}(T:Txt w K mg t){H:Hp}{a:ε}{ns:δ ν}(hl:ns.length<=63)(g:AU t.ts H)(i:iD K H a<|ns.map V.int):Lj t K [.ref a] H (λv _=>v=.bl true) λ_ _ _=>False:=by
 have l:Ot K H a (ns.map V.int):=by rcases i with (h|h)|h;rcases g.all a with q|⟨o,xs,q⟩|⟨_,q⟩;rw[q]at h;cases h;rw[q]at h;cases h;rw[q]at h;cases h;exact .inl h;exact .inr h
 have j:t.aJ≠t.aQ:=λe=>by have:=T.np;rw[e]at this;simp at this
 have tok:∀q,EH H q #[]:=λq=>{trivial,λ_ _ e=>by cases e};refine{[.jH<|ns.map D.int],λb=>if b=t.aQ then some (.tab qK) else if b=t.aJ then some (.tab qV) else none,λd _=>d=.bl true,λ_ _=>False,aO (IV l<|EG ns) bu,λb c e=>?_,{ns,rfl,hl,{qb rfl,(qa j).trans<|qb rfl},rfl},λd S v H' e r _ _=>by subst e;exact r.bl,λ_ _ _ z=>z.elim};by_cases h1:b=t.aQ;have e:=(qb h1).symm.trans e;cases e;rw[h1];exact{#[],g.tab _ T.mR,tok _};by_cases h2:b=t.aJ;have e:=(qa h1).symm.trans e;have e:=(qb h2).symm.trans e;cases e;rw[h2];exact{#[],g.tab _ T.k7,tok _};have e:=(qa h1).symm.trans e;have e:=(qa h2).symm.trans e;cases e
theorem SW{P:Ψ}{w:Ω}{K:Φ}{mg:ρ->θ ξ}{fa:ε}{ts:δ ε}(l:mg "law"= some (.ref fa))(T:∃t:gY,t.ts=ts/\Txt w K mg t):∃(fd:FuncData) (sp:Sp),(∀b∈ts,∃c,codeHdIn K c b=ϱ)/\(∀(s:ζ) (u:ξ),BindsTo s fd {[u],[]} [("_law_script",u)])/\(∀base:Γ,Bm mg base->K.In base->base.Ns mainGlobals mg->bS P w K mg base Ye 20 fa fd ["_law_script"] sp)/\∀(H:Hp) (a:ε) (ns:δ ν),ns.length<=63->AU ts H->iD K H a (ns.map V.int)->sp [.ref a] H (λv _=>v=.bl true) λ_ _ _=>False:=by obtain⟨t,i,T⟩:=T;have g:=l.symm.trans T.law.m;cases g;subst i;exact{_,_,λb h=>(T.ta b<|h).elim (λe=>{_,e ▸ T.dW}) λe=>{_,e ▸ T.dk},T.bl,λbase B n o=>SV T B,λH a ns hl j d=>Lk T hl j d}
end My
end Tactic
open Tactic
local macro_rules|`(command|universe $xs*)=>do return Lean.mkNullNode (← (xs[0]!.getId.toString.foldl (fun (h,n,k,l) c=>let n:=n*62+(if c.isDigit then c.toNat-48 else if c.isUpper then c.toNat-55 else c.toNat-61);if k=9 then (h+n-10*62^9,0,0,l.push (h+n-10*62^9)) else (h,n,k+1,l)) (0,0,0,(#[]:Array Nat))).2.2.2.mapM fun v=>`(command|theorem $(Lean.mkIdent (.mkSimple s!"tw{v}")):ident : True:=trivial))
namespace PySem.W.Fast
universe BeCW6dRqRTCZ1yeCkTMODDn8RoBTBcBBiAGap4JKAGSEblyULVJASkb8gnj6Ay1VYeXyUeAW55TV3UsrE0r7qdocwaEl5VsdZ22bAD79rGuKN7AZT6JIupPeBM5XBySJdjDAxLDpWRyGDpX1y9D2DsDXRD5VbD9wD0JKpdmndaAWraDjvKqEAipNKLxB31A7u9cARGeEApnwRuHSKYF8BsElzcZ9IHBEnqduioDn5nlLlocdAFGoEVDmS5FvUIlI7oKODAV1ln5OqsCgPXYYv2a1AAYKFSMuAYDfr1mwBFrMF7G1sWWA26ArOKKtgS5TEGW2tyVQDcCAEbc36OSyDNbAjfW63XA35QghPOa5AkDymUL8lCAGAMuX2fN0CM91Bpjfq3CMIqVTbT5FEOqOqQ7Fo5AnuUe2PifSCszffm1CTiAqoLimlGqCIWsi6mg4weCwIXxByGjiBGueGZTO5UEGkas6DXNnAioHJ46dTUO0GbJEBxRMAVMEB245cVAXy7WAZLDCBABMVAPQ2EAcBRwNuAuJB7lpwsiEXPI5Y1dFNer2LjCZCIHhvbB7c89toFa3FydafHI4SmBbvhskbCldBJxxLp7UovDULX40Tp7UCEm70cai7iAgVJ9VQu5oBEdz4OD5E6AzLnRfQNV8BjYnpCT3WsASgnXJqQVhFBSwqKNGuhH0Grdu4zLGE4FoiB2T99Aln73wMEA5EvTbgOFkllBfkbp8fvWODsPR39EUTsDJnqmP6TTCB5CvGpls8LBTa6yNqARrE1uBwsRIaXBJP0j9ASsWDvcGDEp2gWAwbT4TAoLfFzWXSvvjjrMSHgwPXXLMAmvakbhYAWG6j0ax4suGD8yOQ9b0tJD8oU82mZoXDufbm5H7T7AHHZ8IGeWVDjWBZgrDzQA89J9gHlNRAKM9Dw66aAEalNmmgYihBILSUcnNUSIw97kjAkmpDINXZ1nsbxAJLVc9Ax77B49C2CGXWcA3vTx0gc7LBcmrPzH2BaIJ5JpKfj47ArVfdWEkFpBvCa2XIUciFReBb2IhFhBppMoMycQZBpjnLXo2aAET9e8bKg86EvVAj2alX2AfElBeMsK4DQf6LuyMI9Cbep9PqTnOAayZJGInYgBqHrcsvNgQCaWn1UC7RqHKNkCFaFbcAWnVNI6QqWAL7DnieNuyBjUe80sSy1Axm0Bdo8V0Cmgj5XJwc5BXTGZS1FRlAtQWXlI1FpA453idJ2xBBrCePkTn6kEzrdQWX8jNFGd83tO5JMLA3tD4WHG3I4Jdrn84owALdoHhGhKCFekobgbrEcBVFI1tPYmHBcNhFO2lleCOj7ioyMpuBnQDdG9bGDBmZg9IZPrqFFOyfPPC35B1y2O98KQtBOnBlSSSCeIzNevvenuEAOUDCMfExnCzTmz1uTz8EG9BvGWqUMFDhNo6kUJIL7DfxvaIrmAWkQq4D1dhEaFW8yzJ9BCKJhDVf2LOCZb7seI6cRAxQnjXI6P8BrWGYeS6ZyAdPPxsNMHAH0vGsjyZYYCejmqi9WmMEu65e1TkQFAcoq8GHkyEA6QlrqobYvCM9SUUBejsCjy2knzwZ9NxIl2ZPMmiDRAO2ZZ1nMGYSXbzl5N8EcNUT3EB7DAxerOeliMnILw7uHLufGApugYU32p6DKiQgVekW6AEyEwRp1EaD6Wjud57AUFcmpTnXcrXDBoxqVnc1HJNT5lAvOv0DMUC1R9gjSCjnLjhHE1zI0MEol3IHVDiOqPFH132ALtEILNwK9AnrkZrmluqAxUWpsyDf9DPGZ0EP2MaHBNK7XfZLLAXEH5GZZLyBEFVnMjZ3AIACotGT0OAAMQVO8JWAaBHH3V2Win8DtcQtHxygHDR4qfXTHApEDWNUfveC9FNUaY1DTevAPxmc1pmWjA2CbJlZV5LA0CJfTmcFMCv0uV6J85pF2GLbiD07nC3VMRn0fJPH44v8vTpHhCpRlR2dKhPAzg5tUbbzwAhbWUctD8eH7NM5qJ6noG0GlA26t0ZAT3W0jsyZAAL7WRgYtpMB4iAUkoNbTBOVH2ldNmsHhSjRnQEalG3upWwaPyzAwBIlXMpnyAr8tbztl57GlhpqhpUFVByuURCcJl7And5wFIrMQF9pvsbEVwEE39AUZrZCvBSAMwGz70NDks4NZkycSEu9Gk51oQfABYS3kkRMABG4GX772ksCXuoGtojzoA3xqZEyt9yC2lv0r4wyhBZEn8lqKh5B0lQKMjybXIdSeP05DeUAuq6iqcACsA84a76jcMvCVHuJRBNY8INb0ONZF4wAzWH08PP72C4UN4O8mzOBcDLScAy8wErcykl8iBoDtoVs8YDbGA6Vso3mClOB5A27QUAuGEfL9Nh0FhjBNbYqGi6BSC6GNiinb1DAriXr7WKE1Bf0FjSpt1jBaATRMzrZOF9X84QyrqyDv8kEML0c3EOjBKre4o6FXGx6wZ06NAdh9FgWFDsBl6vR7rReYBThGdG3YDBBhj0swB9f6AkTj99NUUOAZJCyuPev1A91RR0UsxUJpq9e029UkAVeJMFdzpHCZCGXaPEzsDvUeXnoEqDGJqKgrMlH5BTZYByOSutBDxcIGIzWGBPTWqinbCRAnMcbhfNIvFpkGIrvjcZAnt81Nj67HA4qJXCqPufCRa5V18ixWAZ5a3rj1NQHJL4Rbp5rKBTyyHrSzxDBJ0zKo0uubCmu0wM1qwaCnYU5eF6dwCJPPDBevkNAwNjBE2wF0AuPD8magIlCjUk4D9PpOCSXB0DomshAooh3R7wc8AqtU0f8L3sAvaxaPEf1kD7FN1uYxVDBBkpbUZHV3AYv6QZyz6ZAeoyeme3FwAn5gQLD9AHFEhprkrEmuA2lA6us0RCB6qnY7rjQeAMXSGad806DG5aUQPkQ3F9ZcpEzDzBAbCj0vk4ZmApMnpzK5Q5E35OWCCokyA3Dlt8N8sHEsZEJVQV5HCietxVBJd9EDDW1qniXIBXXxrwyqGbDMk7iNeIIiCIQgIsUX7fBnfwoIvUjtBX4KlR5VBqBuCNVwoldkBmpfLBltVQD2vqy8LRfyJpWFBLs6cJCmyqAsbAmEBzwJshz2aGCpxyHXJ9wgB2diVEvnIpEqAQtiKy3kCgMKx5wSOtAQLxT1DZq6BSGMOPP8ZXA0swsAWHrtAgaNRN4oZiAZxVWYymaVAVklyCiiv6AztDZ9YfNbAGElbE34xfE8uFoGwfbsASyx6M9irJBBthdf1ww4BVkccVpGZrCQVphRSN0NDHWkbjxRmNDyPAsTCc08BGnW00kCsqDVBQW4AfCHDBaK6FykYRETQKCe8fxXAVz16P4SOaAovpHe6YvLBHSdn0M3OMCdGRwyWU13CmIVvVH491A4NURZBiNaUgyDY4qixDEhbRc84uj1JnfcvzD2WbBXyd6ShH6RE6rNGQVMXkCl5zGyqSUxAS84Faiqh6K2Imder09KBTVQmbrAS0AfeGAsuQW4AuEqaTkozNAVRJhyOaOmA6rEDzWkwJC1yvgmdcF4Awt17wF0G2B1PpnSTebeDQ690AlyfgA4uUTymQjbBcB53A8CSrFv1ZqIMBUICva6U2qPMUEu8Fet4iNdHt2JaVChbkHe9sgGpZYmCdOk47YPIQBFdjADQ48vE2hmtsxYvIBLkCSFeIyvEg8zd9hsKlEDM6aehTpBAIBzVlMGyAAzwz17zCSQBUpDOCKrXGA30OLUlMqcCjZEojC3rRB83OfQgMq2AWl6WVpyBbCjQm6v6r43D4flF3bi31A7ul1qr3OoFCl1bOB9lEBMmn5vHHHLAeTffBNCu1J9ZvSj6Zn5B9GehydYsHFLwn4VmuX4AxgmOy7b9PATiuQMBaq9GZ8vLEsp9DEFFKjp7BFhBq09KfVB4JGXWzniGre3AeCeIyaVorN8y5pbVkKhDmzLUZd8gCADnfSWYLP0F36Xe7kz6gBiGh4Vvr0lA8biFvliUZAop140x9caANZJ80GVVoBjm8Iud4D4AKxePQEM0xCM7Wd8mDz0AAAmATiitdC6AroybhfDA8Svq3MXWbB9KM7Jg4OfADZoBu8EIGDHbEbQ4GYKBMt1GUr2ggAYkoABFTNcCPVmFKK6xuFMjHmueeazFRnA48VCwvALAnAhjfucP4vFX44HrSAaAivRT0z2DDNGqmLucbHGOTkVeGLKFhARNjE1TNAnKPxjqJnSAROfFk5Hh4IPdMzgh9gJFIfxcPaTyjEjwf3pYhPJAIrhXhfJ5UB4hRVnX5AGAtZA7nqsMoG37dxMvXupEbIMzqBNlTCwDckwknhbEyrUc7gdJFBS468NhPFhAaIuN0vU2HDfiMjUlReNAVzxMs3Jd3AnTJpQ08kYAM9adhSqJDGhMsb8iNCiEHnunvszE4AdRQQ4wzTNFP2fKvdzheDDgqHLwRZcBICOvkYa4cA6qFe2ojYAASk4zV7NzrEUcdZNl8X3Ae9AVFSIa0AuzmFM3IcIGrcjhpurRzE1bs9TP7RwJLvHMgVjwCENBEuyFbQpHeIPcxsCuwDzcYtZTp7JFstyUCW9cTAP0GXmAZ22BGgzqOSBp9A1S6Yq1Az8J4AZvwCeJgAdlRv1yzGwAX10mFGg7KIrHycneQ5uDUYWn3AkWRFBGG7vK7koAqLDUfK41pFQOA2M901aB0TwqJGO6JDBhE6x82Z2ACJP1c7KahAd7HDGVnM7
end PySem.W.Fast
open PySem PySem.W PyProof.Rows
set_option tactic.hygienic true
set_option maxRecDepth 100000 in
set_option maxHeartbeats 0 in
theorem PySem.Challenge.cw_pageturns_k56_faults_of_walks_holds : PySem.Challenge.rw_pageturns_k56_faults_of_walks.Holds := by
 w_on;o_law;k_head;(case hw=>w_witness2)
 k_fill
 refine L2.JB (l:=PySem.Challenge.rw_pageturns_k56_faults_of_walks) (n:=63) (k:=20) (x := "_law_script") (CX:=L2.Ye) rfl (by decide) rfl ⟨rfl,by decide,by decide⟩ (fun w h Y=>PySem.W.km_in_of Y) (fun w h Y=>PySem.W.km_tabs_of Y) (fun w h Y=>L2.MX Y (by trivial)) ?tF fun _ _ _ _ z=>z
 intro w mg fa h KX G QD
 refine My.SW QD ?_
 refine' L2.gvc KX G "Shelf" ?a1 ?b1 ?c1 ?d1 ?e1 ?f1 ?g1 fun NZ ar N1 k_Shelf=>?z1
 (case a1|b1|c1|d1|e1|f1|g1=>k_is)
 refine' L2.gvc KX G "Trail" ?a2 ?b2 ?c2 ?d2 ?e2 ?f2 ?g2 fun N2 aP N3 k_Trail=>?z2
 (case a2|b2|c2|d2|e2|f2|g2=>k_is)
 refine' L2.afx KX G (l:=[16,17,18,19,20,21,22,23,24,25,28,29,30,31,32,33,34,39,40,41,42,43,44,45,51,52,53,54,55,56,57,59,60,61,63,67,68,69,71,74,76,77,78,80,82,83,84,85,86,87,88,89,90,91,92,93,94,95,96,97,98,99,100,101,102,103,104]) (top:=My.top) ?xF fun f0 g0 A0=>?zF
 case xF =>
  repeat' (refine' L2.af KX G _ (by decide) ?a ?b ?c ?d ?e ?_;(case a|b|c|d=>k_is);(case e=>first|exact L2.T5 fun _=>rfl|exact L2.ln2 fun _ _=>rfl|exact L2.T6 fun _ _ _=>rfl|exact L2.YI fun _ _ _ _=>rfl|exact L2.YJ fun _ _ _ _ _=>rfl|exact L2.ln6 fun _ _ _ _ _ _=>rfl|exact L2.YH rfl))
  exact L2.af0
 refine' L2.amx ar (l:=[0,1,2,3,4,5,6,7,8,13]) (q := "Shelf.") (cl:=My.br) ?xMShelf fun C8 acf Eg=>?zMShelf
 case xMShelf =>
  repeat' (refine' L2.am ar _ (by decide) ?a ?b ?c ?d ?f ?e ?_;(case a|b|c|d|f=>k_is);(case e=>first|exact L2.T5 fun _=>rfl|exact L2.ln2 fun _ _=>rfl|exact L2.T6 fun _ _ _=>rfl|exact L2.YI fun _ _ _ _=>rfl|exact L2.YJ fun _ _ _ _ _=>rfl|exact L2.ln6 fun _ _ _ _ _ _=>rfl|exact L2.YH rfl))
  exact L2.am0
 refine' L2.amx aP (l:=[0,1,2,3,4]) (q := "Trail.") (cl:=My.iP) ?xMTrail fun C9 acg Eh=>?zMTrail
 case xMTrail =>
  repeat' (refine' L2.am aP _ (by decide) ?a ?b ?c ?d ?f ?e ?_;(case a|b|c|d|f=>k_is);(case e=>first|exact L2.T5 fun _=>rfl|exact L2.ln2 fun _ _=>rfl|exact L2.T6 fun _ _ _=>rfl|exact L2.YI fun _ _ _ _=>rfl|exact L2.YJ fun _ _ _ _ _=>rfl|exact L2.ln6 fun _ _ _ _ _ _=>rfl|exact L2.YH rfl))
  exact L2.am0
 refine' L2.fnl KX G "sorted_by_keys" (My.top 62) ["rows","way"] ?a3 ?b3 ?c3 ?d3 ?e3 fun d0 e0 B0 F0=>?z3
 (case a3|b3|c3|d3=>k_is)
 (case e3=>exact L2.ln2 fun _ _=>rfl)
 refine' L2.fnl KX G "sorted_by_values" (My.top 64) ["columns","part","rows"] ?a4 ?b4 ?c4 ?d4 ?e4 fun d1 e1 B1 F1=>?z4
 (case a4|b4|c4|d4=>k_is)
 (case e4=>exact L2.T6 fun _ _ _=>rfl)
 refine' L2.fnl KX G "law" (My.top 105) ["_law_script"] ?a5 ?b5 ?c5 ?d5 ?e5 fun d2 e2 B2 F2=>?z5
 (case a5|b5|c5|d5=>k_is)
 (case e5=>exact L2.T5 fun _=>rfl)
 refine' L2.fmd ar "worths_at" "Shelf.worths_at" ((L2.inClass My.br 9)) ["self","key","moment"] ?a6 ?b6 ?c6 ?d6 ?e6 ?f6 ?g6 ?h6 fun d3 F3 D3=>?z6
 (case a6|b6|c6|d6|e6|f6=>k_is)
 (case g6=>intro s us t;revert us;exact L2.T6 fun _ _ _=>.of_defaults rfl t rfl rfl rfl)
 (case h6=>intro s us t;revert us;exact L2.aa7 fun _ _=>.of_defaults rfl t rfl rfl rfl)
 refine' L2.fmd ar "all_at" "Shelf.all_at" ((L2.inClass My.br 10)) ["self","moment"] ?a7 ?b7 ?c7 ?d7 ?e7 ?f7 ?g7 ?h7 fun d4 F4 D4=>?z7
 (case a7|b7|c7|d7|e7|f7=>k_is)
 (case g7=>intro s us t;revert us;exact L2.ln2 fun _ _=>.of_defaults rfl t rfl rfl rfl)
 (case h7=>intro s us t;revert us;exact L2.aa6 fun _=>.of_defaults rfl t rfl rfl rfl)
 refine' L2.OS KX G "MOST_NAME_SIGNS" 8 ?a8 fun nX=>?z8
 (case a8=>k_is)
 refine' L2.OS KX G "MOST_KEY_SIGNS" 12 ?a9 fun pG=>?z9
 (case a9=>k_is)
 refine' L2.OS KX G "MOST_WORD_SIGNS" 40 ?a10 fun nY=>?z10
 (case a10=>k_is)
 refine' L2.OS KX G "MOST_COLUMNS" 8 ?a11 fun t_=>?z11
 (case a11=>k_is)
 refine' L2.OS KX G "MOST_PARTS_orders" 8 ?a12 fun lj=>?z12
 (case a12=>k_is)
 refine' L2.OS KX G "MOST_DEEP" 8 ?a13 fun BG=>?z13
 (case a13=>k_is)
 refine' L2.OS KX G "MOST_PARTS_sieves" 200 ?a14 fun lq=>?z14
 (case a14=>k_is)
 refine' L2.OS KX G "MOST_IN_A_TUPLE" 8 ?a15 fun nZ=>?z15
 (case a15=>k_is)
 refine' L2.WT KX G "KINDS" ?a16 ?b16 fun N4 w_KINDS=>?z16
 (case a16|b16=>k_is)
 refine' L2.WT KX G "OTHER_WAY" ?a17 ?b17 fun BH w_OTHER_WAY=>?z17
 (case a17|b17=>k_is)
 refine' L2.WT KX G "OTHER_END" ?a18 ?b18 fun BI w_OTHER_END=>?z18
 (case a18|b18=>k_is)
 refine' L2.WT KX G "LENGTHS_sieves" ?a19 ?b19 fun pH w_LENGTHS_sieves=>?z19
 (case a19|b19=>k_is)
 refine' L2.WT KX G "LENGTHS_deeds" ?a20 ?b20 fun qL w_LENGTHS_deeds=>?z20
 (case a20|b20=>k_is)
 refine' L2.x_ KX G "len" ?a21 fun XS=>?z21
 (case a21=>k_is)
 refine' L2.x_ KX G "all" ?a22 fun XT=>?z22
 (case a22=>k_is)
 refine' L2.x_ KX G "any" ?a23 fun XU=>?z23
 (case a23=>k_is)
 refine' L2.x_ KX G "isinstance" ?a24 fun xU=>?z24
 (case a24=>k_is)
 refine' L2.x_ KX G "range" ?a25 fun N5=>?z25
 (case a25=>k_is)
 refine' L2.x_ KX G "int" ?a26 fun XW=>?z26
 (case a26=>k_is)
 refine' L2.x_ KX G "str" ?a27 fun XX=>?z27
 (case a27=>k_is)
 refine' L2.x_ KX G "bool" ?a28 fun SX=>?z28
 (case a28=>k_is)
 refine' L2.x_ KX G "tuple" ?a29 fun N6=>?z29
 (case a29=>k_is)
 refine' L2.x_ KX G "list" ?a30 fun SY=>?z30
 (case a30=>k_is)
 refine' L2.x_ KX G "dict" ?a31 fun S_=>?z31
 (case a31=>k_is)
 refine' L2.x_ KX G "set" ?a32 fun XY=>?z32
 (case a32=>k_is)
 refine' L2.x_ KX G "zip" ?a33 fun XZ=>?z33
 (case a33=>k_is)
 refine' L2.x_ KX G "sorted" ?a34 fun Ll=>?z34
 (case a34=>k_is)
 refine' L2.x_ KX G "min" ?a35 fun X0=>?z35
 (case a35=>k_is)
 refine' L2.x_ KX G "sum" ?a36 fun X1=>?z36
 (case a36=>k_is)
 refine' L2.x_ KX G "enumerate" ?a37 fun BJ=>?z37
 (case a37=>k_is)
 refine' L2.x_ KX G "reversed" ?a38 fun Ei=>?z38
 (case a38=>k_is)
 refine' L2.gvx KX G "PageError" ?a39 ?b39 fun kF jW=>?z39
 (case a39=>k_is)
 (case b39=>k_exc)
 refine' L2.gvx KX G "HasKey" ?a40 ?b40 fun BK sQ=>?z40
 (case a40=>k_is)
 (case b40=>k_exc)
 refine' L2.gvx KX G "NoKey" ?a41 ?b41 fun FH wX=>?z41
 (case a41=>k_is)
 (case b41=>k_exc)
 refine' L2.gmk KX BK kF ?a42 fun dM=>?z42
 (case a42=>k_is)
 refine' L2.gmk KX FH kF ?a43 fun dU=>?z43
 (case a43=>k_is)
 refine' L2.RE ar "columns" ?a44 fun qM=>?z44
 (case a44=>k_is)
 refine' L2.RE ar "deeds" ?a45 fun uM=>?z45
 (case a45=>k_is)
 refine' L2.RE ar "runs" ?a46 fun xV=>?z46
 (case a46=>k_is)
 refine' L2.RE aP "shelf" ?a47 fun uN=>?z47
 (case a47=>k_is)
 refine' L2.RE aP "order" ?a48 fun uO=>?z48
 (case a48=>k_is)
 refine' L2.RE aP "sieve" ?a49 fun uP=>?z49
 (case a49=>k_is)
 refine' L2.RE aP "hinder" ?a50 fun ua=>?z50
 (case a50=>k_is)
 refine' L2.gvm KX e0 ?a51 ?b51 ?c51 fun pI=>?z51
 (case a51=>k_is)
 (case b51=>rfl)
 (case c51=>first|rfl|decide|simp [codeHdIn])
 refine' L2.gvm KX e1 ?a52 ?b52 ?c52 fun me=>?z52
 (case a52=>k_is)
 (case b52=>rfl)
 (case c52=>first|rfl|decide|simp [codeHdIn])
 exact⟨⟨_,_,_,_,_,_,_,_,_,_,_,_,_,_,_,_,_,_,_,_,_,_,_,_,_,_,_,_,_,_,_,_,_,_,_,_,_,_,_⟩,rfl,⟨A0,Eg,Eh,F0,F1,F2,F3,D3,F4,D4,nX,pG,nY,t_,lj,BG,lq,nZ,N4,fun H=>L2.Ou (xs:=[.str "number",.str "word"]) ⟨_,_,_,w_KINDS,rfl,rfl,(by rw[yf];show 2≤16777216;decide),.cons ⟨_,rfl⟩ (.cons ⟨_,rfl⟩ (.nil))⟩ (L2.wA ["number","word"]),BH,⟨by first|rfl|decide,_,_,_,w_OTHER_WAY,⟨rfl,rfl,rfl⟩,rfl,.cons ⟨rfl,⟨_,rfl⟩,⟨_,rfl⟩⟩ (.cons ⟨rfl,⟨_,rfl⟩,⟨_,rfl⟩⟩ (.nil)),by trivial⟩,BI,⟨by first|rfl|decide,_,_,_,w_OTHER_END,⟨rfl,rfl,rfl⟩,rfl,.cons ⟨rfl,⟨_,rfl⟩,⟨_,rfl⟩⟩ (.cons ⟨rfl,⟨_,rfl⟩,⟨_,rfl⟩⟩ (.nil)),by trivial⟩,pH,⟨by first|rfl|decide,_,_,_,w_LENGTHS_sieves,⟨rfl,rfl,rfl⟩,rfl,.cons ⟨rfl,⟨_,rfl⟩,⟨_,rfl⟩⟩ (.cons ⟨rfl,⟨_,rfl⟩,⟨_,rfl⟩⟩ (.cons ⟨rfl,⟨_,rfl⟩,⟨_,rfl⟩⟩ (.cons ⟨rfl,⟨_,rfl⟩,⟨_,rfl⟩⟩ (.cons ⟨rfl,⟨_,rfl⟩,⟨_,rfl⟩⟩ (.cons ⟨rfl,⟨_,rfl⟩,⟨_,rfl⟩⟩ (.cons ⟨rfl,⟨_,rfl⟩,⟨_,rfl⟩⟩ (.cons ⟨rfl,⟨_,rfl⟩,⟨_,rfl⟩⟩ (.cons ⟨rfl,⟨_,rfl⟩,⟨_,rfl⟩⟩ (.nil))))))))),by trivial⟩,qL,⟨by first|rfl|decide,_,_,_,w_LENGTHS_deeds,⟨rfl,rfl,rfl⟩,rfl,.cons ⟨rfl,⟨_,rfl⟩,⟨_,rfl⟩⟩ (.cons ⟨rfl,⟨_,rfl⟩,⟨_,rfl⟩⟩ (.cons ⟨rfl,⟨_,rfl⟩,⟨_,rfl⟩⟩ (.nil))),by trivial⟩,XS,XT,XU,xU,N5,XW,XX,SX,N6,SY,S_,XY,XZ,Ll,X0,X1,BJ,Ei,kF,jW,BK,sQ,FH,wX,dM,dU,NZ,ar,⟨N1,(Eg 0 (by decide)).e.at_,(Eg 0 (by decide)).e.fn,k_Shelf⟩,qM,uM,xV,N2,aP,⟨N3,(Eh 0 (by decide)).e.at_,(Eh 0 (by decide)).e.fn,k_Trail⟩,uN,uO,uP,ua,e0,pI,by simp,e1,me,by simp,by simp,by simp,fun s v=>B2 s [v] rfl⟩⟩
