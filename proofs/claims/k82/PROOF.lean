import PyProof.Rows.All
import Wide.All
import OpenK.AllK
import Wide.FinOn
import Lean
import PyProof.EqAt
import PyProof.EqKinds
import PyProof.TupleCall
import PyProof.NsDelKeeps
import KE.KIsBytes
import PyProof.Rows.SetFrom
import KE.KDictOf
import PyProof.AttrMissSeq
import PyProof.WalksMore
import PyProof.ZipIter
import PyProof.StrBlock2
import PyProof.StrBlockI
import PyProof.Rows.StrJoin2
import PyProof.Rows.CountFlat
import PyProof.Rows.Range3
import PyProof.SumWalkG
import PyProof.Rows.ListMulArg
import PyProof.FactsAll.tuple
import PyProof.EnumFor
import PyProof.EnumMake
import KE.KDictLaws
import KE.KDictSum
import KE.KRevIter
import PyProof.Rows.SortStr
import PyProof.Rows.SortWalk
import PyProof.AutoListH
import PyProof.StrLawsReplace
import PyProof.Rows.SortShellK
import KE.KLam
import KE.KSortKey
import KE.KNestM
import PyProof.EnumStmt
import PyProof.ListMulRoad
import PySem.Challenge.RW_pageturns_k82_whole_told_once
set_option compiler.extract_closed false
set_option hygiene false in
local macro_rules|`(tactic|obtain $p:rcasesPatMed)=>`(tactic|(rintro _ _ _ _ _ _ _ S R Z hr ($p:rcasesPatMed);subst e))
local macro_rules|`(tactic| trivial)=>`(tactic| decide +kernel)
set_option Elab.async false
set_option linter.all false
set_option maxRecDepth 100000
set_option genInjectivity false
set_option genSizeOfSpec false
local macro_rules|`(δ $x)=>`(List $x)|`(θ $x)=>`(Option $x)|`(ψ $x $y)=>`(autoParam $x $y)|`(ω $x)=>`(decide $x)
local macro_rules|`($x:ident)=>match [(`π,`Nat),(`ρ,`PySem.Str),(`ε,`PySem.Addr),(`ν,`Int),(`ξ,`PySem.Value),(`ζ,`PySem.Shared),(`χ,`Bool),(`Γ,`PySem.Heap),(`Δ,`PySem.Expr),(`Φ,`PySem.W.Frag),(`Ψ,`PySem.Program),(`Ω,`PySem.World),(`ϕ,`PySem.Around)].lookup x.getId with|some v=>return Lean.mkIdentFrom x v|_=>if x.getId==`η then `(Prop) else Lean.Macro.throwUnsupported
namespace Tactic
theorem xz:type_of% @if_neg:=@if_neg
theorem xL:type_of% @if_pos:=@if_pos
theorem qQQ(h:True:=by rfl):True:=h
def qQJ:Lean.Syntax:=qQQ._auto_1
theorem qQX(h:True:=by decide):True:=h
def qQZ:Lean.Syntax:=qQX._auto_1
theorem qQK(h:True:=by intro _;rfl):True:=h
def qQ0:Lean.Syntax:=qQK._auto_1
theorem qQ1(h:True:=by with_unfolding_all rfl):True:=h
def qQ2:Lean.Syntax:=qQ1._auto_1
theorem qQ3(h:True:=by exact⟨rfl,rfl,rfl,rfl⟩):True:=h
def qQ4:Lean.Syntax:=qQ3._auto_1
theorem qQ5(h:True:=by first|exact .inl rfl|exact .inr rfl|assumption):True:=h
def qQ6:Lean.Syntax:=qQ5._auto_1
theorem qQ7(h:True:=by trivial):True:=h
def qQ8:Lean.Syntax:=qQ7._auto_1
theorem qQ9(h:True:=by first|exact .inl rfl|exact .inr rfl):True:=h
def qJQ:Lean.Syntax:=qQ9._auto_1
theorem qJJ(h:True:=by intro _ _ _ _ _;exact{Or.inl rfl,rfl}):True:=h
def qJX:Lean.Syntax:=qJJ._auto_1
theorem qJZ(h:True:=by first|decide|omega):True:=h
def qJK:Lean.Syntax:=qJZ._auto_1
theorem qJ0(h:True:=by first|exact Or.inl rfl|exact Or.inr rfl):True:=h
def qJ1:Lean.Syntax:=qJ0._auto_1
theorem qJ2(h:True:=by intro _ _ _ _ _;rfl):True:=h
def qJ3:Lean.Syntax:=qJ2._auto_1
theorem qJ4(h:True:=by exact{by trivial,rfl,rfl,λ_ _ _ _ _=>{Or.inl rfl,rfl}}):True:=h
def qJ5:Lean.Syntax:=qJ4._auto_1
local macro_rules|`({$a:term})=>`(⟨$a⟩)|`({$a:term,$b:term,*})=>`(⟨$a,$b,*⟩)
local macro_rules|`(!$t)=>do{let mut t:=t;let mut n:=1;for _ in [0:20] do{if let `(!$u):=t then{t:=u;n:=n+1}};let xs←(match t with|`(⟨$x,*⟩)=>pure x.getElems|`({$x:term,$y:term,*})=>pure (#[x]++y.getElems)|_=>Lean.Macro.throwUnsupported);let mut a:=xs;for _ in [0:n] do{a:=#[←`(_),←`(rfl)]++a};`(⟨$a,*⟩)}
open PySem.W (instObj methodObj hideAll hideAll_get of_hideAll Frag lookIn plainGet hasDictIn findIn handedIn plainGet_of isFn plainOver takerIn makesIn emptyDict specialIn keepIn mroIn kitOne kia_one kitx_list fnOf codeIn excIn callWith_K methodCall_KW envX kla_fn codeHdIn tabObj codeHd_of_K nsIn mg_of)
theorem za:type_of%@List.length_map:=@List.length_map
theorem zb:type_of%@PySem.Heap.get?_push_of_some:=@PySem.Heap.get?_push_of_some
theorem zc:type_of%@PySem.wpAny_bind:=@PySem.wpAny_bind
theorem zd:type_of%@Bool.false_ne_true:=@Bool.false_ne_true
theorem ze:type_of%@List.getElem?_eq_some_iff:=@List.getElem?_eq_some_iff
theorem zf:type_of%@List.getElem?_eq_getElem:=@List.getElem?_eq_getElem
theorem zg:type_of%@List.mem_map:=@List.mem_map
theorem zh:type_of%@List.mem_cons_of_mem:=@List.mem_cons_of_mem
theorem zi:type_of%@PySem.Heap.get?_push_size:=@PySem.Heap.get?_push_size
theorem zj:type_of%@List.mem_cons_self:=@List.mem_cons_self
theorem zk:type_of%@List.mem_cons:=@List.mem_cons
theorem zm:type_of%@Nat.le_refl:=@Nat.le_refl
theorem zo:type_of%@PySem.wpAny_pure:=@PySem.wpAny_pure
theorem zp:type_of%@List.getElem?_map:=@List.getElem?_map
theorem zq:type_of%@List.map_map:=@List.map_map
theorem zr:type_of%@List.size_toArray:=@List.size_toArray
theorem zt:type_of%@Nat.lt_of_lt_of_le:=@Nat.lt_of_lt_of_le
theorem zu:type_of%@decide_eq_true:=@decide_eq_true
theorem zw:type_of%@List.map_cons:=@List.map_cons
theorem zx:type_of%@PySem.Heap.lt_size:=@PySem.Heap.lt_size
theorem zy:type_of%@decide_eq_false:=@decide_eq_false
theorem zA:type_of%@List.length_append:=@List.length_append
theorem zB:type_of%@Nat.ne_of_lt:=@Nat.ne_of_lt
theorem zC:type_of%@List.mem_append_right:=@List.mem_append_right
theorem zD:type_of%@List.getD_eq_getElem?_getD:=@List.getD_eq_getElem?_getD
theorem zE:type_of%@of_decide_eq_true:=@of_decide_eq_true
theorem zG:type_of%@Nat.le_trans:=@Nat.le_trans
theorem zH:type_of%@List.mem_of_getElem?:=@List.mem_of_getElem?
theorem zI:type_of%@List.mem_singleton:=@List.mem_singleton
theorem zJ:type_of%@Bool.and_eq_true:=@Bool.and_eq_true
theorem zK:type_of%@decide_eq_true_eq:=@decide_eq_true_eq
theorem zL:type_of%@List.map_append:=@List.map_append
theorem zM:type_of%@Int.emod_lt_of_pos:=@Int.emod_lt_of_pos
theorem zN:type_of%@List.mem_append:=@List.mem_append
theorem zO:type_of%@List.length_cons:=@List.length_cons
theorem zP:type_of%@List.not_mem_nil:=@List.not_mem_nil
theorem zQ:type_of%@PySem.F.plainAttrs_list:=@PySem.F.plainAttrs_list
theorem zR:type_of%@Int.emod_nonneg:=@Int.emod_nonneg
theorem zS:type_of%@Option.some.inj:=@Option.some.inj
theorem zT:type_of%@Array.length_toList:=@Array.length_toList
theorem zU:type_of%@List.mem_range:=@List.mem_range
theorem zV:type_of%@List.mem_append_left:=@List.mem_append_left
theorem zW:type_of%@List.map_congr_left:=@List.map_congr_left
theorem zX:type_of%@Bool.false_and:=@Bool.false_and
theorem zY:type_of%@Nat.zero_le:=@Nat.zero_le
theorem zZ:type_of%@List.all_eq_true:=@List.all_eq_true
theorem ya:type_of%@PySem.Heap.size_push:=@PySem.Heap.size_push
theorem yb:type_of%@PySem.F.slot_list_append:=@PySem.F.slot_list_append
theorem yc:type_of%@PySem.F.type_list_append:=@PySem.F.type_list_append
theorem yd:type_of%@List.find?_cons:=@List.find?_cons
theorem ye:type_of%@of_decide_eq_false:=@of_decide_eq_false
theorem yf:type_of%@List.nodup_cons:=@List.nodup_cons
theorem yg:type_of%@List.lookup_cons:=@List.lookup_cons
theorem yh:type_of%@List.getElem?_of_mem:=@List.getElem?_of_mem
theorem yi:type_of%@Bool.true_and:=@Bool.true_and
theorem yj:type_of%@PySem.sizeLine_eq:=@PySem.sizeLine_eq
theorem yk:type_of%@PySem.wpAny_field:=@PySem.wpAny_field
theorem ym:type_of%@List.drop_eq_getElem_cons:=@List.drop_eq_getElem_cons
theorem yn:type_of%@List.length_take:=@List.length_take
theorem yo:type_of%@Bool.false_eq_true:=@Bool.false_eq_true
theorem yp:type_of%@List.mem_filter:=@List.mem_filter
theorem yq:type_of%@Bool.eq_iff_iff:=@Bool.eq_iff_iff
theorem yr:type_of%@Array.getElem?_toList:=@Array.getElem?_toList
theorem yt:type_of%@List.length_filter_le:=@List.length_filter_le
theorem yu:type_of%@PySem.mem_of_lookup:=@PySem.mem_of_lookup
theorem yw:type_of%@decide_eq_false_iff_not:=@decide_eq_false_iff_not
theorem yx:type_of%@List.any_eq_true:=@List.any_eq_true
theorem yy:type_of%@PySem.Heap.SameBut.update:=@PySem.Heap.SameBut.update
theorem yz:type_of%@PySem.Heap.get?_update_self:=@PySem.Heap.get?_update_self
theorem yA:type_of%@Nat.ne_of_gt:=@Nat.ne_of_gt
theorem yB:type_of%@PySem.Heap.get?_update_other:=@PySem.Heap.get?_update_other
theorem yC:type_of%@PySem.wpAny_truthy_bool:=@PySem.wpAny_truthy_bool
theorem yD:type_of%@PySem.wpAny_holding:=@PySem.wpAny_holding
theorem yE:type_of%@PySem.F.slot_dict_get:=@PySem.F.slot_dict_get
theorem yF:type_of%@PySem.Obj.data_mapFields:=@PySem.Obj.data_mapFields
theorem yG:type_of%@Nat.lt_irrefl:=@Nat.lt_irrefl
theorem yH:type_of%@PySem.wpAny_newObj_type:=@PySem.wpAny_newObj_type
theorem yI:type_of%@List.length_reverse:=@List.length_reverse
theorem yJ:type_of%@List.filter_sublist:=@List.filter_sublist
theorem yK:type_of%@Nat.lt_succ_self:=@Nat.lt_succ_self
theorem yL:type_of%@PySem.Calls.spliced_cons:=@PySem.Calls.spliced_cons
theorem yM:type_of%@PySem.wpAny_mono:=@PySem.wpAny_mono
theorem yN:type_of%@Sum.inr.inj:=@Sum.inr.inj
theorem yO:type_of%@Nat.le_of_lt:=@Nat.le_of_lt
theorem yP:type_of%@List.any_cons:=@List.any_cons
theorem yQ:type_of%@PySem.wpAny_call_entry:=@PySem.wpAny_call_entry
theorem yR:type_of%@PySem.wpAny_seqItems:=@PySem.wpAny_seqItems
theorem yS:type_of%@Bool.or_eq_true:=@Bool.or_eq_true
theorem yT:type_of%@PySem.codeAny_builtin:=@PySem.codeAny_builtin
theorem yU:type_of%@PySem.wpAny_setField:=@PySem.wpAny_setField
theorem yV:type_of%@Array.size_map:=@Array.size_map
theorem yW:type_of%@PySem.wpAny_rule:=@PySem.wpAny_rule
theorem yX:type_of%@PySem.wpAny_of_eq:=@PySem.wpAny_of_eq
theorem yY:type_of%@List.map_nil:=@List.map_nil
theorem yZ:type_of%@PySem.codeAny_mono:=@PySem.codeAny_mono
theorem y0:type_of%@PySem.Paired.length:=@PySem.Paired.length
theorem y1:type_of%@Bool.false_or:=@Bool.false_or
theorem y3:type_of%@beq_iff_eq:=@beq_iff_eq
theorem y4:type_of%@Nat.le_succ:=@Nat.le_succ
theorem y6:type_of%@Nat.zero_add:=@Nat.zero_add
namespace L2
open PySem PySem.Spec PyProof.Rows
abbrev Key:=Sum ν ρ
def keyIs:Key->ξ->χ|.inl k,v=>Value.isInt k v|.inr x,v=>Value.isStrOf x v
def X4(w:Ω):Key->ν|.inl k=>hashInt k|.inr x=>hashStr w x
theorem bh:∀{k:Key}{v:ξ},keyIs k v=true->(∃i t,k=Sum.inl i/\v=Value.int i t)\/(∃x t,k=Sum.inr x/\v=Value.str x t)|.inl i,v,h=>(by obtain⟨t,e⟩:=Value.isInt_shape (k:=i) (v:=v) h;exact .inl ⟨i,t,rfl,e⟩)|.inr x,v,h=>by obtain⟨t,e⟩:=Value.isStrOf_shape (x:=x) (v:=v) h;exact .inr ⟨x,t,rfl,e⟩
theorem EC(i:ν)(t:Tok):keyIs (.inl i) (.int i t)=true:=by simp[keyIs,Value.isInt]
theorem ED(x:ρ)(t:Tok):keyIs (.inr x) (.str x t)=true:=by simp[keyIs,Value.isStrOf]
theorem Om(a b:ν):ω ((Sum.inl a:Key)=Sum.inl b)=(a==b):=by by_cases e:a=b;subst e;simp;have h:¬(Sum.inl a:Key)=Sum.inl b:=λq=>e<|Sum.inl.inj q;rw[zy h];exact(beq_eq_false_iff_ne.mpr e).symm
theorem Oo(a b:ρ):ω ((Sum.inr a:Key)=Sum.inr b)=ω (a=b):=by by_cases e:a=b;subst e;simp;have h:¬(Sum.inr a:Key)=Sum.inr b:=λq=>e<|yN q;rw[zy h,zy e]
theorem Oq(a:ν)(b:ρ):ω ((Sum.inl a:Key)=Sum.inr b)=false:=zy λq=>nomatch q
theorem Ot(a:ρ)(b:ν):ω ((Sum.inr a:Key)=Sum.inl b)=false:=zy λq=>nomatch q
def aw(prog:Ψ)(w:Ω):PySem.KeyKind prog w Key where
 is:=keyIs
 hash:=X4 w
 inj:=λv a b ha hb=>by
  rcases bh ha with⟨i,t,rfl,rfl⟩|⟨x,t,rfl,rfl⟩
  ·rcases bh hb with⟨j,u,rfl,e⟩|⟨y,u,rfl,e⟩
   ·injection e with e1 _;rw[e1]
   ·exact nomatch e
  ·rcases bh hb with⟨j,u,rfl,e⟩|⟨y,u,rfl,e⟩
   ·exact nomatch e
   ·injection e with e1 _;rw[e1]
 byValue:=λk v h=>by
  rcases bh h with⟨i,t,rfl,rfl⟩|⟨x,t,rfl,rfl⟩<;>rfl
 pyHash:=λhv h=>by
  rcases bh hv with⟨i,t,rfl,rfl⟩|⟨x,t,rfl,rfl⟩
  ·exact wpAny_pyHash_int h
  ·exact wpAny_pyHash_str h
 eqBool:=λhu hv h=>by
  rcases bh hu with⟨i,t,rfl,rfl⟩|⟨x,t,rfl,rfl⟩
  ·rcases bh hv with⟨j,u,rfl,rfl⟩|⟨y,u,rfl,rfl⟩
   ·rw[Om]at h;exact wpAny_eqBool_int h
   ·rw[Oq]at h;exact SeqAt.EqAt.int_str i t y u _ _ _ _ h
  ·rcases bh hv with⟨j,u,rfl,rfl⟩|⟨y,u,rfl,rfl⟩
   ·rw[Ot]at h;exact SeqAt.EqAt.str_int x t j u _ _ _ _ h
   ·rw[Oo]at h;exact wpAny_eqBool_str h
 «strs»:=λk x t v h=>by
  rcases bh h with⟨i,u,rfl,e⟩|⟨y,u,rfl,e⟩
  ·exact nomatch e
  ·injection e with e1 _
   subst e1
   cases v<;>rfl
theorem nC(prog:Ψ)(w:Ω)(i:ν)(t:Tok):(aw prog w).is (.inl i) (.int i t)=true:=EC i t
theorem fG(prog:Ψ)(w:Ω)(x:ρ)(t:Tok):(aw prog w).is (.inr x) (.str x t)=true:=ED x t
set_option genInjectivity true in
set_option genSizeOfSpec true in
inductive V where
 |au|bl (b:χ)|int (i:ν)|str (x:ρ)|CW (b:Array UInt8)|Ou (b:UInt64)|ref (a:ε)|ty (n:String)
 deriving DecidableEq
def RelV:V->ξ->η|.au,u=>u=Value.none|.bl b,u=>u=Value.bool b|.int i,u=>∃t,u=Value.int i t|.str x,u=>∃t,u=Value.str x t|.CW b,u=>∃t,u=Value.bytes b t|.Ou b,u=>∃t,u=Value.float b t|.ref a,u=>u=Value.ref a|.ty n,u=>u=Value.type n
abbrev Vals:δ V->δ ξ->Prop:=Paired RelV
theorem Vals.length{xs:δ V}{us:δ ξ}(r:Vals xs us):xs.length=us.length:=y0 r
theorem Vals.get:∀{xs:δ V}{us:δ ξ}{i:π}{x:V},Vals xs us->xs[i]?=some x->∃u,us[i]?=some u/\RelV x u|_,_,_,_,.nil,e=>by simp at e|_,_,0,_,.cons r _,e=>by simp at e;subst e;exact{_,rfl,r}|_,_,i+1,x,.cons _ t,e=>by obtain⟨u,h1,h2⟩:=Vals.get (i:=i) (x:=x) t (by simpa using e);exact{u,by simpa using h1,h2}
theorem Vals.set(r:RelV x u):∀{xs:δ V}{us:δ ξ}(i:π),Vals xs us->Vals (xs.set i x) (us.set i u)|_,_,_,.nil=>.nil|_,_,0,.cons _ t=>.cons r t|_,_,i+1,.cons q t=>.cons q<|Vals.set r i t
theorem Vals.append:∀{xs ys:δ V}{us ws:δ ξ},Vals xs us->Vals ys ws->Vals (xs++ys) (us++ws)|_,_,_,_,.nil,s=>s|_,_,_,_,.cons r t,s=>.cons r<|Vals.append t s
theorem Vals.take:∀{xs:δ V}{us:δ ξ}(n:π),Vals xs us->Vals (xs.take n) (us.take n)|_,_,0,_=>.nil|_,_,_+1,.nil=>.nil|_,_,n+1,.cons r t=>.cons r<|Vals.take n t
theorem Vals.drop:∀{xs:δ V}{us:δ ξ}(n:π),Vals xs us->Vals (xs.drop n) (us.drop n)|_,_,0,r=>r|_,_,_+1,.nil=>.nil|_,_,n+1,.cons _ t=>Vals.drop n t
def fB:θ V->θ ξ->η|some v,some u=>RelV v u|none,none=>True|_,_=>False
def KV{κ:Type} : δ (κ×V)->δ (κ×ξ)->Prop:=Paired λ(p:κ×V)(q:κ×ξ)=>p.1=q.1/\RelV p.2 q.2
def kV:Key->V|.inl i=>.int i|.inr x=>.str x
set_option genInjectivity true in
set_option genSizeOfSpec true in
inductive HO where
  |lst (xs:δ V)
  |tup (xs:δ V)
  |dK (kvs:δ<|Key×V)|dT (kvs:δ<|δ Key×V)
  |set (S:ν->χ) (n:π)
  |ins (C dx:ε) (fs:δ<|ρ×V)
  |own (x:ε)
  |xd (fs:δ<|ρ×V)
  |met (f x:ε)
  |WV (lo hi:ν)
  |jA (o:Obj) (u:HO)
  |oP (ps:Array ξ)
  |ext (φ:Γ->η)
abbrev Hp:=ε->θ HO
noncomputable def upd(H:Hp)(a:ε)(o:HO):Hp:=λb=>if b=a then some o else H b
theorem aB{H:Hp}{a:ε}{o:HO} : upd H a o a=some o:=by unfold upd;rw[xL rfl]
theorem av{H:Hp}{a b:ε}{o:HO}(h:b≠a):upd H a o b=H b:=by unfold upd;rw[xz h]
theorem aC{H:Hp}{a b:ε}{o:HO}(h:H a=some o)(h':H b=none):a≠b:=by intro e;subst e;rw[h]at h';cases h'
def iG(h:Γ)(a:ε)(items:Array ξ):Prop:=∃o,h.get? a=some o/\o.cls=.type "tuple"/\o.dict=none/\∃n,o.data=.seq items n
theorem iG.tup(x:iG h a items):IsTup h a items:=by obtain⟨o,e,c,_,n,d⟩:=x;exact⟨o,e,c,n,d⟩
theorem iG.lt(x:iG h a items):a<h.objs.size:=x.tup.lt
theorem iG.new(h:Γ)(items:Array ξ):iG (h.push {cls:=.type "tuple",data:=.seq items}) h.objs.size items:={_,zi _ rfl,rfl,rfl,_,rfl}
section
variable(P:Ψ)(w:Ω)
def aS(H:Hp)(h:Γ)(a:ε):HO->η|.lst xs=>xs.length<=sizeLine/\∃(ar:δ ξ) (n:π),Vals xs ar/\h.get? a=some {cls:=.type "list",data:=.seq ar.toArray n}|.tup xs=>xs.length<=sizeLine/\∃ar:δ ξ,Vals xs ar/\iG h a ar.toArray|.dK kvs=>kvs.length<=sizeLine/\(a==sysModules)=false/\∃vs,KV kvs vs/\h.DictOf (aw P w) a vs|.dT _=>False|.set S n=>h.SetOf (intKind P w) a S n|.ins C dx fs=>H dx=some (.own a)/\fs.length<=1000/\dx≠a/\h.get? a=some (instObj C dx)/\∃mA,h.Ns1 dx mA/\(∀f,fB (fs.lookup f)<|mA f)/\PySem.Within mA (fs.map (·.1))|.own _=>∃o,h.get? a=some o|.xd fs=>∃mA,h.Ns1 a mA/\∀f,fB (fs.lookup f) (mA f)|.WV lo hi=>∃t u v,h.get? a=some {cls:=.type "range",data:=.fields #[.int lo t,.int hi u,.int 1 v]}|.jA o u=>h.get? a=some o/\aS H h a u|.oP ps=>h.get? a=some {cls:=.none,data:=.fields ps}|.met f x=>h.get? a=some (methodObj (.ref f)<|.ref x)|.ext φ=>φ h/\(∃o,h.get? a=some o)/\∀h1 h2:Γ,φ h1->(∀o,h1.get? a=some o->h2.get? a=some o)->φ h2
def j7(H:Hp)(h:Γ):Prop:=∀a o,H a=some o->aS P w H h a o
end
section
variable{P:Ψ}{w:Ω}{H H':Hp}{h h':Γ}{a:ε}{o:HO}
theorem aS.lt(x:aS P w H h a o):a<h.objs.size:=by cases o with|lst xs=>(obtain⟨_,_,_,_,e⟩:=x;exact zx e)|tup xs=>(obtain⟨_,_,_,p⟩:=x;exact p.lt)|dK kvs=>(obtain⟨_,_,_,_,o,_,_,e,_⟩:=x;exact zx e)|dT kvs=>exact False.elim x|set S n=>(obtain⟨o,_,_,_,e,_⟩:=x;exact zx e)|ins C dx fs=>(obtain⟨_,_,_,e,_⟩:=x;exact zx e)|own y=>(obtain⟨_,e⟩:=x;exact zx e)|xd fs=>(obtain⟨_,⟨_,_,_,e,_⟩,_⟩:=x;exact zx e)|WV lo hi=>(obtain⟨_,_,_,e⟩:=x;exact zx e)|jA ob u=>(obtain⟨e,_⟩:=x;exact zx e)|oP ps=>exact zx (show h.get? a=some _ from x)|met f y=>exact zx (show h.get? a=some _ from x)|ext φ=>obtain⟨_,⟨_,e⟩,_⟩:=x;exact zx e
theorem aS.oq(x:aS P w H h a o)(k:∀b u,(b=a\/H b=some (.own a))->h.get? b=some u->h'.get? b=some u) (ho:∀b,H b=some (.own a)->H' b=some (.own a)) (ht:∀b xs,H b=some (.tup xs)->H' b=some (.tup xs)):aS P w H' h' a o:=by induction o with|lst xs=>(obtain⟨z,ar,n,r,e⟩:=x;exact{z,ar,n,r,k _ _ (.inl rfl) e})|tup xs=>(obtain⟨z,ar,r,ob,e,c⟩:=x;exact{z,ar,r,ob,k _ _ (.inl rfl) e,c})|dK kvs=>(obtain⟨z,y,vs,r,ob,es,ep,e,c⟩:=x;exact{z,y,vs,r,ob,es,ep,k _ _ (.inl rfl) e,c})|dT kvs=>exact False.elim x|set S n=>(obtain⟨ob,es,ep,t,e,c⟩:=x;exact{ob,es,ep,t,k _ _ (.inl rfl) e,c})|ins C dx fs=>(obtain⟨d,z,ne,e,mA,⟨od,es,ep,e2,c⟩,r⟩:=x;exact{ho _ d,z,ne,k _ _ (.inl rfl) e,mA,{od,es,ep,k _ _ (.inr d) e2,c},r})|own y=>(obtain⟨ob,e⟩:=x;exact{ob,k _ _ (.inl rfl) e})|xd fs=>(obtain⟨mA,⟨od,es,ep,e,c⟩,r⟩:=x;exact{mA,{od,es,ep,k _ _ (.inl rfl) e,c},r})|WV lo hi=>(obtain⟨t,u,v,e⟩:=x;exact{t,u,v,k _ _ (.inl rfl) e})|jA ob u ih=>(obtain⟨e,q⟩:=x;exact{k _ _ (.inl rfl) e,ih q})|oP ps=>have e:h.get? a=some {cls:=.none,data:=.fields ps}:=x;show h'.get? a=some {cls:=.none,data:=.fields ps};exact k a _ (.inl rfl) e|met f y=>have e:h.get? a=some (methodObj (.ref f)<|.ref y):=x;show h'.get? a=some (methodObj (.ref f)<|.ref y);exact k a _ (.inl rfl) e|ext φ=>obtain⟨p,⟨o,e⟩,st⟩:=x;exact{st _ _ p λo q=>k _ _ (.inl rfl) q,{o,k _ _ (.inl rfl) e},st}
theorem j7.lt(x:j7 P w H h)(e:H a=some o):a<h.objs.size:=(x a o e).lt
theorem j7.fresh(x:j7 P w H h)(e:h.objs.size<=a):H a=none:=by cases q:H a with|none=>rfl|some u=>exact absurd (zt (x.lt q) e)<|yG _
theorem j7.kept(x:j7 P w H h)(k:∀b u,h.get? b=some u->h'.get? b=some u):j7 P w H h':=λa o e=>(x a o e).oq (λb u _ q=>k b u q) (λ_ q=>q) λ_ _ q=>q
theorem j7.laid(x:j7 P w H h)(k:∀b u,h.get? b=some u->h'.get? b=some u)(hp:h.objs.size<=a)(new:aS P w (upd H a o) h' a o):j7 P w (upd H a o) h':=λb u e=>by have hn:=x.fresh hp;by_cases hb:b=a;subst hb;rw[aB]at e;cases e;exact new;rw[av hb]at e;exact(x b u e).oq (λc v _ q=>k c v q) (λc q=>by rw[av<|aC q hn];exact q) λc xs q=>by rw[av<|aC q hn];exact q
end
def Rd(H:Hp)(a:ε)(u:HO):Prop:=H a=some u\/∃o,H a=some (.jA o u)
theorem Rd.of(h:H a=some u):Rd H a u:=.inl h
theorem Rd.ok{P:Ψ}{w:Ω}{H:Hp}{h:Γ}{a:ε}{u:HO}(r:Rd H a u)(x:j7 P w H h):aS P w H h a u:=by rcases r with r|⟨o,r⟩;exact x a u r;obtain⟨_,q⟩:=x a _ r;exact q
def S_:θ HO->η|some (.lst _)=>True|some (.dK _)=>True|some (.dT _)=>True|some (.set _ _)=>True|some (.ins _ _ _)=>True|some (.ext _)=>True|_=>False
section
variable{P:Ψ}{w:Ω}{H:Hp}{h h':Γ}{x e:ε}{o':HO}
theorem j7.write(ok:j7 P w H h)(mu:S_<|H x)(he:e=x\/H e=some (.own x))(k:∀b u,b≠e->h.get? b=some u->h'.get? b=some u)(R1:∃u,h'.get? e=some u) (new:aS P w (upd H x o') h' x o'):j7 P w (upd H x o') h':=λb u q=>by
 have Tc:∀c y,H c=some (.own y)->c≠x:=λc y r z=>by subst z;rw[r]at mu;exact mu
 have X5:∀c xs,H c=some (.tup xs)->c≠x:=λc xs r z=>by subst z;rw[r]at mu;exact mu
 by_cases hb:b=x;subst hb;rw[aB]at q;cases q;exact new;rw[av hb]at q;by_cases GJ:b=e;have q':H b=some (.own x):=by rcases he with z|z;exact absurd (GJ.trans z) hb;rw[GJ];exact z
 rw[q]at q';cases q';obtain⟨v,hv⟩:=R1;exact{v,by rw[GJ];exact hv};refine(ok b u q).oq (λc v hc r=>k c v ?_ r) (λc r=>by rw[av<|Tc c b r];exact r) λc xs r=>by rw[av<|X5 c xs r];exact r
 rcases hc with rfl|hc;exact GJ;rintro rfl;rcases he with z|z;exact Tc c b hc z;rw[hc]at z;cases z;exact hb rfl
end
structure Un(fs ex:δ ε)(H H':Hp)(h h':Γ):η where
 keep:∀b o,h.get? b=some o->H b=none->b∉fs->b∉ex->h'.get? b=some o
 slot:∀b o,h.get? b=some o->H b=none->b∈fs->b∉ex->∃sl,h'.get? b=some {o with slots:=sl}
 free:∀b o,h.get? b=some o->H b=none->b∉ex->H' b=none
 there:∀b o,h.get? b=some o->b∉ex->∃o',h'.get? b=some o'
 kO:∀b xs,H b=some (.tup xs)->H' b=some (.tup xs)
 j8:∀b o u,H b=some (.jA o u)->H' b=some (.jA o u)
 j9:∀b ps,H b=some (.oP ps)->∃more,H' b=some (.oP<|ps++more)
section
variable{fs ex:δ ε}{H H1:Hp}{h h1 h':Γ}{a x e:ε}{o:HO}
theorem Un.any(u:Un fs ex H H1 h h1){b:ε}{ob:Obj}(q:h.get? b=some ob)(n:H b=none)(hx:b∉ex):∃sl,h1.get? b=some {ob with slots:=sl}:=by by_cases hb:b∈fs;exact u.slot b ob q n hb hx;exact{ob.slots,u.keep b ob q n hb hx}
theorem Un.kept(k:∀b u,h.get? b=some u->h'.get? b=some u):Un fs ex H H h h':={λb ob q _ _ _=>k b ob q,λb ob q _ _ _=>{ob.slots,k b ob q},λ_ _ _ n _=>n,λb ob q _=>{ob,k b ob q},λ_ _ q=>q,λ_ _ _ q=>q,λ_ ps q=>{#[],by rw[q];simp}}
theorem Un.refl:Un fs ex H H h h:=Un.kept λ_ _ q=>q
theorem Un.laid(k:∀b u,h.get? b=some u->h'.get? b=some u)(hp:h.objs.size<=a)(hn:H a=none):Un fs ex H (upd H a o) h h' where
 keep:=λb u q _ _ _=>k b u q
 slot:=λb u q _ _ _=>{u.slots,k b u q}
 free:=λb u q n _=>by rw[av<|zB<|zt (zx q) hp];exact n
 there:=λb u q _=>{u,k b u q}
 kO:=λb xs q=>by rw[av<|aC q hn];exact q
 j8:=λb u xs q=>by rw[av<|aC q hn];exact q
 j9:=λb ps q=>{#[],by rw[av<|aC q hn,q];simp}
theorem Un.write(mu:S_<|H x)(he:e=x\/H e=some (.own x))(k:∀b u,b≠e->h.get? b=some u->h'.get? b=some u)(R1:∃u,h'.get? e=some u):Un fs ex H (upd H x o) h h':=by
 have hx:∀b,H b=none->b≠x:=λb n z=>by subst z;rw[n]at mu;exact mu
 have hb:∀b,H b=none->b≠e:=λb n z=>by subst z;rcases he with r|r;exact hx b n r;rw[n]at r;cases r
 have hm:∀b u,H b=some u->¬S_ (some u)->b≠x:=λb u q nm z=>by subst z;rw[q]at mu;exact nm mu
 refine⟨λb u q n _ _=>k b u (hb b n) q,λb u q n _ _=>{u.slots,k b u (hb b n) q},λb u q n _=>by rw[av<|hx b n];exact n,λb u q _=>?_,
  λb xs q=>by rw[av<|hm b _ q λz=>z];exact q,λb u xs q=>by rw[av<|hm b _ q λz=>z];exact q,λb ps q=>{#[],by rw[av<|hm b _ q λz=>z,q];simp}⟩
 by_cases GJ:b=e;subst GJ;exact R1;exact{u,k b u GJ q}
end
noncomputable def WW(h:Γ)(H:Hp):δ Addr:=(List.range h.objs.size).filter λa=>(H a).isSome
noncomputable def rP(h:Γ)(H:Hp):Heap:=hideAll h<|WW h H
theorem EF(h:Γ)(H:Hp):(rP h H).objs.size=h.objs.size:=PySem.W.hideAll_size _ _
theorem GK(e:h.get? b=some o)(n:H b=none):(rP h H).get? b=some o:=hideAll_get _ e λhm=>by have q:(H b).isSome=true:=(yp.mp hm).2;rw[n]at q;simp at q
theorem Kb(e:(rP h H).get? b=some o):h.get? b=some o/\H b=none:=by have e':h.get? b=some o:=of_hideAll (WW h H) e;refine{e',?_};cases q:H b with|none=>rfl|some x=>have hm:b∈WW h H:=yp.mpr {zU.mpr<|zx e',by simp[q]};have z:(rP h H).get? b=none:=PySem.W.hideAll_none (WW h H) hm;rw[z]at e;cases e
noncomputable def Kc(g h:Γ)(L:ε):δ (ε×Obj):=(List.range h.objs.size).filterMap λa=>if a=L\/(g.get? a).isSome=true then none else (h.get? a).map λo=>(a,o)
noncomputable def rest(g h:Γ)(L d:ε):δ (ε×Obj):=(Kc g h L).filter λp=>ω<|p.1≠d
structure Mod(K:Φ)(mg:ρ->θ ξ)(base:Γ):η where
 Td:K.In base
 glob:base.Ns mainGlobals mg
 blt:∃mb,base.Ns builtinsNs mb/\∀x:ρ,x≠"__name__"->mb x=bootBuiltins x
 nolimit:base.NoLimit
structure Cx where
 prog:Ψ
 w:Ω
 K:Φ
 mg:ρ->θ ξ
 base:Γ
 A:ϕ
 N:δ ρ
 cX:ζ
 uu:Hp
 env:Env
 outer:δ Env
 stack:δ Env
 ex:δ ε
 fn:ρ->χ
 calm:χ
 pn:δ (ε×Obj)
 xe:ξ->ζ->η
def mm(l:δ Env):δ Addr:=l.filterMap (·.frame)
noncomputable abbrev Cx.fs(X:Cx):δ Addr:=mm X.outer
def Ov(sc:Scope)(x:ρ):Prop:=sc.names.lookup x=some .local\/sc.names.lookup x=some .cell\/sc.names.lookup x=some .free
def Loc(sc:Scope)(x:ρ):Prop:=sc.names.lookup x=some .local\/sc.names.lookup x=some .cell
def Look(env:Env)(h:Γ)(m:ρ->θ ξ)(x:ρ)(u:ξ):Prop:=(env.kindOf x=some .local/\m x=some u)\/((env.kindOf x=some .cell\/env.kindOf x=some .free)/\∃c,env.cells.lookup x=some c/\h.IsCell c (some u))
structure Cx.Ok(X:Cx):η where
 mod:Mod X.K X.mg X.base
 kind:X.env.scope.kind=.function
 glob:X.env.globals=mainGlobals
 blt:X.env.builtins=builtinsNs
 above:X.cX.heap.objs.size<=X.env.locals
 inj:∀x y c,X.env.cells.lookup x=some c->X.env.cells.lookup y=some c->x=y
 has:∀x,(X.env.kindOf x=some .cell\/X.env.kindOf x=some .free)->∃c,X.env.cells.lookup x=some c
 X6:∀x c,X.fn x=true->X.env.cells.lookup x=some c->X.cX.heap.objs.size<=c
 hd:X.calm=true->X.A.handled=none
 frames:X.A.frames=some X.stack
 stk:X.stack=X.outer\/(X.stack=X.env::X.outer/\X.env.frame=some X.env.locals)
 exf:∀b∈X.ex,b≠X.env.locals/\∀x c,X.env.cells.lookup x=some c->c≠b
 bs:∀b o,X.base.get? b=some o->X.cX.heap.get? b=some o/\X.uu b=none
 Ke:X.base.objs.size<=X.cX.heap.objs.size
 Ox:∀b o,X.base.get? b=some o->b∉X.ex
 Te:∀b∈X.ex,b∉X.fs
 ot:X.cX.heap.FunFrames X.base X.outer
 Oy:∀b∈X.fs,X.uu b=none
structure Inv(X:Cx)(pins:δ (ε×Obj))(σ:δ (θ V))(H:Hp)(s:ζ):η where
 ok:X.Ok
 os:s.os=X.cX.os
 bare:AllBare s.gens
 base:Un X.fs X.ex X.uu H X.cX.heap s.heap
 loc:∃m,s.heap.Ns X.env.locals m/\∀(i:π)(x:ρ)(v:V),X.N[i]?=some x->σ[i]?=some (some v)->Ov X.env.scope x->∃u,RelV v u/\Look X.env s.heap m x u
 cell:∀x c,X.env.cells.lookup x=some c->∃v,s.heap.IsCell c v
 free:H X.env.locals=none
 fH:∀x c,X.env.cells.lookup x=some c->H c=none
 pin:∀p∈X.pn++pins,s.heap.get? p.1=some p.2/\H p.1=none/\p.1≠X.env.locals/\p.1∉X.fs/\∀v,p.2.data≠.cell v
 aI:j7 X.prog X.w H s.heap
 len:σ.length=X.N.length
section
variable{X:Cx}{pins:δ (ε×Obj)}{σ:δ (θ V)}{H H':Hp}{s:ζ}{h':Γ}
theorem Cx.Ok.EG(ok:X.Ok)(e:X.base.get? b=some o):b∉X.fs:=λhb=>by have:=(ok.ot.mem hb).1;rw[e]at this;cases this
theorem Inv.bs(I:Inv X pins σ H s):∀b o,X.base.get? b=some o->s.heap.get? b=some o/\H b=none:=λb o e=>{I.base.keep b o (I.ok.bs b o e).1 (I.ok.bs b o e).2 (I.ok.EG e)<|I.ok.Ox b o e,I.base.free b o (I.ok.bs b o e).1 (I.ok.bs b o e).2<|I.ok.Ox b o e}
theorem Inv.bk(I:Inv X pins σ H s):∀b o,X.base.get? b=some o->s.heap.get? b=some o:=λb o e=>(I.bs b o e).1
theorem Inv.mod(I:Inv X pins σ H s):Mod X.K X.mg X.base:=I.ok.mod
theorem Inv.nD(I:Inv X pins σ H s):X.K.In s.heap:=I.ok.mod.Td.keeps I.bk
theorem Inv.nolimit(I:Inv X pins σ H s):s.heap.NoLimit:=I.ok.mod.nolimit.keeps I.bk
theorem Inv.fr(I:Inv X pins σ H s):∃m,Fr X.base X.env.locals s.heap m :=
 let ⟨m,hn,_⟩:=I.loc
 ⟨m,hn,I.bk,zG I.ok.Ke I.ok.above⟩
theorem Inv.lt(I:Inv X pins σ H s):X.env.locals<s.heap.objs.size:=by obtain⟨_,hn,_⟩:=I.loc;exact hn.lt
theorem Inv.sz(I:Inv X pins σ H s):X.cX.heap.objs.size<=s.heap.objs.size:=zG I.ok.above<|yO I.lt
theorem Inv.Tf(I:Inv X pins σ H s)(h:s.heap.objs.size<=a):a∉X.fs:=λhb=>by obtain⟨_,o,ho,_⟩:=I.ok.ot.mem hb;exact absurd (zt (zx ho)<|zG I.sz h)<|yG _
theorem Inv.Oz(I:Inv X pins σ H s):∀x c,X.env.cells.lookup x=some c->c≠X.env.locals:=λx c e z=>by obtain⟨v,o,ho,hd⟩:=I.cell x c e;obtain⟨m,⟨o',es,ep,wG,AU,_⟩,_⟩:=I.loc;rw[z,wG]at ho;cases ho;rw[AU]at hd;cases hd
theorem Inv.ot(I:Inv X pins σ H s):s.heap.FunFrames X.base X.outer:=by
 have all:∀(l:δ Env),(∀b∈mm l,b∈X.fs)->X.cX.heap.FunFrames X.base l->s.heap.FunFrames X.base l:=by intro l;induction l with|nil=>intro _ _;trivial|cons env r ih=>intro hs hl;obtain⟨hk,⟨L,o,hf,hn,ho,hd⟩,hr⟩:=hl;have hL:L∈X.fs:=hs L (by unfold mm;rw[List.filterMap_cons,hf];exact zj);obtain⟨sl,e⟩:=I.base.slot L o ho (I.ok.Oy L hL) hL λz=>I.ok.Te L z hL;exact{hk,{L,_,hf,hn,e,hd},ih (λb hb=>hs b<|by unfold mm;rw[List.filterMap_cons,hf];exact zh _ hb) hr}
 exact all X.outer (λ_ hb=>hb) I.ok.ot
theorem Inv.stack(I:Inv X pins σ H s):s.heap.FunFrames X.base X.stack:=by rcases I.ok.stk with e|⟨e,hf⟩;rw[e];exact I.ot;rw[e];obtain⟨m,hn,_⟩:=I.loc;refine .cons (by rw[I.ok.kind];decide) hf hn ?_ I.ot;exact Heap.get?_none_of_le<|zG I.ok.Ke I.ok.above
theorem Inv.mn(I:Inv X pins σ H s):∀b∈mm X.stack,b∈X.env.locals::X.fs:=λb hb=>by rcases I.ok.stk with e|⟨e,hf⟩;rw[e]at hb;exact zh _ hb;rw[e]at hb;unfold mm at hb;rw[List.filterMap_cons,hf]at hb;exact hb
theorem Inv.oQ(I:Inv X pins σ H s):∀b∈mm X.stack,H b=none:=λb hb=>by rcases zk.mp (I.mn b hb) with e|hb;rw[e];exact I.free;obtain⟨_,o,ho,_⟩:=I.ok.ot.mem hb;exact I.base.free b o ho (I.ok.Oy b hb) λz=>I.ok.Te b z hb
theorem Inv.step{g':Array GenState}{t':π}{d':Drawn}{ch:δ ε}(I:Inv X pins σ H s) (JY:∀b∈ch,(b∈X.ex\/X.cX.heap.objs.size<=b)/\b≠X.env.locals/\(∀x c,X.env.cells.lookup x=some c->c≠b)/\∀p∈X.pn++pins,p.1≠b) (keep:∀b o,b≠X.env.locals->b∉X.fs->b∉ch->s.heap.get? b=some o->H b=none->h'.get? b=some o) (slot:∀b o,b≠X.env.locals->b∈X.fs->b∉ch->s.heap.get? b=some o->H b=none->∃sl,h'.get? b=some {o with slots:=sl}) (free:∀b o,b∉ch->s.heap.get? b=some o->H b=none->H' b=none) (there:∀b o,b∉ch->s.heap.get? b=some o->∃o',h'.get? b=some o') (kO:∀b xs,H b=some (.tup xs)->H' b=some (.tup xs)) (j8:∀b o u,H b=some (.jA o u)->H' b=some (.jA o u)) (j9:∀b ps,H b=some (.oP ps)->∃more,H' b=some (.oP<|ps++more)) (ns:∀m,s.heap.Ns X.env.locals m->h'.Ns X.env.locals m) (aI:j7 X.prog X.w H' h') (hg:AllBare g'): Inv X pins σ H' {s with heap:=h',gens:=g',drawn:=d',toks:=t'}:=by
 have neL:∀b o,X.cX.heap.get? b=some o->b≠X.env.locals:=λb o e=>zB<|zt (zx e) I.ok.above;have WX:∀b o,X.cX.heap.get? b=some o->b∉X.ex->b∉ch:=λb o e hx hb=>by rcases (JY b hb).1 with z|z;exact hx z;exact absurd (zt (zx e) z)<|yG _
 have cellK:∀x c,X.env.cells.lookup x=some c->∀v,s.heap.IsCell c v->h'.IsCell c v:=by rintro x c e v ⟨o,ho,hd⟩;have Th:c∉ch:=λz=>(JY c z).2.2.1 x c e rfl;by_cases hc:c∈X.fs;obtain⟨sl,q⟩:=slot c o (I.Oz x c e) hc Th ho<|I.fH x c e;exact{_,q,hd};exact{o,keep c o (I.Oz x c e) hc Th ho<|I.fH x c e,hd}
 refine{I.ok,I.os,hg,{λb o e n hb hx=>?_,λb o e n hb hx=>?_,λb o e n hx=>?_,λb o e hx=>?_,λb xs e=>kO b xs<|I.base.kO b xs e,λb o xs e=>j8 b o xs<|I.base.j8 b o xs e,λb ps e=>?_},?_,λx c e=>?_,?_,λx c e=>?_,λp hp=>?_,aI,I.len};exact keep b o (neL b o e) hb (WX b o e hx) (I.base.keep b o e n hb hx)<|I.base.free b o e n hx;obtain⟨sl,e1⟩:=I.base.slot b o e n hb hx;obtain⟨sl',e2⟩:=slot b _ (neL b o e) hb (WX b o e hx) e1<|I.base.free b o e n hx;exact⟨sl',e2⟩;obtain⟨o',e1⟩:=I.base.there b o e hx;exact free b o' (WX b o e hx) e1<|I.base.free b o e n hx;obtain⟨o',e1⟩:=I.base.there b o e hx;exact there b o' (WX b o e hx) e1;obtain⟨m1,e1⟩:=I.base.j9 b ps e;obtain⟨m2,e2⟩:=j9 b _ e1;exact{m1++m2,by rw[e2,Array.append_assoc]};obtain⟨m,hn,hl⟩:=I.loc;refine{m,ns m hn,λi x v e1 e2 e3=>?_};obtain⟨u,r,l⟩:=hl i x v e1 e2 e3;refine{u,r,?_};rcases l with l|⟨k,c,e,z⟩;exact .inl l;exact .inr {k,c,e,cellK x c e _ z};obtain⟨v,z⟩:=I.cell x c e;exact{v,cellK x c e v z};obtain⟨m,⟨o,_,_,ho,_⟩,_⟩:=I.loc;exact free _ o (λz=>(JY _ z).2.1 rfl) ho I.free;obtain⟨v,o,ho,hd⟩:=I.cell x c e;exact free c o (λz=>(JY c z).2.2.1 x c e rfl) ho<|I.fH x c e;obtain⟨e,n,ne,nf,d⟩:=I.pin p hp;have Th:p.1∉ch:=λz=>(JY p.1 z).2.2.2 p hp rfl;exact{keep p.1 p.2 ne nf Th e n,free p.1 p.2 Th e n,ne,nf,d}
theorem Inv.un{t':π}(I:Inv X pins σ H s)(u:Un X.fs [] H H' s.heap h')(aI:j7 X.prog X.w H' h'):Inv X pins σ H' {s with heap:=h',toks:=t'}:=by obtain⟨m,⟨o,es,ep,ho,r⟩,_⟩:=id I.loc;obtain⟨sl,hL⟩:=u.any ho I.free (by simp);exact I.step (g':=s.gens) (d':=s.drawn) (ch:=[]) (λ_ z=>nomatch z) (λb o _ hb _ e n=>u.keep b o e n hb<|by simp) (λb o _ hb _ e n=>u.slot b o e n hb<|by simp) (λb o _ e n=>u.free b o e n<|by simp) (λb o _ e=>u.there b o e<|by simp) u.kO u.j8 u.j9 (λm' hm=>by obtain⟨o',rG,OA,wG,r'⟩:=hm;rw[ho]at wG;cases wG;exact{_,rG,OA,hL,r'}) aI I.bare
theorem Inv.call{g':Array GenState}{t':π}{d':Drawn}{ch:δ ε}(I:Inv X pins σ H s)(u:Un (mm X.stack) ch H H' s.heap h')(aI:j7 X.prog X.w H' h')(hg:AllBare g') (JY:∀b∈ch,(b∈X.ex\/X.cX.heap.objs.size<=b)/\b≠X.env.locals/\(∀x c,X.env.cells.lookup x=some c->c≠b)/\∀p∈X.pn++pins,p.1≠b): Inv X pins σ H' {s with heap:=h',gens:=g',drawn:=d',toks:=t'}:=by obtain⟨m,⟨o,es,ep,ho,r⟩,_⟩:=id I.loc;obtain⟨sl,hL⟩:=u.any ho I.free λz=>(JY _ z).2.1 rfl;exact I.step (ch:=ch) JY (λb o hL hb hc e n=>u.keep b o e n (λz=>(zk.mp<|I.mn b z).elim hL hb) hc) (λb o _ _ hc e n=>u.any e n hc) (λb o hc e n=>u.free b o e n hc) (λb o hc e=>u.there b o e hc) u.kO u.j8 u.j9 (λm' hm=>by obtain⟨o',rG,OA,wG,r'⟩:=hm;rw[ho]at wG;cases wG;exact{_,rG,OA,hL,r'}) aI hg
theorem Inv.turned{t':π}{it:ε}(I:Inv X pins σ H s)(k:∀b o,b≠it->s.heap.get? b=some o->h'.get? b=some o)(hn:H it=none)(hL:it≠X.env.locals) (h1:it∈X.ex\/X.cX.heap.objs.size<=it) (h2:∀x c,X.env.cells.lookup x=some c->c≠it) (h3:∀p∈X.pn++pins,p.1≠it):Inv X pins σ H {s with heap:=h',toks:=t'}:=by
 have OB:∀b u,H b=some u->b≠it:=λb u e z=>by rw[z,hn]at e;cases e
 refine I.step (g':=s.gens) (d':=s.drawn) (ch:=[it]) (λb hb=>?_) (λb o _ _ hc e _=>k b o (λz=>hc<|by simp[z]) e) (λb o _ _ hc e _=>{o.slots,k b o (λz=>hc<|by simp[z]) e}) (λ_ _ _ _ n=>n) (λb o hc e=>{o,k b o (λz=>hc<|by simp[z]) e}) (λ_ _ e=>e) (λ_ _ _ e=>e) (λb ps e=>{#[],by rw[e];simp}) (λm hm=>?_) (λb u e=>?_) I.bare;have e:b=it:=by simpa using hb
 subst e;exact⟨h1,hL,h2,h3⟩;obtain⟨o,es,ep,ho,r⟩:=hm;exact{o,es,ep,k _ o (Ne.symm hL) ho,r};refine(I.aI b u e).oq (λc v hc q=>k c v ?_ q) (λ_ q=>q) λ_ _ q=>q;rcases hc with z|z;rw[z];exact OB b u e;exact OB c _ z
theorem Inv.tok(I:Inv X pins σ H s)(t:π):Inv X pins σ H {s with toks:=t}:=I.un (h':=s.heap) (t':=t) Un.refl I.aI
theorem Inv.kept(I:Inv X pins σ H s)(k:∀b u,s.heap.get? b=some u->h'.get? b=some u):Inv X pins σ H {s with heap:=h',toks:=t'}:=I.un (Un.kept k)<|I.aI.kept k
theorem Inv.laid{a:ε}{o:HO}{t':π}(I:Inv X pins σ H s)(k:∀b u,s.heap.get? b=some u->h'.get? b=some u)(hp:s.heap.objs.size<=a)(new:aS X.prog X.w (upd H a o) h' a o): Inv X pins σ (upd H a o) {s with heap:=h',toks:=t'}:=I.un (Un.laid k hp<|I.aI.fresh hp)<|I.aI.laid k hp new
theorem Inv.write(I:Inv X pins σ H s)(mu:S_<|H x)(he:e=x\/H e=some (.own x))(k:∀b u,b≠e->s.heap.get? b=some u->h'.get? b=some u)(R1:∃u,h'.get? e=some u) (new:aS X.prog X.w (upd H x o) h' x o):Inv X pins σ (upd H x o) {s with heap:=h',toks:=t'}:=I.un (Un.write mu he k R1)<|I.aI.write mu he k R1 new
theorem Inv.weak(I:Inv X pins σ H s)(hl:ax.length=σ.length)(w:∀(i:π) v,ax[i]?=some (some v)->σ[i]?=some (some v)):Inv X pins ax H s:={I.ok,I.os,I.bare,I.base,by obtain⟨m,hn,hl'⟩:=I.loc;exact{m,hn,λi x v e1 e2 e3=>hl' i x v e1 (w i v e2) e3},I.cell,I.free,I.fH,I.pin,I.aI,hl.trans I.len}
theorem Inv.kP(I:Inv X pins σ H s)(h:∀p∈pins',s.heap.get? p.1=some p.2/\H p.1=none/\p.1≠X.env.locals/\p.1∉X.fs/\∀v,p.2.data≠.cell v):Inv X pins' σ H s:={I.ok,I.os,I.bare,I.base,I.loc,I.cell,I.free,I.fH,λp hp=>(zN.mp hp).elim (λz=>I.pin p<|zV _ z)<|h p,I.aI,I.len}
theorem wH{N:δ ρ}(hN:N.Nodup){i j:π}{x:ρ}(a:N[i]?=some x)(b:N[j]?=some x):i=j:=by obtain⟨h1,e1⟩:=ze.mp a;obtain⟨h2,e2⟩:=ze.mp b;exact(List.getElem_inj hN).mp<|e1.trans e2.symm
theorem sT{M:Model}{A:ϕ}{E:ξ->ζ->η}{i:π}{x:ρ}{v:V}{u:ξ}{Q:Unit->ζ->η}(I:Inv X pins σ H s)(hN:X.N.Nodup)(hi:X.N[i]?=some x)(hx:Loc X.env.scope x)(r:RelV v u) (h:∀s',Inv X pins (σ.set i<|some v) H s'->(∃a,Heap.SameBut a s.heap s'.heap/\(a=X.env.locals\/X.env.cells.lookup x=some a))->Q () s') (hf:ψ (X.fn x=true\/X.env.scope.names.lookup x=some .local) qQ6):wpAny M A (storeName X.env x u) Q E s:=by
 obtain⟨m,hn,hl⟩:=id I.loc;have X7:(X.env.scope.kind==.class||(X.env.scope.kind==.module&&X.env.locals != X.env.globals))=false:=by rw[I.ok.kind];rfl
 have Tj:i<σ.length:=by rw[I.len];exact(ze.mp hi).1
 have Oz:=I.Oz;have tracked:∀{a:ε}{h':Γ},(∃o,s.heap.get? a=some o/\H a=none)->Heap.SameBut a s.heap h'->j7 X.prog X.w H h':=λ{a h'} ha hs b ob e=>by obtain⟨_,_,MU⟩:=ha;refine(I.aI b ob e).oq (λc w' hc q=>(hs.2 c ?_).trans q) (λ_ q=>q) λ_ _ q=>q;rintro rfl;rcases hc with rfl|hc;rw[MU]at e;cases e;rw[MU]at hc;cases hc
 rcases hx with hk|hk;refine wpAny_storeName_local hk hn (λh' Kf hs=>?_) X7;obtain⟨oL,_,_,Gs,_⟩:=id hn;refine h _ {I.ok,I.os,I.bare,{λb o e n hb hx=>?_,λb o e n hb hx=>?_,I.base.free,λb o e hx=>?_,I.base.kO,I.base.j8,I.base.j9},{_,Kf,λj y v' e1 e2 e3=>?_},λy c e=>?_,I.free,I.fH,λp hp=>?_,tracked ⟨oL,Gs,I.free⟩ hs,by simpa using I.len} {_,hs,.inl rfl};exact(hs.2 b<|zB<|zt (zx e) I.ok.above).trans<|I.base.keep b o e n hb hx;obtain⟨sl,e1⟩:=I.base.slot b o e n hb hx;exact{sl,(hs.2 b<|zB<|zt (zx e) I.ok.above).trans e1};obtain⟨o',e1⟩:=I.base.there b o e hx;exact{o',(hs.2 b<|zB<|zt (zx e) I.ok.above).trans e1};by_cases hj:j=i;subst hj;rw[hi]at e1;cases e1;rw[List.getElem?_set_self Tj]at e2;cases e2;exact{u,r,.inl {hk,by simp}};rw[List.getElem?_set_ne<|Ne.symm hj]at e2;obtain⟨u',r',q⟩:=hl j y v' e1 e2 e3;refine{u',r',?_};rcases q with⟨k,e⟩|⟨k,c,e,z⟩;refine .inl {k,?_};have:y≠x:=λe=>hj<|wH hN e1<|e ▸ hi;simp[this,e];exact .inr {k,c,e,z.sameBut hs<|Oz y c e};obtain⟨w',z⟩:=I.cell y c e;exact{w',z.sameBut hs<|Oz y c e};obtain⟨e,n,ne,nf,d⟩:=I.pin p hp;exact{(hs.2 p.1 ne).trans e,n,ne,nf,d};have X8:X.fn x=true:=by rcases hf with z|z;exact z;rw[z]at hk;cases hk
 obtain⟨c,hc⟩:=I.ok.has x<|.inl hk;obtain⟨w',z⟩:=I.cell x c hc;refine wpAny_storeName_cell I.ok.kind hk hc z λh' Tp hs=>?_;obtain⟨oc,WY,X9⟩:=id z;refine h {s with heap:=h'} {I.ok,I.os,I.bare,{λb o e n hb hx=>?_,λb o e n hb hx=>?_,I.base.free,λb o e hx=>?_,I.base.kO,I.base.j8,I.base.j9},{m,hn.sameBut hs<|Ne.symm<|Oz x c hc,λj y v' e1 e2 e3=>?_},λy c' e=>?_,I.free,I.fH,λp hp=>?_,tracked {oc,WY,I.fH x c hc} hs,by simpa using I.len} {c,hs,.inr hc};exact(hs.2 b<|zB<|zt (zx e)<|I.ok.X6 x c X8 hc).trans<|I.base.keep b o e n hb hx;obtain⟨sl,e1⟩:=I.base.slot b o e n hb hx;exact{sl,(hs.2 b<|zB<|zt (zx e)<|I.ok.X6 x c X8 hc).trans e1};obtain⟨o',e1⟩:=I.base.there b o e hx;exact{o',(hs.2 b<|zB<|zt (zx e)<|I.ok.X6 x c X8 hc).trans e1};by_cases hj:j=i;subst hj;rw[hi]at e1;cases e1;rw[List.getElem?_set_self Tj]at e2;cases e2;exact{u,r,.inr {.inl hk,c,hc,Tp}};rw[List.getElem?_set_ne<|Ne.symm hj]at e2;obtain⟨u',r',q⟩:=hl j y v' e1 e2 e3;refine{u',r',?_};rcases q with q|⟨k,c',e,z'⟩;exact .inl q;refine .inr {k,c',e,z'.sameBut hs ?_};rintro rfl;exact hj<|wH hN e1<|I.ok.inj _ _ _ e hc ▸ hi;by_cases Tq:c'=c;subst Tq;exact{_,Tp};obtain⟨w2,z2⟩:=I.cell y c' e;exact{w2,z2.sameBut hs Tq};obtain⟨e,n,ne,nf,d⟩:=I.pin p hp;refine{(hs.2 p.1 ?_).trans e,n,ne,nf,d};intro q;rw[q,WY]at e;have q':oc=p.2:=zS e;exact d w'<|by rw[<-q'];exact X9
theorem iH(I:Inv X pins σ H s)(hN:X.N.Nodup)(hi:X.N[i]?=some x)(hx:Loc X.env.scope x)(r:RelV v u) (h:∀s',Inv X pins (σ.set i<|some v) H s'->Q () s') (hf:ψ (X.fn x=true\/X.env.scope.names.lookup x=some .local) qQ6):wpAny M A (storeName X.env x u) Q E s:=sT I hN hi hx r (λs' I' _=>h s' I') hf
theorem Inv.Tr(I:Inv X pins σ H s)(ho:s'.os=s.os)(u:Un (mm X.stack) ch H H' s.heap s'.heap)(aI:j7 X.prog X.w H' s'.heap)(hg:AllBare s'.gens) (JY:∀b∈ch,(b∈X.ex\/X.cX.heap.objs.size<=b)/\b≠X.env.locals/\(∀x c,X.env.cells.lookup x=some c->c≠b)/\∀p∈X.pn++pins,p.1≠b):Inv X pins σ H' s':=by obtain⟨h',g',d',t',o'⟩:=s';have e:o'=s.os:=ho;subst e;exact I.call (g':=g') (t':=t') (d':=d') u aI hg JY
end
abbrev XK:=ξ->θ ε->Hp->η
abbrev St:=δ<|θ V
abbrev VK:=V->Hp->η
abbrev TE:=St->Hp->VK->η
abbrev TT:=St->Hp->(χ->Hp->η)->η
abbrev TA:=St->Hp->(δ V->Hp->η)->η
structure Ends where
 nx:St->Hp->η
 rt:VK
 bk:St->Hp->Prop:=λ_ _=>False
 ct:St->Hp->Prop:=λ_ _=>False
abbrev TS:=Ends->St->Hp->η
def EP(X:Cx)(pins:δ<|ε×Obj)(σ:St)(Q:VK)(u:ξ)(s':ζ):Prop:=∃v H',Inv X pins σ H' s'/\RelV v u/\Q v H'
def TP(X:Cx)(pins:δ<|ε×Obj)(σ:St)(Q:χ->Hp->η)(b:χ)(s':ζ):Prop:=∃H',Inv X pins σ H' s'/\Q b H'
def AP(X:Cx)(pins:δ<|ε×Obj)(σ:St)(Q:δ V->Hp->η)(us:δ ξ)(s':ζ):Prop:=∃vs H',Inv X pins σ H' s'/\Vals vs us/\Q vs H'
def SP(X:Cx)(pins:δ<|ε×Obj)(D:Ends)(f:Flow)(s':ζ):Prop:=match f with|.next=>∃ax H',Inv X pins ax H' s'/\D.nx ax H'|.brk=>∃ax H',Inv X pins ax H' s'/\D.bk ax H'|.cont=>∃ax H',Inv X pins ax H' s'/\D.ct ax H'|.ret u=>∃v ax H',Inv X pins ax H' s'/\RelV v u/\D.rt v H'
def PE(X:Cx)(e:Δ)(t:TE):Prop:=∀(pins:δ (ε×Obj))(s:ζ)(σ:St)(H:Hp)(Q:VK),Inv X pins σ H s->t σ H Q->wpAny (model X.prog X.w) X.A (eval e X.env) (EP X pins σ Q) X.xe s
def PT(X:Cx)(e:Δ)(t:TT):Prop:=∀(pins:δ (ε×Obj))(s:ζ)(σ:St)(H:Hp)(Q:χ->Hp->η),Inv X pins σ H s->t σ H Q->wpAny (model X.prog X.w) X.A (isTrue e X.env<|eval e X.env) (TP X pins σ Q) X.xe s
def PW(X:Cx)(e:Δ)(t:TT):Prop:=∀(whole:Sem ξ)(pins:δ (ε×Obj))(s:ζ)(σ:St)(H:Hp)(Q:χ->Hp->η),Inv X pins σ H s->t σ H Q->wpAny (model X.prog X.w) X.A (isTrue e X.env whole) (TP X pins σ Q) X.xe s
theorem PW.pt{t:TT}(h:PW X e t):PT X e t:=h _
def PA(X:Cx)(es:δ Δ)(t:TA):Prop:=∀(pos:Pos)(pins:δ (ε×Obj))(s:ζ)(σ:St)(H:Hp)(Q:δ V->Hp->η),Inv X pins σ H s->t σ H Q->wpAny (model X.prog X.w) X.A (spliced<|backTo pos<|starEach es X.env) (AP X pins σ Q) X.xe s
def PS(X:Cx)(st:Stmt)(t:TS):Prop:=∀(pins:δ (ε×Obj))(s:ζ)(σ:St)(H:Hp)(D:Ends),Inv X pins σ H s->t D σ H->wpAny (model X.prog X.w) X.A (exec st X.env) (SP X pins D) X.xe s
def CY(X:Cx)(st:δ Stmt)(t:TS):Prop:=∀(pins:δ (ε×Obj))(s:ζ)(σ:St)(H:Hp)(D:Ends),Inv X pins σ H s->t D σ H->wpAny (model X.prog X.w) X.A (execs st X.env) (SP X pins D) X.xe s
theorem bj{t:Sem α}(h:wpAny M A t Q E s)(hQ:∀a s,Q a s->Q' a s):wpAny M A t Q' E s:=yM h hQ λ_ _ x=>x
section
variable{X:Cx}
def X_(i:π):TE:=λσ H Q=>∃v,σ[i]?=some (some v)/\Q v H
def tC(v:V):TE:=λ_ H Q=>Q v H
theorem OC(hN:X.N[i]?=some x)(hv:Ov X.env.scope x)(hd:ψ ((x==("__debug__": ρ))=false) qQZ)(rH:ψ ((x==("__classdict__": ρ))=false) qQZ):PE X (.Name x pos) (X_ i):=by intro pins s σ H Q I h;obtain⟨v,e,h⟩:=h;obtain⟨m,hn,hl⟩:=I.loc;obtain⟨u,r,l⟩:=hl i x v hN e hv;have fin:EP X pins σ Q u s:=⟨v,H,I,r,h⟩;rcases l with⟨hk,hm⟩|⟨hk,c,hc,CZ⟩;exact wpAny_Name (wpAny_loadName_local I.ok.kind hk hn hm fin) hd;rcases hk with hk|hk;exact wpAny_Name (wpAny_loadName_cell I.ok.kind hk hc CZ fin) hd;exact wpAny_Name (wpAny_loadName_free I.ok.kind hk hc CZ fin rH) hd
theorem OD:PE X (.Constant (.int i) j pos) (tC<|.int i):=λ_ _ _ H _ I h=>wpAny_Constant_int {.int i,H,I.tok _,{_,rfl},h}
theorem MV:PE X (.Constant (.bool b) j pos) (tC<|.bl b):=λ_ _ _ H _ I h=>Constant_bool {.bl b,H,I,rfl,h}
theorem OE:PE X (.Constant .none j pos) (tC .au):=λ_ _ _ H _ I h=>Constant_none {.au,H,I,rfl,h}
theorem OF:PE X (.Constant (.str x) j pos) (tC<|.str x):=λ_ _ _ H _ I h=>Calls.Constant_str {.str x,H,I.tok _,{_,rfl},h}
def Gl(X:Cx)(x:ρ):Prop:=X.env.kindOf x=some .globalImplicit
theorem uv(I:Inv X pins σ H s)(hg:Gl X x)(hm:X.mg x=some u)(h:Q u s) (hd:ψ ((x==("__debug__": ρ))=false) qQZ):wpAny (model X.prog X.w) X.A (eval (.Name x pos) X.env) Q E s:=Calls.Name_function_global I.ok.kind hg (Calls.loadGlobal_global (by rw[I.ok.glob];exact I.mod.glob.keeps I.bk) hm h) hd
theorem fU(I:Inv X pins σ H s)(hg:Gl X x)(hm:X.mg x=none)(hv:bootBuiltins x=some u)(h:Q u s) (hn:ψ (x≠"__name__") qQZ) (hd:ψ ((x==("__debug__": ρ))=false) qQZ):wpAny (model X.prog X.w) X.A (eval (.Name x pos) X.env) Q E s:=by obtain⟨mb,h1,h2⟩:=I.mod.blt;exact Calls.Name_function_global I.ok.kind hg (Calls.loadGlobal_builtin (by rw[I.ok.glob];exact I.mod.glob.keeps I.bk) hm (by rw[I.ok.blt];exact h1.keeps I.bk) ((h2 x hn).trans hv) h) hd
theorem C3(hg:Gl X x)(hm:X.mg x=some u)(r:RelV v u)(hd:ψ ((x==("__debug__": ρ))=false) qQZ):PE X (.Name x pos) (tC v):=λ_ _ _ H _ I h=>uv I hg hm ⟨v,H,I,r,h⟩ hd
theorem Kg(hg:Gl X x)(hm:X.mg x=none)(hv:bootBuiltins x=some u)(r:RelV v u)(hn:ψ (x≠"__name__") qQZ)(hd:ψ ((x==("__debug__": ρ))=false) qQZ):PE X (.Name x pos) (tC v):=λ_ _ _ H _ I h=>fU I hg hm hv ⟨v,H,I,r,h⟩ hn hd
variable{a b:Δ}{ta tb:TE}{pos:Pos}
def tB(t:TE):TT:=λσ H Q=>t σ H λx H1=>∃c,x=.bl c/\Q c H1
theorem OG{t:TE}(h:PE X e t)(he:ψ (∀whole,isTrue e X.env whole=(do let v <-whole;standAt e.pos;holding [v] (truthy v))) qQ0):PT X e (tB t):=by intro pins s σ H Q I hw;refine isTrue_plain (bj (h pins s σ H _ I hw) λv s1 ⟨x,H1,I1,r1,q1⟩=>?_)<|he _;obtain⟨d,rfl,q⟩:=q1;cases r1;exact yC ⟨H1,I1,q⟩
variable{tA WZ:TT}{rest:δ Δ}
def Ya(t u:TT):TT:=λσ H Q=>t σ H λc H1=>if c=true then u σ H1 Q else Q false H1
def tOr(t u:TT):TT:=λσ H Q=>t σ H λc H1=>if c=true then Q true H1 else u σ H1 Q
def Yb(t:TT):TT:=λσ H Q=>t σ H λc H1=>Q (!c) H1
theorem pw_and1(ha:PT X a tA):PW X (.BoolOp .And [a] pos) tA:=by intro wh pins s σ H Q I h;refine isTrue_and<|bj (ha pins s σ H Q I h) λc s1 e=>?_;cases c with|true=>exact isTrue_and_nil e|false=>exact e
theorem pw_or1(ha:PT X a tA):PW X (.BoolOp .Or [a] pos) tA:=by intro wh pins s σ H Q I h;refine isTrue_or<|bj (ha pins s σ H Q I h) λc s1 e=>?_;cases c with|false=>exact isTrue_or_nil e|true=>exact e
theorem pw_and(ha:PT X a tA)(hb:PW X (.BoolOp .And (b::rest) pos) WZ):PW X (.BoolOp .And (a::b::rest) pos) (Ya tA WZ):=by intro wh pins s σ H Q I h;refine isTrue_and<|bj (ha pins s σ H _ I h) λc s1 ⟨H1,I1,q1⟩=>?_;cases c with|true=>exact hb wh pins s1 σ H1 Q I1 q1|false=>exact⟨H1,I1,q1⟩
theorem pw_or(ha:PT X a tA)(hb:PW X (.BoolOp .Or (b::rest) pos) WZ):PW X (.BoolOp .Or (a::b::rest) pos) (tOr tA WZ):=by intro wh pins s σ H Q I h;refine isTrue_or<|bj (ha pins s σ H _ I h) λc s1 ⟨H1,I1,q1⟩=>?_;cases c with|true=>exact⟨H1,I1,q1⟩|false=>exact hb wh pins s1 σ H1 Q I1 q1
theorem OH(ha:PT X a tA):PT X (.UnaryOp .Not a pos) (Yb tA):=by intro pins s σ H Q I h;exact isTrue_not<|ha pins s σ H (λc H1=>Q (!c) H1) I h
def Ts(ta tb:TE):TE:=λσ H Q=>ta σ H λx H1=>∃c,x=.bl c/\if c=true then tb σ H1 Q else Q (.bl false) H1
def Yc(ta tb:TE):TE:=λσ H Q=>ta σ H λx H1=>∃c,x=.bl c/\if c=true then Q (.bl true) H1 else tb σ H1 Q
def Tu(ta:TE):TE:=λσ H Q=>ta σ H λx H1=>∃c,x=.bl c/\Q (.bl<|!c) H1
theorem OI{t:TE}(h:PE X a t):PE X (.BoolOp op [a] pos) t:=λpins s σ H Q I hw=>BoolOp_one<|h pins s σ H Q I hw
theorem OJ(ha:PE X a ta)(hb:PE X (.BoolOp .And (b::rest) pos) tb):PE X (.BoolOp .And (a::b::rest) pos) (Ts ta tb):=by intro pins s σ H Q I h;refine BoolOp_and<|bj (ha pins s σ H _ I h) λv s1 ⟨x,H1,I1,r1,q1⟩=>?_;obtain⟨c,rfl,q1⟩:=q1;cases r1;refine yC ?_;cases c with|true=>exact hb pins s1 σ H1 Q I1 q1|false=>exact{.bl false,H1,I1,rfl,q1}
theorem Tv(ha:PE X a ta)(hb:PE X (.BoolOp .Or (b::rest) pos) tb):PE X (.BoolOp .Or (a::b::rest) pos) (Yc ta tb):=by intro pins s σ H Q I h;refine BoolOp_or<|bj (ha pins s σ H _ I h) λv s1 ⟨x,H1,I1,r1,q1⟩=>?_;obtain⟨c,rfl,q1⟩:=q1;cases r1;refine yC ?_;cases c with|false=>exact hb pins s1 σ H1 Q I1 q1|true=>exact{.bl true,H1,I1,rfl,q1}
theorem OL(ha:PE X a ta):PE X (.UnaryOp .Not a pos) (Tu ta):=by intro pins s σ H Q I h;refine UnaryOp_<|bj (ha pins s σ H _ I h) λv s1 ⟨x,H1,I1,r1,q1⟩=>?_;obtain⟨c,rfl,q1⟩:=q1;cases r1;exact not_of<|yC {.bl<|!c,H1,I1,rfl,q1}
def tIf(t:TT)(ta tb:TE):TE:=λσ H Q=>t σ H λc H1=>if c=true then ta σ H1 Q else tb σ H1 Q
theorem GL(hc:PT X c tA)(ha:PE X a ta)(hb:PE X b tb):PE X (.IfExp c a b pos) (tIf tA ta tb):=by intro pins s σ H Q I h;refine wpAny_IfExp<|bj (hc pins s σ H _ I h) λd s1 ⟨H1,I1,q1⟩=>?_;cases d with|true=>exact ha pins s1 σ H1 Q I1 q1|false=>exact hb pins s1 σ H1 Q I1 q1
end
def iu(K:Φ)(H:Hp)(a:ε)(xs:δ V):Prop:=Rd H a (.lst xs)\/∃(o:Obj)(ar:Array ξ)(n:π),K.lookup a=some o/\o.cls=.type "list"/\o.dict=none/\o.data=.seq ar n/\ar.size<=sizeLine/\Vals xs ar.toList
def hW(K:Φ)(H:Hp)(a:ε)(xs:δ V):Prop:=Rd H a (.tup xs)\/∃(o:Obj)(ar:Array ξ)(n:π),K.lookup a=some o/\o.cls=.type "tuple"/\o.data=.seq ar n/\ar.size<=sizeLine/\Vals xs ar.toList
noncomputable def Yd:ξ->θ V|.none=>some .au|.bool b=>some (.bl b)|.int i _=>some (.int i)|.str x _=>some (.str x)|.bytes b _=>some (.CW b)|.float b _=>some (.Ou b)|.ref a=>some (.ref a)|.type n=>some (.ty n)|_=>none
theorem RelV.abs(r:RelV x u):Yd u=some x:=by cases x with|au=>(cases r;rfl)|bl _=>(cases r;rfl)|int _=>(obtain⟨t,rfl⟩:=r;rfl)|str _=>(obtain⟨t,rfl⟩:=r;rfl)|CW _=>(obtain⟨t,rfl⟩:=r;rfl)|Ou _=>(obtain⟨t,rfl⟩:=r;rfl)|ref _=>(cases r;rfl)|ty _=>cases r;rfl
theorem RelV.inj(r:RelV x u)(q:RelV y u):x=y:=zS<|r.abs.symm.trans q.abs
theorem Vals.inj:∀{xs ys:δ V}{us:δ ξ},Vals xs us->Vals ys us->xs=ys|_,_,_,.nil,.nil=>rfl|_,_,_,.cons r t,.cons r' t'=>by rw[r.inj r',Vals.inj t t']
section
variable{X:Cx}{pins:δ (ε×Obj)}{σ:St}{H:Hp}{s:ζ}{a:ε}{xs ys:δ V}
theorem iu.of{K:Φ}(h:H a=some (.lst xs)):iu K H a xs:=.inl<|.inl h
theorem hW.of{K:Φ}(h:H a=some (.tup xs)):hW K H a xs:=.inl<|.inl h
theorem Inv.list(I:Inv X pins σ H s)(h:iu X.K H a xs):∃ar:δ ξ,Vals xs ar/\PlainL s.heap a ar.toArray/\xs.length<=sizeLine:=by rcases h with h|⟨o,ar,n,hk,hc,hd,hs,hz,r⟩;obtain⟨z,ar,n,r,e⟩:=h.ok I.aI;exact{ar,r,{_,n,e,rfl,rfl,rfl},z};refine{ar.toList,r,{o,n,I.nD a o hk,hc,hd,by simpa using hs},?_};have e:=r.length;simp only[zT]at e;lia
theorem Inv.tuple(I:Inv X pins σ H s)(h:hW X.K H a xs):∃ar:δ ξ,Vals xs ar/\IsTup s.heap a ar.toArray/\xs.length<=sizeLine:=by rcases h with h|⟨o,ar,n,hk,hc,hs,hz,r⟩;obtain⟨z,ar,r,p⟩:=h.ok I.aI;exact⟨ar,r,p.tup,z⟩;refine{ar.toList,r,{o,I.nD a o hk,hc,n,by simpa using hs},?_};have e:=r.length;simp only[zT]at e;lia
theorem Inv.wI(I:Inv X pins σ H s)(h:iu X.K H a xs)(h':iu X.K H a ys):xs=ys:=by
 obtain⟨ar,r,⟨o,n,e,_,_,d⟩,_⟩:=I.list h;obtain⟨its',r',⟨o',n',e',_,_,d'⟩,_⟩:=I.list h';rw[e]at e';cases e';rw[d]at d';injection d' with d1 _;have:ar=its':=by simpa using congrArg Array.toList d1
 subst this;exact r.inj r'
theorem Inv.mq(I:Inv X pins σ H s)(h:hW X.K H a xs)(h':hW X.K H a ys):xs=ys:=by
 obtain⟨ar,r,⟨o,e,_,n,d⟩,_⟩:=I.tuple h;obtain⟨its',r',⟨o',e',_,n',d'⟩,_⟩:=I.tuple h';rw[e]at e';cases e';rw[d]at d';injection d' with d1 _;have:ar=its':=by simpa using congrArg Array.toList d1
 subst this;exact r.inj r'
end
noncomputable abbrev Cx.adk(X:Cx)(E:ξ->ζ->η):Cx:={X with xe:=E}
section
variable{X:Cx}{st:Stmt}{rest:δ Stmt}{t u:TS}{e:Δ}{te:TE}{pos:Pos}
def Tx:TS:=λD σ H=>D.nx σ H
def Ye(t u:TS):TS:=λD σ H=>t {D with nx:=u D} σ H
theorem Kh:CY X [] Tx:=λ_ _ σ H _ I h=>wpAny_execs_nil ⟨σ,H,I,h⟩
theorem GN(h1:PS X st t)(h2:CY X rest u):CY X (st::rest) (Ye t u):=by intro pins s σ H D I h;refine wpAny_execs_cons<|bj (h1 pins s σ H {D with nx:=u D} I h) λf s1 q=>?_;cases f with|next=>(obtain⟨ax,H',I',q⟩:=q;exact h2 pins s1 ax H' D I' q)|ret v=>exact q|brk=>exact q|cont=>exact q
theorem Ki(h1:PS X st t):CY X [st] t:=by intro pins s σ H D I h;refine wpAny_execs_cons<|bj (h1 pins s σ H D I h) λf s1 q=>?_;cases f with|next=>exact wpAny_execs_nil q|ret v=>exact q|brk=>exact q|cont=>exact q
theorem Inv.quiet(I:Inv X pins σ H s):interactive X.env=false:=by simp[interactive,I.ok.kind]
def Tz(te:TE):TS:=λD σ H=>te σ H λ_ H1=>D.nx σ H1
theorem Kj(he:PE X e te)(hs:ψ (swapsWith e none pos.line X.env=pure false) qQJ):PS X (.Expr e pos) (Tz te):=by intro pins s σ H D I h;exact wpAny_Expr_any (bj (he pins s σ H _ I h) <| by rintro v s1 ⟨x,H1,I1,r1,q1⟩;exact⟨σ,H1,I1,q1⟩) I.quiet hs
def Yf(te:TE):TS:=λD σ H=>te σ H D.rt
theorem OM(he:PE X e te):PS X (.Return (some e) pos) (Yf te):=by intro pins s σ H D I h;exact wpAny_Return_some<|bj (he pins s σ H _ I h) <| by rintro v s1 ⟨x,H1,I1,r1,q1⟩;exact⟨x,σ,H1,I1,r1,q1⟩
def Yg(c:TT)(t u:TS):TS:=λD σ H=>c σ H λb H1=>if b=true then t D σ H1 else u D σ H1
theorem TB(hc:PT X c tc)(ha:CY X a t)(hb:CY X b u):PS X (.If c a b pos) (Yg tc t u):=by intro pins s σ H D I h;refine wpAny_If<|bj (hc pins s σ H _ I h) λd s1 ⟨H1,I1,q1⟩=>?_;cases d with|true=>exact ha pins s1 σ H1 D I1 q1|false=>exact hb pins s1 σ H1 D I1 q1
end
abbrev TG:=V->St->Hp->(St->Hp->η)->η
abbrev MW:=δ V->St->Hp->(St->Hp->η)->η
def PG(X:Cx)(target:Δ)(t:TG):Prop:=∀(pins:δ (ε×Obj))(s:ζ)(σ:St)(H:Hp)(v:V)(u:ξ)(Q:St->Hp->η),Inv X pins σ H s->RelV v u->t v σ H Q->wpAny (model X.prog X.w) X.A (assign target X.env u) (λ_ s'=>∃ax H',Inv X pins ax H' s'/\Q ax H') X.xe s
def MX(X:Cx)(ts:δ Δ)(t:MW):Prop:=∀(pins:δ (ε×Obj))(s:ζ)(σ:St)(H:Hp)(vs:δ V)(us:δ ξ)(Q:St->Hp->η),Inv X pins σ H s->Vals vs us->t vs σ H Q->wpAny (model X.prog X.w) X.A (assignInOrder ((assignEach ts X.env).map (·.2)) us) (λ_ s'=>∃ax H',Inv X pins ax H' s'/\Q ax H') X.xe s
abbrev ON:=V->V->V->Hp->(Hp->η)->η
def TC(X:Cx)(t:ON):Prop:=∀(pins:δ (ε×Obj))(s:ζ)(σ:St)(H:Hp)(o i v:V)(ov iv u:ξ)(Q:Hp->η),Inv X pins σ H s->RelV o ov->RelV i iv->RelV v u->t o i v H Q->wpAny (model X.prog X.w) X.A (setItem ov iv u) (λ_ s'=>∃H',Inv X pins σ H' s'/\Q H') X.xe s
abbrev Yh:=V->V->Hp->VK->η
def PIp(X:Cx)(op:Operator)(t:Yh):Prop:=∀(pins:δ (ε×Obj))(s:ζ)(σ:St)(H:Hp)(x y:V)(v u:ξ)(Q:VK),Inv X pins σ H s->RelV x v->RelV y u->t x y H Q->wpAny (model X.prog X.w) X.A (inplaceOp op v u) (EP X pins σ Q) X.xe s
section
variable{X:Cx}{pos:Pos}
def h_(i:π):TG:=λv σ H Q=>Q (σ.set i<|some v) H
theorem oR(hN:X.N.Nodup)(hi:X.N[i]?=some x)(hx:Loc X.env.scope x)(hf:ψ (X.fn x=true\/X.env.scope.names.lookup x=some .local) qQ6):PG X (.Name x pos) (h_ i):=by intro pins s σ H v u Q I r h;exact wpAny_assign_Name<|iH I hN hi hx r (λs' I'=>{_,H,I',h}) hf
def Kk:MW:=λvs σ H Q=>vs=[]/\Q σ H
def pK(t:TG)(u:MW):MW:=λvs σ H Q=>∃v r,vs=v::r/\t v σ H λax H'=>u r ax H' Q
theorem C4:MX X [] Kk:=by intro pins s σ H vs us Q I r h;obtain⟨e,h⟩:=h;subst e;cases r;exact assignInOrder_nil ⟨σ,H,I,h⟩
theorem pL{t:TG}(h1:PG X e t)(h2:MX X es u) (hs:ψ ((assignEach (e::es) X.env).map (·.2)=assign e X.env::(assignEach es X.env).map (·.2)) qQJ):MX X (e::es) (pK t u):=by intro pins s σ H vs us Q I r h;obtain⟨v,vr,e1,h⟩:=h;subst e1;cases r with|cons r rr=>rw[hs];refine assignInOrder_cons<|bj (h1 pins s σ H _ _ _ I r h) λ_ s1 ⟨wu,H1,I1,q1⟩=>?_;exact h2 pins s1 wu H1 _ _ Q I1 rr q1
def Kl(K:Φ)(n:π)(t:MW):TG:=λv σ H Q=>∃a xs,v=.ref a/\hW K H a xs/\xs.length=n/\t xs σ H Q
theorem GO{t:MW}(hc:X.calm=true)(h:MX X es t) (hn:ψ ((assignEach es X.env).length=n) qQJ) (wJ:ψ ((assignEach es X.env).findIdx? (·.1)=none) qQJ):PG X (.Tuple es k pos) (Kl X.K n t):=by intro pins s σ H v u Q I r hw;obtain⟨a,xs,e1,hq,hl,hw⟩:=hw;subst e1;cases r;obtain⟨ar,rv,ht,hz⟩:=I.tuple hq;refine assign_Tuple_tuple (I.ok.hd hc) ht (by simp[hn,<-hl,rv.length]) wJ λh' hx=>?_;have I1:Inv X pins σ H {s with heap:=h'}:=I.kept (t':=s.toks) λb o e=>hx b o (zB<|zx e) e;exact h pins _ σ H xs _ Q I1 (by simpa using rv) hw
def Yi(to ti:TE)(t:ON):TG:=λv σ H Q=>to σ H λo H1=>ti σ H1 λi H2=>t o i v H2 λH3=>Q σ H3
theorem OO{t:ON}(ho:PE X o to)(hi:PE X i ti)(hs:TC X t)
  (ha:ψ (∀v,assign (.Subscript o i pos) X.env v=(do
   let ov <-holding [v] (eval o X.env)
   let iv <-holding [v,ov] (eval i X.env)
   standAt pos
   holding [v,ov,iv] (setItem ov iv v)
   release [v,ov,iv] [])) qQ0):PG X (.Subscript o i pos) (Yi to ti t):=by
 intro pins s σ H v u Q I r h
 rw[ha]
 refine zc<|yD<|bj (ho pins s σ H _ I h) λov s1 ⟨x,H1,I1,r1,q1⟩=>?_
 refine zc<|yD<|bj (hi pins s1 σ H1 _ I1 q1) λiv s2 ⟨y,H2,I2,r2,q2⟩=>?_
 refine zc<|wpAny_standAt<|zc<|yD<|bj (hs pins s2 σ H2 x y v ov iv u _ I2 r1 r2 r q2) λ_ s3 ⟨H3,I3,q3⟩=>?_
 exact wpAny_release ⟨σ,H3,I3,q3⟩
def OP(te:TE)(g:TG):TS:=λD σ H=>te σ H λx H1=>g x σ H1 D.nx
theorem GP(he:PE X e te)(hg:PG X tg g)(hs:ψ (swapsWithSole [tg] e pos.line X.env=pure false) qQJ)(hw:ψ (swappedStores [tg] e X.env=pure none) qQJ) (h1:ψ ((assignEach [tg] X.env).map (·.2)=[assign tg X.env]) qQJ):PS X (.Assign [tg] e pos) (OP te g):=by intro pins s σ H D I h;refine wpAny_Assign_stores (bj (he pins s σ H _ I h) λv s1 ⟨x,H1,I1,r1,q1⟩=>?_) hs hw;rw[h1];exact bj (hg pins s1 σ H1 x v _ I1 r1 q1) λ_ s2 q=>q
theorem OQ(hN:X.N.Nodup)(hi:X.N[i]?=some x)(hx:Loc X.env.scope x)(he:PE X e te)(hs:ψ (swapsWith e (some<|.Name x pos') pos.line X.env=pure false) qQJ)(hf:ψ (X.fn x=true\/X.env.scope.names.lookup x=some .local) qQ6): PS X (.Assign [.Name x pos'] e pos) (OP te<|h_ i):=by intro pins s σ H D I h;refine wpAny_Assign_Name (bj (he pins s σ H _ I h) λv s1 ⟨y,H1,I1,r1,q1⟩=>?_) hs;exact iH I1 hN hi hx r1 (λs2 I2=>{_,H1,I2,q1}) hf
def Yj(i j:π)(ta:TA):TS:=λD σ H=>ta σ H λvs H1=>∃v w,vs=[v,w]/\D.nx ((σ.set i<|some v).set j<|some w) H1
theorem OR(hc:X.calm=true)(hN:X.N.Nodup)(hi:X.N[i]?=some x)(hj:X.N[j]?=some y)(iw:i≠j) (hx:X.env.scope.names.lookup x=some .local) (hy:X.env.scope.names.lookup y=some .local) (ha:PA X [a,b] ta) (hw:swappedStores [.Tuple [.Name x px,.Name y py] kt pt] (.Tuple [a,b] k2 pt2) X.env=pure (some [x,y])) (hs:ψ (swapsWithSole [.Tuple [.Name x px,.Name y py] kt pt] (.Tuple [a,b] k2 pt2) pos.line X.env=pure false) qQJ): PS X (.Assign [.Tuple [.Name x px,.Name y py] kt pt] (.Tuple [a,b] k2 pt2) pos) (Yj i j ta):=by
 intro pins s σ H D I h;rw[exec_Assign_arm];refine zc<|wpAny_standAt ?_;rw[hs];refine zc<|zo ?_;rw[xz<|by decide];refine zc<|Tuple_<|bj (ha _ pins s σ H _ I h) λus s1 ⟨vs,H1,I1,r1,q1⟩=>?_;obtain⟨v,w,e1,q1⟩:=q1;subst e1;obtain⟨u1,u2,rfl,rv,ou⟩:∃u1 u2,us=[u1,u2]/\RelV v u1/\RelV w u2:=by cases r1 with|cons p q=>cases q with|cons p' q'=>cases q';exact{_,_,rfl,p,p'}
 refine yH ?_ (by show 2<=sizeLine;decide);have I2:Inv X pins σ H1 {s1 with heap:=s1.heap.push {cls:=.type "tuple",data:=.seq [u1,u2].toArray}}:=I1.kept (t':=s1.toks) λb o e=>zb _ e;rw[hw];refine zc<|zo ?_;show wpAny (model X.prog X.w) X.A (do rule "assign.swapped-stores";let items <-unpackItems (.ref s1.heap.objs.size) 2 none;assignInOrder [λv=>bindName X.env y v,λv=>bindName X.env x v] items.reverse;pure Flow.next) _ _ _;refine zc<|yW<|zc<|unpackItems_tuple (items:=#[u1,u2]) (I.ok.hd hc) (IsTup.new s1.heap _) λh' uw=>?_;have I3:=I2.kept (h':=h') (t':=s1.toks) λb o e=>uw b o (zB<|zx e) e;show wpAny _ _ (assignInOrder [λv=>bindName X.env y v,λv=>bindName X.env x v] [u2,u1] >>=λ_=>pure Flow.next) _ _ _;refine zc<|assignInOrder_cons<|wpAny_bindName<|iH I3 hN hj (.inl hy) ou (λs2 I4=>?_)<|.inr hy;refine assignInOrder_cons<|wpAny_bindName<|iH I4 hN hi (.inl hx) rv (λs3 I5=>assignInOrder_nil<|zo ?_)<|.inr hx;rw[List.set_comm _ _<|Ne.symm iw]at I5;exact{_,H1,I5,q1}
def Yk(i:π)(te:TE)(ti:Yh):TS:=λD σ H=>∃x,σ[i]?=some (some x)/\te σ H λy H1=>ti x y H1 λz H2=>D.nx (σ.set i<|some z) H2
theorem OS(hN:X.N.Nodup)(hi:X.N[i]?=some x)(hx:Loc X.env.scope x)(he:PE X e te)(ho:PIp X op ti)(hf:ψ (X.fn x=true\/X.env.scope.names.lookup x=some .local) qQ6): PS X (.AugAssign (.Name x pos') op e pos) (Yk i te ti):=by
 intro pins s σ H D I h;obtain⟨v,e1,h⟩:=h;obtain⟨m,hn,hl⟩:=I.loc;have vis:Ov X.env.scope x:=by rcases hx with k|k;exact .inl k;exact .inr<|.inl k
 obtain⟨u,r,l⟩:=hl i x v hi e1 vis;refine wpAny_AugAssign_Name ?_;have go:wpAny (model X.prog X.w) X.A (eval e X.env) (λw bN=>wpAny (model X.prog X.w) X.A (inplaceOp op u w) (λr AV=>wpAny (model X.prog X.w) X.A (storeName X.env x r) (λ_=>SP X pins D .next) X.xe AV) X.xe bN) X.xe s:=by refine bj (he pins s σ H _ I h) λw s1 ⟨y,H1,I1,r1,q1⟩=>?_;refine bj (ho pins s1 σ H1 v y u w _ I1 r r1 q1) λz s2 ⟨zv,H2,I2,r2,q2⟩=>?_;exact iH I2 hN hi hx r2 (λs3 I3=>{_,H2,I3,q2}) hf
 rcases l with⟨hk,hm⟩|⟨hk,c,hc,CZ⟩;exact wpAny_loadName_local I.ok.kind hk hn hm go;rcases hk with hk|hk;exact wpAny_loadName_cell I.ok.kind hk hc CZ go;rcases hx with k|k;have:X.env.scope.names.lookup x=some .free:=hk;rw[k]at this;cases this;have:X.env.scope.names.lookup x=some .free:=hk;rw[k]at this;cases this
def ipI(f:ν->ν->ν):Yh:=λx y H Q=>∃i j,x=.int i/\y=.int j/\Q (.int<|f i j) H
theorem OT:PIp X .Add (ipI λi j=>i+j):=by intro pins s σ H x y v u Q I r1 r2 h;obtain⟨i,j,e1,e2,q⟩:=h;subst e1;subst e2;obtain⟨t,rfl⟩:=r1;obtain⟨t',rfl⟩:=r2;exact iadd_int {.int _,H,I.tok _,{_,rfl},q}
def OU(c:TT)(tb:TS):TS:=λD σ H=>∃W:π->St->Hp->η,(∃m,W m σ H)/\∀m σ H,W m σ H->c σ H λb H1=>if b=true then ∃N:St->Hp->η,(∀ax H',N ax H'->∃m',m'<m/\W m' ax H')/\tb {D with nx:=N,ct:=N,bk:=D.nx} σ H1 else D.nx σ H1
theorem GQ(hp:PassesOwn (model X.prog X.w) X.A X.env X.xe)(hc:PT X c tc)(hb:CY X body tb):PS X (.While c body [] pos) (OU tc tb):=by intro pins s σ H D I h;obtain⟨W,⟨m0,w0⟩,turn⟩:=h;refine wpAny_While<|codeAny_whileLoop (λn s'=>∃ax H',Inv X pins ax H' s'/\W n ax H') ?_ m0 ⟨σ,H,I,w0⟩;rintro n s1 ⟨wu,H1,I1,w1⟩;refine wpAny_passesOwn hp<|bj (hc pins s1 wu H1 _ I1<|turn n wu H1 w1) λb s2 ⟨H2,I2,q2⟩=>?_;cases b with|true=>(obtain⟨N,hN,q2⟩:=q2;rw[xL rfl];refine wpAny_passesOwn hp<|bj (hb pins s2 wu H2 _ I2 q2) λf s3 q3=>?_;cases f with|next=>(obtain⟨fC,H3,I3,n3⟩:=q3;obtain⟨m',hm,w3⟩:=hN fC H3 n3;exact⟨m',hm,fC,H3,I3,w3⟩)|cont=>(obtain⟨fC,H3,I3,n3⟩:=q3;obtain⟨m',hm,w3⟩:=hN fC H3 n3;exact⟨m',hm,fC,H3,I3,w3⟩)|brk=>exact q3|ret v=>exact q3)|false=>rw[xz zd];exact wpAny_execs_nil ⟨wu,H2,I2,q2⟩
end
structure It where
 go:π->Hp->η
 TF:π->Hp->V->Hp->η
 stop:π->Hp->η
def rQ(X:Cx)(pins:δ<|ε×Obj)(H:Hp)(b:ε):Prop:=H b=none/\b≠X.env.locals/\b∉X.fs/\(b∈X.ex\/X.cX.heap.objs.size<=b)/\(∀x c,X.env.cells.lookup x=some c->c≠b)/\∀p∈X.pn++pins,p.1≠b
theorem Inv.mr(I:Inv X pins σ H s)(hb:s.heap.objs.size<=b)(hn:H' b=none):rQ X pins H' b:=by refine{hn,yA<|zt I.lt hb,I.Tf hb,.inr<|zG I.sz hb,λx c e z=>?_,λp hp z=>?_};obtain⟨v,q⟩:=I.cell x c e;exact absurd (zt q.lt<|by rw[z];exact hb)<|yG _;exact absurd (zt (zx (I.pin p hp).1)<|by rw[z];exact hb)<|yG _
structure Turn(P:Ψ)(w:Ω)(K:Φ)(tg:Δ)(J:It)(fp:δ ε)(it:ε)(tn:π->Γ->η):η where
 mem:it∈fp
 obj:∀i h,tn i h->∀b∈fp,∃o,h.get? b=some o/\∀v,o.data≠.cell v
 keep:∀i h h',tn i h->(∀b∈fp,∀o,h.get? b=some o->h'.get? b=some o)->tn i h'
 item:∀(X:Cx),X.prog=P->X.w=w->X.K=K->X.calm=true->∀(i:π)(pins:δ (ε×Obj))(s:ζ)(σ:St)(H:Hp)(E:ξ->ζ->η),Inv X pins σ H s->(∀b∈fp,rQ X pins H b)->tn i s.heap->J.go i H ->
  wpAny (model P w) X.A (pyNext<|.ref it) (λr s1=>∃u,r=some u /\
   wpAny (model P w) X.A (letOwnedTupleGo tg (.ref it) u) (λ_ s2=>∃x H',Inv X pins σ H' s2/\RelV x u/\J.TF i H x H'/\tn (i+1) s2.heap/\∀b∈fp,H' b=none) E s1) E s
 done:∀(X:Cx),X.prog=P->X.w=w->X.K=K->X.calm=true->∀(i:π)(pins:δ (ε×Obj))(s:ζ)(σ:St)(H:Hp)(E:ξ->ζ->η),Inv X pins σ H s->(∀b∈fp,rQ X pins H b)->tn i s.heap->J.stop i H ->
  wpAny (model P w) X.A (pyNext<|.ref it) (λr s1=>r=none/\Inv X pins σ H s1) E s
 self:∀(A:ϕ)(i:π)(s:ζ)(Q:ξ->ζ->η)(E:ξ->ζ->η),tn i s.heap->Q (.ref it) s->wpAny (model P w) A (pyIter<|.ref it) Q E s
abbrev TI:=St->Hp->(It->Hp->η)->η
def Yl(X:Cx)(pins:δ<|ε×Obj)(σ:St)(tg:Δ)(R:It->Hp->η)(W0:ξ)(s2:ζ):Prop:=∃(it:ε)(fp:δ ε)(tn:π->Γ->η)(J:It)(H':Hp),W0=.ref it/\Inv X pins σ H' s2/\Turn X.prog X.w X.K tg J fp it tn/\tn 0 s2.heap/\(∀b∈fp,rQ X pins H' b)/\R J H'
def PI(X:Cx)(tg iter:Δ)(wi:TI):Prop:=∀(pins:δ (ε×Obj))(s:ζ)(σ:St)(H:Hp)(R:It->Hp->η),Inv X pins σ H s->wi σ H R->wpAny (model X.prog X.w) X.A (eval iter X.env) (λv s1=>wpAny (model X.prog X.w) X.A (pyIter v) (Yl X pins σ tg R) X.xe s1) X.xe s
theorem pM(ho:s.heap.get? it=some o)(hc:o.cls=.type n)(hd:o.data=.fields vs) (hn:["enumerate","zip","dict_itemiterator","dict_reverseitemiterator","odict_iterator","itertools.zip_longest","itertools.pairwise"].contains n=false) (hQ:Q () s):wpAny M A (letOwnedTupleGo tg (.ref it) u) Q E s:=by
 unfold letOwnedTupleGo
 cases tg<;>first
  |exact zo hQ
  | (cases u<;>first
    |exact zo hQ
    | (refine zc (wpAny_load ho ?_)
       rw[hc,hd]
       show wpAny M A (if (["enumerate","zip","dict_itemiterator","dict_reverseitemiterator","odict_iterator","itertools.zip_longest","itertools.pairwise"].contains n&&vs[0]?==some (rawInt _))=true then _ else _) Q E s
       rw[xz<|by intro h;rw[hn,zX]at h;cases h]
       exact zo hQ))
def Itl(K:Φ)(a:ε):It:={λi H=>∃xs x,iu K H a xs/\xs[i]?=some x,λi H x H'=>H'=H/\∀xs,iu K H a xs->xs[i]?=some x,λi H=>∃xs,iu K H a xs/\xs.length<=i}
def Itt(K:Φ)(a:ε):It:={λi H=>∃xs x,hW K H a xs/\xs[i]?=some x,λi H x H'=>H'=H/\∀xs,hW K H a xs->xs[i]?=some x,λi H=>∃xs,hW K H a xs/\xs.length<=i}
noncomputable def W2(lo:ν)(n:π):It:={λi _=>i<n,λi H x H'=>H'=H/\x=.int (lo+i),λi _=>n<=i}
theorem EH{P:Ψ}{w:Ω}{K:Φ}{tg:Δ}(a it:ε):Turn P w K tg (Itl K a) [it] it (λi h=>h.IsListIter it a i) where
 mem:=by simp
 obj:=λi h st b hb=>by
  have e:b=it:=by simpa using hb
  subst e
  obtain⟨o,e,c,d⟩:=st
  exact{o,e,λv z=>by rw[d]at z;cases z}
 keep:=λi h h' st k=>st.at λo e=>k it (by simp) o e
 item:=by
  intro X hP hw hK hc i pins s σ H E I hf st hg
  subst hP hw hK
  obtain⟨xs,x,hq,hx⟩:=hg
  obtain⟨ar,rv,p,hz⟩:=I.list hq
  obtain⟨u,hu,ru⟩:=rv.get hx
  obtain⟨f0,f1,f2,f3,f4,f5⟩:=hf it<|by simp
  refine wpAny_pyNext_list_item st p.isList (x:=u) (by simpa using hu) λh' dH sb=>?_
  have I1:Inv X pins σ H {s with heap:=h'}:=I.turned (t':=s.toks) (λb o hb e=>(sb.2 b hb).trans e) f0 f1 f3 f4 f5
  obtain⟨o,e,c,d⟩:=id dH
  exact{u,rfl,pM (s:={s with heap:=h'}) e c d (by decide) {x,H,I1,ru,{rfl,λys hy=>by rw[I.wI hy hq];exact hx},dH,λb hb=>(hf b hb).1}}
 done:=by
  intro X hP hw hK hc i pins s σ H E I hf st hg
  subst hP hw hK
  obtain⟨xs,hq,hx⟩:=hg
  obtain⟨ar,rv,p,hz⟩:=I.list hq
  obtain⟨f0,f1,f2,f3,f4,f5⟩:=hf it<|by simp
  have hl:=rv.length
  exact wpAny_pyNext_list_end (I.ok.hd hc) st p.isList (by simp;lia) λh' eb=>{rfl,I.turned (t':=s.toks) (λb o hb e=>eb b o hb e) f0 f1 f3 f4 f5}
 self:=λ_ _ _ _ _ st h=>wpAny_pyIter_listiter st h
theorem AW{P:Ψ}{w:Ω}{K:Φ}{tg:Δ}(a it:ε):Turn P w K tg (Itt K a) [it] it (λi h=>h.IsTupleIter it a i) where
 mem:=by simp
 obj:=λi h st b hb=>by
  have e:b=it:=by simpa using hb
  subst e
  obtain⟨o,e,c,d⟩:=st
  exact{o,e,λv z=>by rw[d]at z;cases z}
 keep:=λi h h' st k=>st.at λo e=>k it (by simp) o e
 item:=by
  intro X hP hw hK hc i pins s σ H E I hf st hg
  subst hP hw hK
  obtain⟨xs,x,hq,hx⟩:=hg
  obtain⟨ar,rv,p,hz⟩:=I.tuple hq
  obtain⟨u,hu,ru⟩:=rv.get hx
  obtain⟨f0,f1,f2,f3,f4,f5⟩:=hf it<|by simp
  refine wpAny_pyNext_tuple_item st (show s.heap.IsTuple a ar.toArray from p) (x:=u) (by simpa using hu) λh' dH sb=>?_
  have I1:Inv X pins σ H {s with heap:=h'}:=I.turned (t':=s.toks) (λb o hb e=>(sb.2 b hb).trans e) f0 f1 f3 f4 f5
  obtain⟨o,e,c,d⟩:=id dH
  exact{u,rfl,pM (s:={s with heap:=h'}) e c d (by decide) {x,H,I1,ru,{rfl,λys hy=>by rw[I.mq hy hq];exact hx},dH,λb hb=>(hf b hb).1}}
 done:=by
  intro X hP hw hK hc i pins s σ H E I hf st hg
  subst hP hw hK
  obtain⟨xs,hq,hx⟩:=hg
  obtain⟨ar,rv,p,hz⟩:=I.tuple hq
  obtain⟨f0,f1,f2,f3,f4,f5⟩:=hf it<|by simp
  have hl:=rv.length
  exact wpAny_pyNext_tuple_end (I.ok.hd hc) st (show s.heap.IsTuple a ar.toArray from p) (by simp;lia) λh' eb=>{rfl,I.turned (t':=s.toks) (λb o hb e=>eb b o hb e) f0 f1 f3 f4 f5}
 self:=λ_ _ _ _ _ st h=>wpAny_pyIter_tupleiter st h
theorem AX{P:Ψ}{w:Ω}{K:Φ}{tg:Δ}(it:ε)(lo:ν)(n:π):Turn P w K tg (W2 lo n) [it] it (λi h=>IsRangeIter h it (lo+(i:π)*1) ((n:ν)-(i:π)) 1) where
 mem:=by simp
 obj:=λi h st b hb=>by
  have e:b=it:=by simpa using hb
  subst e
  exact⟨_,st,λv z=>by
   have z':Data.fields _=Data.cell v:=z
   cases z'⟩
 keep:=λi h h' st k=>k it (by simp) _ st
 item:=by
  intro X hP hw hK hc i pins s σ H E I hf st hg
  subst hP hw hK
  obtain⟨f0,f1,f2,f3,f4,f5⟩:=hf it<|by simp
  have W:=Walks.range (prog:=X.prog) (w:=X.w) (I.ok.hd hc) it lo 1 n
  refine W.item i s _ _ hg st λv h' tk hv dH kk=>?_
  obtain⟨t,rfl⟩:=hv
  have I1:Inv X pins σ H {s with heap:=h',toks:=tk}:=I.turned (λb o hb e=>kk b o (by simpa using hb) e) f0 f1 f3 f4 f5
  refine{_,rfl,pM (s:={s with heap:=h',toks:=tk}) (n:="range_iterator") dH rfl rfl (by decide) {.int<|lo+i,H,I1,{t,?_},⟨rfl,rfl⟩,dH,λb hb=>(hf b hb).1}}
  rw[Int.mul_one]
 done:=by
  intro X hP hw hK hc i pins s σ H E I hf st hg
  subst hP hw hK
  obtain⟨f0,f1,f2,f3,f4,f5⟩:=hf it<|by simp
  exact wpAny_pyNext_range_end (I.ok.hd hc) st (by have:n<=i:=hg;lia) λh' eb=>{rfl,I.turned (t':=s.toks) (λb o hb e=>eb b o hb e) f0 f1 f3 f4 f5}
 self:=λ_ _ _ _ _ st h=>wpAny_pyIter_rangeiter st h
section
variable{X:Cx}{tg:Δ}
def TH(K:Φ)(tl:TE):TI:=λσ H R=>tl σ H λx H1=>∃a,x=.ref a/\(∃xs,iu K H1 a xs)/\R (Itl K a) H1
def Ym(K:Φ)(tl:TE):TI:=λσ H R=>tl σ H λx H1=>∃a,x=.ref a/\(∃xs,hW K H1 a xs)/\R (Itt K a) H1
theorem Km{l:Δ}{tl:TE}(hl:PE X l tl):PI X tg l (TH X.K tl):=by
 intro pins s σ H R I h;refine bj (hl pins s σ H _ I h) λv s1 ⟨x,H1,I1,r1,q1⟩=>?_;obtain⟨a,e,⟨xs,hq⟩,q⟩:=q1;subst e;cases r1;obtain⟨ar,rv,p,hz⟩:=I1.list hq;refine wpAny_pyIter_list p.isList ?_;refine{s1.heap.objs.size,[s1.heap.objs.size],_,_,H1,rfl,I1.kept (t':=s1.toks) λb o e=>zb _ e,EH a _,{_,zi _ rfl,rfl,rfl},λb hb=>?_,q};have e:b=s1.heap.objs.size:=by simpa using hb
 subst e;exact I1.mr (zm _)<|I1.aI.fresh<|zm _
theorem OV{l:Δ}{tl:TE}(hl:PE X l tl):PI X tg l (Ym X.K tl):=by
 intro pins s σ H R I h;refine bj (hl pins s σ H _ I h) λv s1 ⟨x,H1,I1,r1,q1⟩=>?_;obtain⟨a,e,⟨xs,hq⟩,q⟩:=q1;subst e;cases r1;obtain⟨ar,rv,p,hz⟩:=I1.tuple hq;refine wpAny_pyIter_tuple (show s1.heap.IsTuple a ar.toArray from p) ?_;refine{s1.heap.objs.size,[s1.heap.objs.size],_,_,H1,rfl,I1.kept (t':=s1.toks) λb o e=>zb _ e,AW a _,{_,zi _ rfl,rfl,rfl},λb hb=>?_,q};have e:b=s1.heap.objs.size:=by simpa using hb
 subst e;exact I1.mr (zm _)<|I1.aI.fresh<|zm _
theorem GR{pins:δ<|ε×Obj}{σ:St}{H:Hp}{s:ζ}{R:It->Hp->η}{E:ξ->ζ->η}{lo hi:ν}{t u v:Tok}{tk:π}(I:Inv X pins σ H s)(h1:-(2^62)<=lo)(h2:lo<2^62)(h3:-(2^62)<=hi)(h4:hi<2^62) (q:R (W2 lo (hi-lo).toNat) H):wpAny (model X.prog X.w) X.A (pyIter<|.ref s.heap.objs.size) (Yl X pins σ tg R) E {s with heap:=s.heap.push {cls:=.type "range",data:=.fields #[.int lo t,.int hi u,.int 1 v]},toks:=tk}:=by
 refine wpAny_pyIter_range (IsRange.new ..) (small_one h1 h2 h3 h4) ?_;have I1:Inv X pins σ H {s with heap:=s.heap.push {cls:=.type "range",data:=.fields #[.int lo t,.int hi u,.int 1 v]},toks:=tk}:=I.kept λb o e=>zb _ e;refine{(s.heap.push {cls:=.type "range",data:=.fields #[.int lo t,.int hi u,.int 1 v]}).objs.size,[(s.heap.push {cls:=.type "range",data:=.fields #[.int lo t,.int hi u,.int 1 v]}).objs.size],_,_,H,rfl,I1.kept (t':=tk) λb o e=>zb _ e,AX _ lo (hi-lo).toNat,?_,λb hb=>?_,q};have e1:lo+((0:π):ν)*1=lo:=by simp
 have e2:(((hi-lo).toNat:π):ν)-((0:π):ν)=Builtin.Range.rangeSize lo hi 1:=by rw[rangeSize_one];split<;>lia
 show IsRangeIter _ _ (lo+((0:π):ν)*1) ((((hi-lo).toNat:π):ν)-((0:π):ν)) 1;rw[e1,e2];exact zi _ rfl;have e:b=(s.heap.push {cls:=.type "range",data:=.fields #[.int lo t,.int hi u,.int 1 v]}).objs.size:=by simpa using hb
 subst e;exact I1.mr (zm _)<|I1.aI.fresh<|zm _
def TJ(ta:TA):TI:=λσ H R=>ta σ H λvs H1=>∃j:ν,vs=[.int j]/\-(2^62)<=j/\j<2^62/\R (W2 0 j.toNat) H1
theorem EI{a:Δ}{ta:TA}{p pos:Pos}(hg:Gl X "range")(hm:X.mg "range"= none)(ha:PA X [a] ta)(hs:ψ (starEach [a] X.env=[(false,eval a X.env)]) qQJ):PI X tg (.Call (.Name "range" p) [a] [] pos) (TJ ta):=by intro pins s σ H R I h;refine Call_<|fU I hg hm boot_range<|PyProof.Rows.callWith_type1 (bj (ha pos pins s σ H _ I h) λus s1 ⟨vs,H1,I1,r1,q1⟩=>?_) hs rfl;obtain⟨j,e,q1,q2,q⟩:=q1;subst e;cases r1 with|cons r rr=>cases rr;obtain⟨t,rfl⟩:=r;exact call_range_1<|GR I1 (by lia) (by lia) q1 q2<|by simpa using q
def Yn(wi:TI)(g:TG)(tb:TS):TS:=λD σ H=>wi σ H λJ H1=>∃W:π->π->St->Hp->η,(∃m,W 0 m σ H1)/\∀i m σ H,W i m σ H->(J.stop i H/\D.nx σ H)\/(J.go i H/\∃N:St->Hp->η,(∀ax H',N ax H'->∃m',m'<m/\W (i+1) m' ax H')/\∀x H',J.TF i H x H'->g x σ H' λoS H2=>tb {D with nx:=N,ct:=N,bk:=D.nx} oS H2)
noncomputable def pN(fp:δ ε)(h:Γ):δ (ε×Obj):=fp.filterMap λb=>(h.get? b).map λo=>(b,o)
theorem gD(hb:b∈fp)(e:h.get? b=some o):(b,o)∈pN fp h:=List.mem_filterMap.mpr {b,hb,by rw[e];rfl}
theorem EJ(hp:p∈pN fp h):p.1∈fp/\h.get? p.1=some p.2:=by obtain⟨b,hb,e⟩:=List.mem_filterMap.mp hp;cases q:h.get? b with|none=>(rw[q]at e;cases e)|some o=>rw[q]at e;have e':(b,o)=p:=zS e;subst e';exact⟨hb,q⟩
theorem Inv.pinned(I:Inv X pins σ H s)(hf:∀b∈fp,rQ X pins H b)(ho:∀b∈fp,∃o,s.heap.get? b=some o/\∀v,o.data≠.cell v):Inv X (pins++pN fp s.heap) σ H s:=I.kP λp hp=>(zN.mp hp).elim (λz=>I.pin p<|zC _ z) λz=>by obtain⟨hb,e⟩:=EJ z;obtain⟨f0,f1,f2,_⟩:=hf p.1 hb;obtain⟨o,e',d⟩:=ho p.1 hb;rw[e]at e';cases e';exact⟨e,f0,f1,f2,d⟩
theorem Inv.pO(I:Inv X (pins++pl) σ H s):Inv X pins σ H s:=I.kP λp hp=>I.pin p<|zC _<|zV _ hp
theorem OW(hp:PassesOwn (model X.prog X.w) X.A X.env X.xe)(hc:X.calm=true)(hi:PI X tg iter wi)(hg:PG X tg g)(hb:CY X body tb) (hs:ψ (∀x,foldedSetIterable iter X.env x=pure x) qQ0):PS X (.For tg iter body [] pos) (Yn wi g tb):=by intro pins s σ H D I h;refine wpAny_For (bj (hi pins s σ H _ I h) λv s1 h1=>bj h1 λW0 s2 h2=>?_) hs;obtain⟨it,fp,tn,J,H2,e,I2,T,AH,f2,W,⟨m0,w0⟩,turn⟩:=h2;subst e;have OX:∀{H':Hp},(∀b∈fp,H' b=none)->∀b∈fp,rQ X pins H' b:=λhn b hb=>{hn b hb,(f2 b hb).2};refine codeAny_forLoop_any (λn s'=>∃i ax H',Inv X pins ax H' s'/\tn i s'.heap/\(∀b∈fp,H' b=none)/\W i n ax H') ?_ m0 {0,σ,H2,I2,AH,λb hb=>(f2 b hb).1,w0};rintro n s3 ⟨i,fC,H3,I3,Gu,TK,w3⟩;rcases turn i n fC H3 w3 with⟨stop,qn⟩|⟨go,N,hN,step⟩;refine wpAny_passesOwn hp<|bj (T.done X rfl rfl rfl hc i pins s3 fC H3 X.xe I3 (OX TK) Gu stop) λr s4 ⟨hr,I4⟩=>?_;subst hr;exact wpAny_execs_nil ⟨fC,H3,I4,qn⟩;{refine wpAny_passesOwn hp<|bj (T.item X rfl rfl rfl hc i pins s3 fC H3 X.xe I3 (OX TK) Gu go) λr s4 ⟨u,hr,h4⟩=>?_;subst hr;refine wpAny_passesOwn hp<|bj h4 λ_ s5 ⟨x,H5,I5,r5,y5,sU,fr5⟩=>?_;have Yo:=I5.pinned (OX fr5)<|T.obj _ _ sU;refine wpAny_passesOwn hp<|bj (hg _ s5 fC H5 x u _ Yo r5<|step x H5 y5) λ_ s6 ⟨TL,H6,I6,q6⟩=>?_;refine wpAny_passesOwn hp<|bj (hb _ s6 TL H6 _ I6 q6) λf s7 q7=>?_;have again:∀{GS:St}{H7:Hp},Inv X (pins++pN fp s5.heap) GS H7 s7->N GS H7->∃m,m<n/\∃i ax H',Inv X pins ax H' s7/\tn i s7.heap/\(∀b∈fp,H' b=none)/\W i m ax H':=λ{GS H7} I7 n7=>(by obtain⟨m',hm,w7⟩:=hN GS H7 n7;refine{m',hm,i+1,GS,H7,I7.pO,T.keep _ _ _ sU λb hb o e=>(I7.pin (b,o)<|zC _<|zC _<|gD hb e).1,λb hb=>?_,w7};obtain⟨o,e,d⟩:=T.obj _ _ sU b hb;exact(I7.pin (b,o)<|zC _<|zC _<|gD hb e).2.1);cases f with|next=>(obtain⟨GS,H7,I7,n7⟩:=q7;exact again I7 n7)|cont=>(obtain⟨GS,H7,I7,n7⟩:=q7;exact again I7 n7)|brk=>(obtain⟨GS,H7,I7,q7⟩:=q7;exact⟨GS,H7,I7.pO,q7⟩)|ret v=>obtain⟨x7,GS,H7,I7,r7,q7⟩:=q7;exact⟨x7,GS,H7,I7.pO,r7,q7⟩}
end
abbrev R2:=V->V->Hp->VK->η
def gE(X:Cx)(f:ξ->ξ->Sem ξ)(r:R2):Prop:=∀(pins:δ (ε×Obj))(s:ζ)(σ:St)(H:Hp)(x y:V)(v u:ξ)(Q:VK),Inv X pins σ H s->RelV x v->RelV y u->r x y H Q->wpAny (model X.prog X.w) X.A (f v u) (EP X pins σ Q) X.xe s
def Yp(X:Cx)(f:ξ->Sem ξ)(r:V->Hp->VK->η):Prop:=∀(pins:δ (ε×Obj))(s:ζ)(σ:St)(H:Hp)(x:V)(v:ξ)(Q:VK),Inv X pins σ H s->RelV x v->r x H Q->wpAny (model X.prog X.w) X.A (f v) (EP X pins σ Q) X.xe s
def eI(X:Cx)(f:ξ)(r:δ V->Hp->VK->η):Prop:=∀(pins:δ (ε×Obj))(s:ζ)(σ:St)(H:Hp)(xs:δ V)(us:δ ξ)(Q:VK),Inv X pins σ H s->Vals xs us->r xs H Q->wpAny (model X.prog X.w) X.A (call f us) (EP X pins σ Q) X.xe s
def R4(r:R2)(ta tb:TE):TE:=λσ H Q=>ta σ H λx H1=>tb σ H1 λy H2=>r x y H2 Q
def tUn(r:V->Hp->VK->η)(ta:TE):TE:=λσ H Q=>ta σ H λx H1=>r x H1 Q
def rI(C:ν->ν->η)(g:ν->ν->V):R2:=λx y H Q=>∃i j,x=.int i/\y=.int j/\C i j/\Q (g i j) H
def Ko(g:ν->ν->V):R2:=λx y H Q=>∃i j,x=.int i/\y=.int j/\Q (g i j) H
def rU(g:ν->V):V->Hp->VK->Prop:=λx H Q=>∃i,x=.int i/\Q (g i) H
section
variable{X:Cx}{a b:Δ}{ta tb:TE}{pos:Pos}
theorem OY(ha:PE X a ta)(hb:PE X b tb){pins:δ<|ε×Obj}{s:ζ}{σ:St}{H:Hp}{R:V->V->Hp->η}(I:Inv X pins σ H s) (h:ta σ H λx H1=>tb σ H1 λy H2=>R x y H2) {Q:ξ->ζ->η}{f:ξ->ξ->Sem ξ} (hf:∀v u s2 x y H2,Inv X pins σ H2 s2->RelV x v->RelV y u->R x y H2->wpAny (model X.prog X.w) X.A (f v u) Q X.xe s2): wpAny (model X.prog X.w) X.A (eval a X.env) (λv aU=>wpAny (model X.prog X.w) X.A (eval b X.env) (λu bN=>wpAny (model X.prog X.w) X.A (f v u) Q X.xe bN) X.xe aU) X.xe s:=by refine bj (ha pins s σ H _ I h) λv s1 ⟨x,H1,I1,r1,q1⟩=>?_;refine bj (hb pins s1 σ H1 _ I1 q1) λu s2 ⟨y,H2,I2,r2,q2⟩=>?_;exact hf v u s2 x y H2 I2 r1 r2 q2
theorem TM{op:Operator}{r:R2}(ho:gE X (binaryOp op) r)(ha:PE X a ta)(hb:PE X b tb):PE X (.BinOp a op b pos) (R4 r ta tb):=by intro pins s σ H Q I h;exact wpAny_BinOp<|OY ha hb I h λv u s2 x y H2 I2 rx ry q=>ho pins s2 σ H2 x y v u Q I2 rx ry q
theorem TN(ho:Yp X (unaryOp op) r)(ha:PE X a ta):PE X (.UnaryOp op a pos) (tUn r ta):=by intro pins s σ H Q I h;exact UnaryOp_<|bj (ha pins s σ H _ I h) <| by rintro v s1 ⟨x,H1,I1,r1,q1⟩;exact ho pins s1 σ H1 x v Q I1 r1 q1
theorem W3{f:ξ->ξ->Sem ξ}{C:ν->ν->η}{g:ν->ν->ν} (rule:∀(i j:ν)(t u:Tok)(s:ζ)(Q:ξ->ζ->η)(E:ξ->ζ->η),C i j->Q (.int (g i j) s.toks) {s with toks:=s.toks+1}->wpAny (model X.prog X.w) X.A (f (.int i t)<|.int j u) Q E s): gE X f (rI C λi j=>.int<|g i j):=by intro pins s σ H x y v u Q I rx ry h;obtain⟨i,j,rfl,rfl,hc,q⟩:=h;obtain⟨t,rfl⟩:=rx;obtain⟨t',rfl⟩:=ry;exact rule i j t t' s _ _ hc {.int<|g i j,H,I.tok _,{_,rfl},q}
theorem TQ{f:ξ->ξ->Sem ξ}{g:ν->ν->ν} (rule:∀(i j:ν)(t u:Tok)(s:ζ)(Q:ξ->ζ->η)(E:ξ->ζ->η),Q (.int (g i j) s.toks) {s with toks:=s.toks+1}->wpAny (model X.prog X.w) X.A (f (.int i t)<|.int j u) Q E s): gE X f (Ko λi j=>.int<|g i j):=by intro pins s σ H x y v u Q I rx ry h;obtain⟨i,j,rfl,rfl,q⟩:=h;obtain⟨t,rfl⟩:=rx;obtain⟨t',rfl⟩:=ry;exact rule i j t t' s _ _ {.int<|g i j,H,I.tok _,{_,rfl},q}
theorem Kq{f:ξ->ξ->Sem ξ}{g:ν->ν->χ} (rule:∀(i j:ν)(t u:Tok)(s:ζ)(Q:ξ->ζ->η)(E:ξ->ζ->η),Q (.bool<|g i j) s->wpAny (model X.prog X.w) X.A (f (.int i t)<|.int j u) Q E s): gE X f (Ko λi j=>.bl<|g i j):=by intro pins s σ H x y v u Q I rx ry h;obtain⟨i,j,rfl,rfl,q⟩:=h;obtain⟨t,rfl⟩:=rx;obtain⟨t',rfl⟩:=ry;exact rule i j t t' s _ _ {.bl<|g i j,H,I,rfl,q}
def TR(i j:ν):Prop:=0<=j/\j<=1000000/\i.natAbs<2^64
def Kr(i j:ν):Prop:=(-(2^64)<i/\i<2^64)\/(-(2^64)<j/\j<2^64)
theorem Kr.ok{i j:ν}(h:Kr i j):IntMulOk i j:=by rcases h with⟨h1,h2⟩|⟨h1,h2⟩;exact .of_left<|intBits_le_64 h1 h2;exact .of_right<|intBits_le_64 h1 h2
theorem OZ:gE X (binaryOp .Add) (Ko λi j=>.int<|i+j):=TQ λ_ _ _ _ _ _ _ q=>add_int q
theorem O0:gE X (binaryOp .Sub) (Ko λi j=>.int<|i-j):=TQ λ_ _ _ _ _ _ _ q=>sub_int q
theorem O3:gE X (binaryOp .Mult) (rI Kr λi j=>.int<|i*j):=W3 λ_ _ _ _ _ _ _ hc q=>mul_int q hc.ok
theorem O4:gE X (binaryOp .Mod) (rI (λ_ j=>0<j) λi j=>.int<|i%j):=W3 λi j _ _ _ _ _ hc q=>by have h1:(0:ν)<j:=hc;exact mod_int' (by lia)<|by rw[Int.fmod_eq_emod_of_nonneg i<|by lia];exact q
theorem O5:gE X (binaryOp .Pow) (rI TR λi j=>.int<|i^j.toNat):=W3 λ_ _ _ _ _ _ _ hc q=>pow_int_small hc.1 hc.2.1 hc.2.2 q
theorem unI{f:ξ->Sem ξ}{g:ν->ν} (rule:∀(i:ν)(t:Tok)(s:ζ)(Q:ξ->ζ->η)(E:ξ->ζ->η),Q (.int (g i) s.toks) {s with toks:=s.toks+1}->wpAny (model X.prog X.w) X.A (f<|.int i t) Q E s): Yp X f (rU λi=>.int<|g i):=by intro pins s σ H x v Q I rx h;obtain⟨i,rfl,q⟩:=h;obtain⟨t,rfl⟩:=rx;exact rule i t s _ _ {.int<|g i,H,I.tok _,{_,rfl},q}
theorem O6:Yp X (unaryOp .USub) (rU λi=>.int (-i)):=unI λ_ _ _ _ _ q=>neg_int q
end
noncomputable def TU:V->V->χ|.au,.au=>true|.au,.int _=>true|.int _,.au=>true|.au,.bl _=>true|.bl _,.au=>true|.au,.str _=>true|.str _,.au=>true|.int _,.int _=>true|.bl _,.bl _=>true|.str _,.str _=>true|.CW _,.CW _=>true|.int _,.str _=>true|.str _,.int _=>true|.bl _,.str _=>true|.str _,.bl _=>true|_,_=>false
def rEq:R2:=λx y H Q=>TU x y=true/\Q (.bl<|ω<|x=y) H
def rNe:R2:=λx y H Q=>TU x y=true/\Q (.bl<|!decide (x=y)) H
theorem C5:ω (V.int i=V.int j)=(i==j):=by rw[yq];simp
theorem GU:ω (V.bl i=V.bl j)=(i==j):=by rw[yq];simp
theorem C6:ω (V.str i=V.str j)=(i==j):=by rw[yq];simp
theorem C7:ω (V.CW i=V.CW j)=(i.toList==j.toList):=by rw[yq];cases i;cases j;simp
section
variable{X:Cx}{a b c:Δ}{ta tb tc:TE}{pos:Pos}
theorem aF(I:Inv X pins σ H s)(q:Q (.bl k) H)(e:k=k'):EP X pins σ Q (.bool k') s:=by subst e;exact{.bl k,H,I,rfl,q}
theorem MY:gE X (compareOp .Eq) rEq:=by intro pins s σ H x y v u Q I rx ry h;obtain⟨hs,q⟩:=h;cases x with|au=>(cases rx;cases y with|au=>(cases ry;exact PySem.EqNone.eq_none_none<|aF I q<|by simp)|bl j=>(cases ry;exact PySem.EqNone.eq_none_bool<|aF I q<|by simp)|int j=>(obtain⟨t',rfl⟩:=ry;exact PySem.EqNone.eq_none_int<|aF I q<|by simp)|str j=>(obtain⟨t',rfl⟩:=ry;exact PySem.EqNone.eq_none_str<|aF I q<|by simp)|_=>exact absurd (show false=true from hs) zd)|bl i=>(cases rx;cases y with|au=>(cases ry;exact PySem.EqNone.eq_bool_none<|aF I q<|by simp)|bl j=>(cases ry;exact eq_bool<|aF I q GU)|str j=>(obtain⟨t',rfl⟩:=ry;exact PySem.EqMixed.eq_bool_str<|aF I q<|by simp)|_=>exact absurd (show false=true from hs) zd)|int i=>(obtain⟨t,rfl⟩:=rx;cases y with|au=>(cases ry;exact PySem.EqNone.eq_int_none<|aF I q<|by simp)|int j=>(obtain⟨t',rfl⟩:=ry;exact eq_int<|aF I q C5)|str j=>(obtain⟨t',rfl⟩:=ry;exact PySem.EqMixed.eq_int_str<|aF I q<|by simp)|_=>exact absurd (show false=true from hs) zd)|str i=>(obtain⟨t,rfl⟩:=rx;cases y with|au=>(cases ry;exact PySem.EqNone.eq_str_none<|aF I q<|by simp)|bl j=>(cases ry;exact PySem.EqMixed.eq_str_bool<|aF I q<|by simp)|int j=>(obtain⟨t',rfl⟩:=ry;exact PySem.EqMixed.eq_str_int<|aF I q<|by simp)|str j=>(obtain⟨t',rfl⟩:=ry;exact eq_str<|aF I q C6)|_=>exact absurd (show false=true from hs) zd)|CW i=>(obtain⟨t,rfl⟩:=rx;cases y with|CW j=>(obtain⟨t',rfl⟩:=ry;exact PySem.W.eq_bytes<|aF I q C7)|_=>exact absurd (show false=true from hs) zd)|_=>cases y<;>exact absurd (show false=true from hs) zd
theorem MZ:gE X (compareOp .NotEq) rNe:=by intro pins s σ H x y v u Q I rx ry h;obtain⟨hs,q⟩:=h;cases x with|au=>(cases rx;cases y with|au=>(cases ry;exact PySem.EqNone.ne_none_none<|aF I q<|by simp)|bl j=>(cases ry;exact PySem.EqNone.ne_none_bool<|aF I q<|by simp)|int j=>(obtain⟨t',rfl⟩:=ry;exact PySem.EqNone.ne_none_int<|aF I q<|by simp)|str j=>(obtain⟨t',rfl⟩:=ry;exact PySem.EqNone.ne_none_str<|aF I q<|by simp)|_=>exact absurd (show false=true from hs) zd)|bl i=>(cases rx;cases y with|au=>(cases ry;exact PySem.EqNone.ne_bool_none<|aF I q<|by simp)|bl j=>(cases ry;exact ne_bool<|aF I q<|congrArg not GU)|str j=>(obtain⟨t',rfl⟩:=ry;exact PySem.EqMixed.ne_bool_str<|aF I q<|by simp)|_=>exact absurd (show false=true from hs) zd)|int i=>(obtain⟨t,rfl⟩:=rx;cases y with|au=>(cases ry;exact PySem.EqNone.ne_int_none<|aF I q<|by simp)|int j=>(obtain⟨t',rfl⟩:=ry;exact ne_int<|aF I q<|congrArg not C5)|str j=>(obtain⟨t',rfl⟩:=ry;exact PySem.EqMixed.ne_int_str<|aF I q<|by simp)|_=>exact absurd (show false=true from hs) zd)|str i=>(obtain⟨t,rfl⟩:=rx;cases y with|au=>(cases ry;exact PySem.EqNone.ne_str_none<|aF I q<|by simp)|bl j=>(cases ry;exact PySem.EqMixed.ne_str_bool<|aF I q<|by simp)|int j=>(obtain⟨t',rfl⟩:=ry;exact PySem.EqMixed.ne_str_int<|aF I q<|by simp)|str j=>(obtain⟨t',rfl⟩:=ry;exact ne_str<|aF I q<|congrArg not C6)|_=>exact absurd (show false=true from hs) zd)|CW i=>(obtain⟨t,rfl⟩:=rx;cases y with|CW j=>(obtain⟨t',rfl⟩:=ry;exact PySem.W.ne_bytes<|aF I q<|congrArg not C7)|_=>exact absurd (show false=true from hs) zd)|_=>cases y<;>exact absurd (show false=true from hs) zd
theorem TV:gE X (compareOp .Lt) (Ko λi j=>.bl<|ω<|i<j):=Kq λ_ _ _ _ _ _ _ q=>lt_int q
theorem TY:gE X (compareOp .LtE) (Ko λi j=>.bl<|ω<|i<=j):=Kq λ_ _ _ _ _ _ _ q=>le_int q
theorem TZ:gE X (compareOp .Gt) (Ko λi j=>.bl<|ω<|j<i):=Kq λ_ _ _ _ _ _ _ q=>gt_int q
theorem T4:gE X (compareOp .GtE) (Ko λi j=>.bl<|ω<|j<=i):=Kq λ_ _ _ _ _ _ _ q=>ge_int q
theorem EK:gE X (compareOp .Lt) (λx y H Q=>∃i j,x=.str i/\y=.str j/\Q (.bl<|ω<|i.cps.toList<j.cps.toList) H):=by intro pins s σ H x y v u Q I rx ry h;obtain⟨i,j,rfl,rfl,q⟩:=h;obtain⟨t,rfl⟩:=rx;obtain⟨t',rfl⟩:=ry;exact lt_str<|aF I q rfl
theorem EL:gE X (compareOp .In) (λx y H Q=>∃i j,x=.str i/\y=.str j/\Q (.bl<|!(Builtin.Str.occurrences j i 0 j.length 1).isEmpty) H):=by intro pins s σ H x y v u Q I rx ry h;obtain⟨i,j,rfl,rfl,q⟩:=h;obtain⟨t,rfl⟩:=rx;obtain⟨t',rfl⟩:=ry;exact in_str<|aF I q rfl
theorem O7:gE X (compareOp .Is) (λx y H Q=>y=.au/\Q (.bl<|ω<|x=.au) H):=by intro pins s σ H x y v u Q I rx ry h;obtain⟨rfl,q⟩:=h;cases ry;refine is_none_gen<|aF I q ?_;cases x<;>first| (cases rx;rfl)| (obtain⟨t,rfl⟩:=rx;rfl)
theorem Ks:gE X (compareOp .IsNot) (λx y H Q=>y=.au/\Q (.bl<|!decide (x=.au)) H):=by intro pins s σ H x y v u Q I rx ry h;obtain⟨rfl,q⟩:=h;cases ry;refine isnot_none_gen<|aF I q ?_;cases x<;>first| (cases rx;rfl)| (obtain⟨t,rfl⟩:=rx;rfl)
theorem Yq(b:Δ)(h:ψ (op≠.In) qQZ)(h2:ψ (op≠.NotIn) qQZ):behindInMarks op b=false:=by
 have e1:(op==CmpOp.In)=false:=by cases op<;>first|rfl|exact absurd rfl h
 have e2:(op==CmpOp.NotIn)=false:=by cases op<;>first|rfl|exact absurd rfl h2
 cases b<;>simp[behindInMarks,e1,e2]
theorem C8{op:CmpOp}{r:R2}(ho:gE X (compareOp op) r)(ha:PE X a ta)(hb:PE X b tb)(hm:behindInMarks op b=false):PE X (.Compare a [op] [b] pos) (R4 r ta tb):=by intro pins s σ H Q I h;exact wpAny_Compare1 (OY ha hb I h λv u s2 x y H2 I2 rx ry q=>ho pins s2 σ H2 x y v u Q I2 rx ry q) hm
def GV(t:TE):TT:=λσ H Q=>t σ H λx H'=>∃k,x=.bl k/\Q k H'
theorem Kt{op:CmpOp}{r:R2}(ho:gE X (compareOp op) r)(ha:PE X a ta)(hb:PE X b tb)(hm:behindInMarks op b=false):PT X (.Compare a [op] [b] pos) (GV<|R4 r ta tb):=by intro pins s σ H Q I h;refine wpAny_isTrue_Compare1 (bj (ha pins s σ H _ I h) λv s1 ⟨x,H1,I1,r1,q1⟩=>bj (hb pins s1 σ H1 _ I1 q1) λu s2 ⟨y,H2,I2,r2,q2⟩=>bj (ho pins s2 σ H2 x y v u _ I2 r1 r2 q2) λc s3 ⟨z,H3,I3,r3,k,e,q3⟩=>?_) hm;subst e;cases r3;exact yC ⟨H3,I3,q3⟩
def AY(r r':R2)(ta tb tc:TE):TE:=λσ H Q=>ta σ H λx H1=>tb σ H1 λy H2=>r x y H2 λz H3=>∃k,z=.bl k/\(if k=true then tc σ H3 λw' H4=>r' y w' H4 Q else Q (.bl false) H3)
theorem GW{op EM:CmpOp}{r r':R2}(ho:gE X (compareOp op) r)(wG:gE X (compareOp EM) r')(ha:PE X a ta)(hb:PE X b tb)(hc:PE X c tc) (hm:ψ (lastMarks [op,EM] [b,c]=false) qQ2):PE X (.Compare a [op,EM] [b,c] pos) (AY r r' ta tb tc):=by intro pins s σ H Q I h;refine Compare_chain (bj (ha pins s σ H _ I h) λv s1 ⟨x,H1,I1,r1,q1⟩=>chain_link<|bj (hb pins s1 σ H1 _ I1 q1) λu s2 ⟨y,H2,I2,r2,q2⟩=>bj (ho pins s2 σ H2 x y v u _ I2 r1 r2 q2) λd s3 ⟨z,H3,I3,r3,k,e,q3⟩=>?_) hm;subst e;cases r3;refine yC ?_;cases k with|false=>exact ite_ff {.bl false,H3,I3,rfl,q3}|true=>exact ite_tt<|chain_last<|bj (hc pins s3 σ H3 _ I3 q3) λw' s4 ⟨z',H4,I4,r4,q4⟩=>wG pins s4 σ H4 y z' u w' Q I4 r2 r4 q4
theorem GX{op EM:CmpOp}{r r':R2}(ho:gE X (compareOp op) r)(wG:gE X (compareOp EM) r')(ha:PE X a ta)(hb:PE X b tb)(hc:PE X c tc) (hm:ψ (lastMarks [op,EM] [b,c]=false) qQ2):PT X (.Compare a [op,EM] [b,c] pos) (GV<|AY r r' ta tb tc):=by intro pins s σ H Q I h;refine isTrue_chain (bj (ha pins s σ H _ I h) λv s1 ⟨x,H1,I1,r1,q1⟩=>test_link<|bj (hb pins s1 σ H1 _ I1 q1) λu s2 ⟨y,H2,I2,r2,q2⟩=>bj (ho pins s2 σ H2 x y v u _ I2 r1 r2 q2) λd s3 ⟨z,H3,I3,r3,k,e,q3⟩=>?_) hm;subst e;cases r3;refine yC ?_;cases k with|false=>(obtain⟨k',e',q'⟩:=q3;cases e';exact ite_ff ⟨H3,I3,q'⟩)|true=>refine ite_tt<|test_last<|bj (hc pins s3 σ H3 _ I3 q3) λw' s4 ⟨z',H4,I4,r4,q4⟩=>bj (wG pins s4 σ H4 y z' u w' _ I4 r2 r4 q4) λd' s5 ⟨z2,H5,I5,r5,k2,e2,q5⟩=>?_;subst e2;cases r5;exact yC ⟨H5,I5,q5⟩
theorem pP:(sizeLine:π)<2^63:=by rw[yj];decide
theorem AZ:gE X (binaryOp .Add) (λx y H Q=>∃i j,x=.str i/\y=.str j/\i.length+j.length<=sizeLine/\Q (.str<|i++j) H):=by intro pins s σ H x y v u Q I rx ry h;obtain⟨i,j,rfl,rfl,hz,q⟩:=h;obtain⟨t,rfl⟩:=rx;obtain⟨t',rfl⟩:=ry;exact add_str (λt' tk=>{.str<|i++j,H,I.tok _,{_,rfl},q}) hz
theorem vals1(r:Vals [x] us):∃u,us=[u]/\RelV x u:=by cases r with|cons r1 r2=>cases r2;exact{_,rfl,r1}
theorem vals2(r:Vals [x,y] us):∃u w',us=[u,w']/\RelV x u/\RelV y w':=by cases r with|cons r1 r2=>cases r2 with|cons r3 r4=>cases r4;exact{_,_,rfl,r1,r3}
theorem EN(hc:X.calm=true):eI X (.builtin "min") (λxs H Q=>∃i j,xs=[.int i,.int j]/\Q (.int<|if j<i then j else i) H):=by intro pins s σ H xs us Q I r h;obtain⟨i,j,rfl,q⟩:=h;obtain⟨u,w',rfl,⟨t,rfl⟩,⟨t',rfl⟩⟩:=vals2 r;refine min_two_ints (I.ok.hd hc) λh' tk k=>{_,H,I.kept k,?_,q};by_cases hj:j<i;rw[xL hj,xL hj];exact{_,rfl};rw[xz hj,xz hj];exact{_,rfl}
theorem sV:eI X (.type "int") (λxs H Q=>(∃i,xs=[.int i]/\Q (.int i) H)\/∃k,xs=[.bl k]/\Q (.int<|if k then 1 else 0) H):=by intro pins s σ H xs us Q I r h;rcases h with⟨i,rfl,q⟩|⟨k,rfl,q⟩;obtain⟨u,rfl,t,rfl⟩:=vals1 r;exact call_int_int {.int i,H,I,{_,rfl},q};obtain⟨u,rfl,r1⟩:=vals1 r;cases r1;exact call_int_bool {.int<|if k then 1 else 0,H,I.tok _,{_,rfl},q}
def Yr(K:Φ)(x:V)(H:Hp)(n:π):Prop:=match x with|.str y=>y.length<=sizeLine/\n=y.length|.CW y=>y.size<=sizeLine/\n=y.size|.ref p=>(∃xs,iu K H p xs/\n=xs.length)\/∃xs,hW K H p xs/\n=xs.length|_=>False
theorem iI:eI X (.builtin "len") (λxs H Q=>∃x n,xs=[x]/\Yr X.K x H n/\Q (.int n) H):=by intro pins s σ H xs us Q I r h;obtain⟨x,n,rfl,e,q⟩:=h;obtain⟨u,rfl,rx⟩:=vals1 r;have hl:=pP;have hs:sizeLine=16777216:=yj;cases x with|str y=>(obtain⟨t,rfl⟩:=rx;obtain⟨hy,e'⟩:y.length<=sizeLine/\n=y.length:=e;subst e';exact len_str (by lia) {.int _,H,I.tok _,{_,rfl},q})|CW y=>(obtain⟨t,rfl⟩:=rx;obtain⟨hy,e'⟩:y.size<=sizeLine/\n=y.size:=e;subst e';exact PySem.W.len_bytes (by lia) {.int _,H,I.tok _,{_,rfl},q})|ref p=>(cases rx;have e':(∃xs,iu X.K H p xs/\n=xs.length)\/∃xs,hW X.K H p xs/\n=xs.length:=e;rcases e' with⟨xs,hx,e'⟩|⟨xs,hx,e'⟩;subst e';obtain⟨ar,r',pl,hz⟩:=I.list hx;have hlen:=r'.length;exact Calls.call_len_list pl.isList (by simp only[zr];lia) {.int xs.length,H,I.tok _,{_,by simp only[zr];rw[hlen]},q};subst e';obtain⟨ar,r',pl,hz⟩:=I.tuple hx;have hlen:=r'.length;exact len_tuple pl (by simp only[zr];lia) {.int xs.length,H,I.tok _,{_,by simp only[zr];rw[hlen]},q})|_=>exact(show False from e).elim
end
structure A1(h:Γ)(x dx C:ε)(mA:ρ->θ ξ):η where
 obj:h.get? x=some (instObj C dx)
 ns:h.Ns1 dx mA
 ne:dx≠x
theorem EO{h:Γ}{dx:ε}{mA:ρ->θ ξ}(n:h.Ns1 dx mA):∃od,h.get? dx=some od/\∀name,lookIn name od=some (mA name):=by
 obtain⟨o,es,ep,ho,hd,hk,_,hm⟩:=n;refine{o,ho,λname=>?_};have e:=hm name;unfold nsFind findBy at e;rw[<-Array.find?_toList]at e;unfold lookIn;rw[hd];dsimp only;split;rename_i y q;rw[q]at e;exact congrArg some e;rename_i q;rw[q]at e;have a:es.toList.any (·.refKey)=false:=by rw[List.any_eq_false];intro y hy;obtain⟨z,t,GY⟩:=hk y<|Array.mem_toList_iff.mp hy;simp[DictEntry.refKey,GY]
 have a':¬es.toList.any (·.refKey)=true:=by rw[a];exact zd
 rw[xz a'];exact congrArg some e
theorem A1.look(I:A1 h x dx C mA):∃od,PySem.W.InstAt h x (instObj C dx) C (some od)/\∀name,lookIn name od=some (mA name):=
 let ⟨od,ho,hl⟩:=EO I.ns
 ⟨od,⟨I.obj,rfl,rfl,ho⟩,hl⟩
section
variable{prog:Ψ}{w:Ω}{A:ϕ}{E:ξ->ζ->η}{s:ζ}{K:Φ}{x dx C f:ε}{mA:ρ->θ ξ}{name:ρ}{v:ξ}
theorem get_map(X:K.In s.heap)(I:A1 s.heap x dx C mA)(hg:plainGet K C name=true)(hh:hasDictIn K C=true) (ha:findIn K (.ref C) name=some none) (hv:mA name=some v) (W4:handedIn v=true) (h:Q v {s with toks:=s.toks+1}): wpAny (model prog w) A (getAttr (.ref x) name expr) Q E s:=by obtain⟨od,J,hl⟩:=I.look;exact PySem.W.get_value X J (plainGet_of hg).1 (PySem.W.findObj_own hh ha rfl<|by rw[hl,hv]) W4 h
theorem GZ(X:K.In s.heap)(I:A1 s.heap x dx C mA)(hg:plainGet K C name=true) (hf:findIn K (.ref C) name=some (some<|.ref f)) (ht:isFn K (.ref f)=true) (hv:mA name=none) (h:Q (.ref f,[.ref x]) s): wpAny (model prog w) A (getMethod (.ref x) name pl) Q E s:=by obtain⟨od,J,hl⟩:=I.look;exact PySem.W.method_fn X J (plainGet_of hg).1 (plainGet_of hg).2 hf (y3.mp ht) (by show(lookIn name od).map (·.isSome)=some false;rw[hl,hv];rfl) h
theorem Ku(X:K.In s.heap)(I:A1 s.heap x dx C mA) (hs:findIn K (.ref C) "__setattr__"= some (some<|.builtin "object.__setattr__")) (hp:plainOver K C=true) (ht:takerIn K C name=some none) (hh:hasDictIn K C=true) (hw:PySem.Within mA ns) (hsz:ns.length<=sizeLine) (h:∀h',A1 h' x dx C (λy=>if y=name then some v else mA y)->Heap.SameBut dx s.heap h'->Q () {s with heap:=h',toks:=s.toks+2}): wpAny (model prog w) A (setAttr (.ref x) name v) Q E s:=by obtain⟨od,J,hl⟩:=I.look;refine PySem.W.set_plain X J hs<|PySem.W.osa_open (s:={s with toks:=s.toks+1}) (r:=none) X J hp ht λb=>?_;obtain⟨cd,hc,AU⟩:=PySem.W.any_some hh;have hx:s.heap.get? x=some {.ref C,some dx,.plain,#[]}:=I.obj;refine zc<|zo<|zc<|zc<|wpAny_loadPart hx<|zc<|PySem.W.Looks.here (s:={s with toks:=s.toks+1}) (PySem.W.looks_clsIn X hc) ?_;rw[AU];refine zo (a:=some dx)<|zc<|zo<|zc ?_;refine wpAny_nsSet1 (s:={s with toks:=s.toks+1}) I.ns λh' G0 wK=>?_;obtain⟨oD,esD,epD,hoD,hdD,hcD⟩:=G0.count<|PySem.Within.cons name v hw;refine zc<|wpAny_lookBehind hoD (by rw[hdD];exact pastItsLine_dict<|zG hcD<|by rw[zO];lia) ?_;exact zo<|h _ {(wK.2 _<|Ne.symm I.ne).trans I.obj,G0,I.ne} wK
theorem G1(X:K.In s.heap)(hm:makesIn K C=true) (hi:findIn K (.ref C) "__init__"= some (some<|.ref f)) (hf:PySem.W.typeIn K (.ref f)=some (.type "function")) (h:codeAny (model prog w) (A.under<|.builtin "type.__call__" {.ref C::vs,kw}) (.call (.ref f) {.ref (s.heap.objs.size+1)::vs,kw}) (PySem.W.InitBack (s.heap.objs.size+1) R) {s with heap:=(s.heap.push emptyDict).push<|instObj C s.heap.objs.size}): codeAny (model prog w) A (.call (.ref C) ⟨vs,kw⟩) R s:=by obtain⟨hh,g,d,t,os⟩:=s;exact PySem.W.make_core (PySem.W.makes_of X hm) (PySem.W.looks_findIn X hi) (λself=>PySem.W.bind_fn X self hf) (.inl rfl) h
end
noncomputable def putF(f:ρ)(v:V):δ (ρ×V)->δ (ρ×V)|[]=>[(f,v)]| (g,x)::r=>if g=f then (g,v)::r else (g,x)::putF f v r
theorem nE(f g:ρ)(v:V):∀fs:δ (ρ×V),(putF f v fs).lookup g=if g=f then some v else fs.lookup g|[]=>by show List.lookup g [(f,v)]=_;by_cases h:g=f;have hb:(g==f)=true:=y3.mpr h;simp only[List.lookup,hb,xL h];have hb:(g==f)=false:=beq_eq_false_iff_ne.mpr h;simp only[List.lookup,hb,xz h]| (k,x)::r=>by have ih:=nE f g v r;rw[show putF f v ((k,x)::r)=(if k=f then (k,v)::r else (k,x)::putF f v r) from rfl];by_cases hk:k=f;rw[xL hk];by_cases h:g=k;have hb:(g==k)=true:=y3.mpr h;simp only[List.lookup,hb,xL<|h.trans hk];have hb:(g==k)=false:=beq_eq_false_iff_ne.mpr h;simp only[List.lookup,hb,xz (λe:g=f=>h<|e.trans hk.symm)];rw[xz hk];by_cases h:g=k;have hb:(g==k)=true:=y3.mpr h;simp only[List.lookup,hb,xz (λe:g=f=>hk<|h.symm.trans e)];have hb:(g==k)=false:=beq_eq_false_iff_ne.mpr h;simp only[List.lookup,hb];exact ih
theorem mv(f:ρ)(v:V):∀fs:δ (ρ×V),f∈(putF f v fs).map (·.1)/\∀g,g∈fs.map (·.1)->g∈(putF f v fs).map (·.1)|[]=>{by simp[putF],λg h=>by simp at h}| (k,x)::r=>by obtain⟨i1,i2⟩:=mv f v r;rw[show putF f v ((k,x)::r)=(if k=f then (k,v)::r else (k,x)::putF f v r) from rfl];by_cases hk:k=f;rw[xL hk];subst hk;exact{by simp,λg h=>by simpa using h};rw[xz hk];refine{?_,λg h=>?_};rw[zw];exact zh _ i1;rw[zw]at h⊢;rcases zk.mp h with e|e;exact zk.mpr<|.inl e;exact zh _<|i2 g e
theorem nF(f:ρ)(v:V):∀fs:δ (ρ×V),(putF f v fs).length<=fs.length+1|[]=>by simp[putF]| (k,x)::r=>by have ih:=nF f v r;rw[show putF f v ((k,x)::r)=(if k=f then (k,v)::r else (k,x)::putF f v r) from rfl];by_cases hk:k=f;rw[xL hk,zO,zO];lia;rw[xz hk,zO,zO];lia
theorem fB.some_of(r:fB (some v) o):∃u,o=some u/\RelV v u:=by cases o with|none=>exact(show False from r).elim|some u=>exact⟨u,rfl,r⟩
theorem fB.none_of(r:fB none o):o=none:=by cases o with|none=>rfl|some u=>exact(show False from r).elim
theorem ER(r:RelV v u):handedIn u=true:=by cases v with|au=>(cases (show u=Value.none from r);rfl)|bl b=>(cases (show u=Value.bool b from r);rfl)|int i=>(obtain⟨t,e⟩:=(show ∃t,u=Value.int i t from r);cases e;rfl)|str x=>(obtain⟨t,e⟩:=(show ∃t,u=Value.str x t from r);cases e;rfl)|CW b=>(obtain⟨t,e⟩:=(show ∃t,u=Value.bytes b t from r);cases e;rfl)|Ou b=>(obtain⟨t,e⟩:=(show ∃t,u=Value.float b t from r);cases e;rfl)|ref a=>(cases (show u=Value.ref a from r);rfl)|ty n=>cases (show u=Value.type n from r);rfl
section
variable{P:Ψ}{w:Ω}{H:Hp}{h:Γ}{a C dx:ε}{fs:δ (ρ×V)}
theorem oU(aI:j7 P w H h)(e:H a=some (.ins C dx fs)):∃mA,A1 h a dx C mA/\(∀f,fB (fs.lookup f)<|mA f)/\PySem.Within mA (fs.map (·.1))/\fs.length<=1000/\H dx=some (.own a):=by obtain⟨d,z,ne,ob,mA,n,r,q⟩:=(show aS P w H h a (.ins C dx fs) from aI a _ e);exact{mA,⟨ob,n,ne⟩,r,q,z,d}
end
structure oV(K:Φ)(C:ε):η where
 pg:plainGet K C Str.empty=true
 hd:hasDictIn K C=true
 po:plainOver K C=true
 sa:findIn K (.ref C) "__setattr__"= some (some<|.builtin "object.__setattr__")
theorem oV.get{K:Φ}{C:ε}(c:oV K C)(f:ρ):plainGet K C f=true:=c.pg
def iJ(K:Φ)(C:ε)(f:ρ):Prop:=findIn K (.ref C) f=some none
theorem iJ.T5{K:Φ}{C:ε}{f:ρ}(n:iJ K C f):takerIn K C f=some none:=by unfold takerIn;rw[show findIn K (.ref C) f=some none from n];rfl
structure Con(K:Φ)(C:ε)(f:ρ)(v:V)(u:ξ):η where
 at_:findIn K (.ref C) f=some (some u)
 rel:RelV v u
 get:specialIn K u "__get__"= some none
 cp:PySem.W.copiedNames.contains f=false
structure Meth(K:Φ)(C:ε)(m:ρ)(f:ε):η where
 at_:findIn K (.ref C) m=some (some<|.ref f)
 fn:isFn K (.ref f)=true
 kp:keepIn K (.ref f)=true
section
variable{X:Cx}{pins:δ (ε×Obj)}{σ:St}{H:Hp}{s:ζ}{a C dx:ε}{fs:δ (ρ×V)}{f:ρ}{v:V}{A:ϕ}{E:ξ->ζ->η}
theorem A3(I:Inv X pins σ H s)(e:H a=some (.ins C dx fs))(c:oV X.K C)(n:iJ X.K C f)(l:fs.lookup f=some v) (h:∀u s',Inv X pins σ H s'->RelV v u->Q u s'):wpAny (model X.prog X.w) A (getAttr (.ref a) f b) Q E s:=by obtain⟨mA,O,r,_,_,_⟩:=oU I.aI e;obtain⟨u,hu,ru⟩:=fB.some_of (v:=v) (o:=mA f) (by rw[<-l];exact r f);exact get_map I.nD O (c.get f) c.hd n hu (ER ru)<|h u _ (I.tok _) ru
theorem pQ(I:Inv X pins σ H s)(e:H a=some (.ins C dx fs))(c:oV X.K C)(k:Meth X.K C m g)(l:fs.lookup m=none) (h:Q (.ref g,[.ref a]) s):wpAny (model X.prog X.w) A (getMethod (.ref a) m pl) Q E s:=by obtain⟨mA,O,r,_,_,_⟩:=oU I.aI e;have hn:mA m=none:=fB.none_of (by rw[<-l];exact r m);exact GZ I.nD O (c.get m) k.at_ k.fn hn h
theorem A4(I:Inv X pins σ H s)(e:H a=some (.ins C dx fs))(c:oV X.K C)(n:iJ X.K C f)(hl:fs.length<1000)(ry:RelV y u) (h:∀s',Inv X pins σ (upd H a<|.ins C dx<|putF f y fs) s'->Q () s'):wpAny (model X.prog X.w) A (setAttr (.ref a) f u) Q E s:=by
 obtain⟨mA,O,r,wi,_,ho⟩:=oU I.aI e;have hz:(fs.map (·.1)).length<=sizeLine:=by rw[za,yj];lia
 refine Ku I.nD O c.sa c.po n.T5 c.hd wi hz λh' O' sb=>h _ ?_;have hd:∃o,h'.get? dx=some o:=by obtain⟨o,_,_,e',_⟩:=O'.ns;exact⟨o,e'⟩
 refine I.write (x:=a) (e:=dx) (by rw[e];exact True.intro) (.inr ho) (λb q hb z=>(sb.2 b hb).trans z) hd ?_;refine{by rw[av O.ne];exact ho,?_,O.ne,O'.obj,_,O'.ns,λg=>?_,λg hg=>?_};have:=nF f y fs;lia;show fB ((putF f y fs).lookup g) (if g=f then some u else mA g);rw[nE];by_cases q:g=f;rw[xL q,xL q];exact ry;rw[xz q,xz q];exact r g;by_cases q:g=f;rw[q];exact(mv f y fs).1;refine(mv f y fs).2 g<|wi g λz=>hg ?_;show(if g=f then some u else mA g)=none;rw[xz q];exact z
theorem Inv.made(I:Inv X pins σ H s):Inv X pins σ (upd (upd H s.heap.objs.size<|.own<|s.heap.objs.size+1) (s.heap.objs.size+1)<|.ins C s.heap.objs.size []) {s with heap:=(s.heap.push emptyDict).push<|instObj C s.heap.objs.size}:=by
 have e1:(s.heap.push emptyDict).get? s.heap.objs.size=some emptyDict:=zi s.heap rfl;have e2:((s.heap.push emptyDict).push<|instObj C s.heap.objs.size).get? (s.heap.objs.size+1)=some (instObj C s.heap.objs.size):=by have:=zi (s.heap.push emptyDict) (o:=instObj C s.heap.objs.size) rfl;rwa [ya]at this
 have e3:(s.heap.push emptyDict).Ns s.heap.objs.size (λ_=>none):={emptyDict,#[],_,e1,rfl,(λe he=>absurd he<|by simp),λ_=>rfl};have I1:=I.laid (a:=s.heap.objs.size) (o:=.own<|s.heap.objs.size+1) (h':=s.heap.push emptyDict) (t':=s.toks) (λb u q=>zb _ q) (zm _) {_,e1};refine I1.laid (a:=s.heap.objs.size+1) (o:=.ins C s.heap.objs.size []) (t':=s.toks) (λb u q=>zb _ q) (Nat.le_of_eq<|ya _ _) ?_;have ne:s.heap.objs.size≠s.heap.objs.size+1:=zB<|yK _;refine{by rw[av ne,aB],zY _,ne,e2,λ_=>none,(Heap.Ns1.of_empty e3).at λo q=>zb _ q,λ_=>True.intro,λy hy=>absurd rfl hy}
theorem Kv(hb:attributeBase e f env (eval e env)=eval e env) (h:wpAny (model prog w) A (eval e env) (λo aU=>wpAny (model prog w) A (getAttr o f true) Q E aU) E s):wpAny (model prog w) A (eval (.Attribute e f pos) env) Q E s:=Attribute_any_ h<|by rw[arm_eval_Attribute,hb]
end
def Ys(K:Φ)(ta:TE)(f:ρ):TE:=λσ H Q=>ta σ H λx H1=>∃a C dx fs v,x=.ref a/\H1 a=some (.ins C dx fs)/\oV K C/\iJ K C f/\fs.lookup f=some v/\Q v H1
def Yt(K:Φ)(ta tv:TE)(f:ρ):TS:=λD σ H=>tv σ H λy H1=>ta σ H1 λx H2=>∃a C dx fs,x=.ref a/\H2 a=some (.ins C dx fs)/\oV K C/\iJ K C f/\fs.length<1000/\D.nx σ (upd H2 a<|.ins C dx<|putF f y fs)
section
variable{X:Cx}{o e value:Δ}{f:ρ}{pos pos':Pos}{ta tv:TE}
theorem O8(he:PE X e ta)(hb:attributeBase e f X.env (eval e X.env)=eval e X.env):PE X (.Attribute e f pos) (Ys X.K ta f):=by intro pins s σ H Q I h;refine Kv hb<|bj (he pins s σ H _ I h) λu s1 ⟨x,H1,I1,rx,a,C,dx,fs,v,ex,ea,c,n,l,q⟩=>?_;subst ex;obtain rfl:u=Value.ref a:=rx;exact A3 I1 ea c n l λu' s2 I2 ru=>⟨v,H1,I2,ru,q⟩
theorem O9(ha:PE X o ta)(hv:PE X value tv)(hs:swapsWith value (some<|.Attribute o f pos') pos.line X.env=pure false):PS X (.Assign [.Attribute o f pos'] value pos) (Yt X.K ta tv f):=by intro pins s σ H D I h;refine plainObj_wpAny_Assign_Attribute (bj (hv pins s σ H _ I h) λu s1 ⟨y,H1,I1,ry,q⟩=>bj (ha pins s1 σ H1 _ I1 q) λov s2 ⟨x,H2,I2,rx,a,C,dx,fs,ex,ea,c,n,l,q2⟩=>?_) hs;subst ex;obtain rfl:ov=Value.ref a:=rx;exact A4 I2 ea c n l ry λs3 I3=>{σ,_,I3,q2}
end
section
variable{X:Cx}{pins:δ (ε×Obj)}{σ:St}{H:Hp}{s:ζ}{A:ϕ}{E Q:ξ->ζ->η}{c:ξ}{b:χ}
inductive mw (K:Φ) (H:Hp):V->ξ->η where
 |au:mw K H .au (.type "NoneType")
 |bl (x:χ):mw K H (.bl x) (.type "bool")
 |int (i:ν):mw K H (.int i) (.type "int")
 |str (x:ρ):mw K H (.str x) (.type "str")
 |Ou (x:UInt64):mw K H (.Ou x) (.type "float")
 |lst {a:ε}{xs:δ V} (e:H a=some (.lst xs)):mw K H (.ref a) (.type "list")
 |jA {a:ε}{o:Obj}{xs:δ V} (e:H a=some (.jA o<|.lst xs)):mw K H (.ref a) (.type "list")
 |tup {a:ε}{xs:δ V} (e:H a=some (.tup xs)):mw K H (.ref a) (.type "tuple")
 |dK {a:ε}{kvs:δ<|Key×V} (e:H a=some (.dK kvs)):mw K H (.ref a) (.type "dict")
 |dT {a:ε}{kvs:δ<|δ Key×V} (e:H a=some (.dT kvs)):mw K H (.ref a) (.type "dict")
 |ins {a C dx:ε}{fs:δ<|ρ×V} (e:H a=some (.ins C dx fs)) (cl:oV K C) (ha:findIn K (.ref C) "__class__"= some (some<|.builtin "object.__class__"))
   (hn:specialIn K (.builtin "object.__class__") "__get__"= some (some<|.builtin "getset_descriptor.__get__")) (Kw:PySem.W.takesIn K (.builtin "object.__class__")=some true)
   (hm:mroIn K C (.type "object")=some true):mw K H (.ref a) (.ref C)
theorem ES{u t:ξ}(I:Inv X pins σ H s)(rx:RelV x u)(ty:mw X.K H x t)(e:kitOne X.K t c=some b)(h:∀tk,Q (.bool b) {s with toks:=tk}): wpAny (model X.prog X.w) A (call (.builtin "isinstance") [u,c]) Q E s:=by cases ty with|au=>(cases (show u=Value.none from rx);exact kia_one PySem.W.kitx_none I.nD True.intro e (λz=>nomatch z) h)|bl y=>(cases (show u=Value.bool y from rx);exact kia_one PySem.W.kitx_bool I.nD True.intro e (λz=>nomatch z) h)|int i=>(obtain⟨t,q⟩:=(show ∃t,u=Value.int i t from rx);cases q;exact kia_one PySem.W.kitx_int I.nD True.intro e (λz=>nomatch z) h)|str y=>(obtain⟨t,q⟩:=(show ∃t,u=Value.str y t from rx);cases q;exact kia_one PySem.W.kitx_str I.nD True.intro e (λz=>nomatch z) h)|Ou y=>(obtain⟨t,q⟩:=(show ∃t,u=Value.float y t from rx);cases q;exact kia_one PySem.W.kitx_float I.nD True.intro e (λz=>nomatch z) h)|@lst a xs ea=>(cases (show u=Value.ref a from rx);obtain⟨_,_,n,_,h1⟩:=(show aS X.prog X.w H s.heap a (.lst xs) from I.aI a _ ea);exact kia_one kitx_list I.nD {_,h1,rfl} e (λz=>nomatch z) h)|@jA a ob xs ea=>(cases (show u=Value.ref a from rx);obtain⟨_,_,_,n,_,h1⟩:=(show aS X.prog X.w H s.heap a (.jA ob<|.lst xs) from I.aI a _ ea);exact kia_one kitx_list I.nD {_,h1,rfl} e (λz=>nomatch z) h)|@tup a xs ea=>(cases (show u=Value.ref a from rx);obtain⟨_,_,_,p⟩:=(show aS X.prog X.w H s.heap a (.tup xs) from I.aI a _ ea);obtain⟨o,h1,h2,_⟩:=p;exact kia_one PySem.W.kitx_tuple I.nD ⟨o,h1,h2⟩ e (λz=>nomatch z) h)|@dK a kvs ea=>(cases (show u=Value.ref a from rx);obtain⟨_,_,vs,_,p⟩:=(show aS X.prog X.w H s.heap a (.dK kvs) from I.aI a _ ea);obtain⟨o,es,ep,h1,h2,_⟩:=p;exact kia_one PySem.W.kitx_dict I.nD ⟨o,h1,h2.1⟩ e (λz=>nomatch z) h)|@dT a kvs ea=>exact False.elim (show aS X.prog X.w H s.heap a (.dT kvs) from I.aI a _ ea)|@ins a C dx fs ea cl ha hn Kw hm=>cases (show u=Value.ref a from rx);obtain⟨mA,O,_⟩:=oU I.aI ea;obtain⟨od,J,_⟩:=O.look;exact kia_one (PySem.W.kitx_own (cl.get _) cl.hd ha hn Kw hm) I.nD J e (λz=>nomatch z) h
end
structure bO(k:π)(A:ϕ):η where
 hd:A.handled=none
 dp:A.depth+3*k+5<recursionLimit
 un:A.units+16*k+200<cLine
theorem bO.mono(r:bO k A)(h:j<=k):bO j A:={r.hd,by have:=r.dp;lia,by have:=r.un;lia}
theorem bO.deeper(r:bO (k+1) A)(env:Env):bO k (A.deeper env):={r.hd,by have:=r.dp;show A.depth+1+3*k+5<_;lia,by have:=r.un;show A.units+3+16*k+200<_;lia}
theorem bO.in1(r:bO (k+1) A):bO k A.in1:={r.hd,by have:=r.dp;show A.depth+3*k+5<_;lia,by have:=r.un;show A.units+1+16*k+200<_;lia}
theorem A5{A:ϕ}{C:ε}{us:δ ξ}{kw:δ<|ρ×ξ} : (A.under<|.builtin "type.__call__" {.ref C::us,kw}).depth=A.depth+1:=by first|rfl|simp[Around.under,Code.weight,Code.isCreation,Code.isGuard,Code.isCaller,Code.frames,Code.isFrame,guardIds]
theorem A6{A:ϕ}{C:ε}{us:δ ξ}{kw:δ<|ρ×ξ} : (A.under<|.builtin "type.__call__" {.ref C::us,kw}).units=A.units+1:=by first|rfl|simp[Around.under,Code.cUnits,Code.frames,Code.isFrame]
theorem bO.make(r:bO (k+1) A)(C:ε)(us:δ ξ)(kw:δ<|ρ×ξ):bO k (A.under<|.builtin "type.__call__" {.ref C::us,kw}):={r.hd,by have:=r.dp;rw[A5];lia,by have:=r.un;rw[A6];lia}
theorem bO.depth(r:bO k A):A.depth<recursionLimit:=by have:=r.dp;lia
theorem bO.units(r:bO k A):A.units+64<cLine:=by have:=r.un;lia
def Yv:TA:=λ_ H Q=>Q [] H
def M0(ta:TE)(tr:TA):TA:=λσ H Q=>ta σ H λx H1=>tr σ H1 λxs H2=>Q (x::xs) H2
section
variable{X:Cx}{e:Δ}{es:δ Δ}{te:TE}{t:TA}{pos:Pos}
theorem A7:PA X [] Yv:=λ_ _ _ _ H Q I h=>Calls.spliced_nil {[],H,I,.nil,h}
theorem Kx(ha:PE X e te)(hr:PA X es t)(hs:ψ (starEach (e::es) X.env=(false,eval e X.env)::starEach es X.env) qQJ):PA X (e::es) (M0 te t):=by intro pos pins s σ H Q I h;rw[hs];show wpAny _ _ (spliced<|(false,eval e X.env)::backTo pos (starEach es X.env)) _ _ s;refine yL<|bj (ha pins s σ H _ I h) λu s1 ⟨x,H1,I1,r1,q1⟩=>?_;exact bj (hr pos pins s1 σ H1 _ I1 q1) <| by rintro us s2 ⟨xs,H2,I2,r2,q2⟩;exact{x::xs,H2,I2,.cons r1 r2,q2}
def Yw(t:TA):TE:=λσ H Q=>t σ H λxs H1=>xs.length<=sizeLine/\∀p,H1 p=none->Q (.ref p) (upd H1 p<|.tup xs)
def Yx(t:TA):TE:=λσ H Q=>t σ H λxs H1=>xs.length<=sizeLine/\∀p,H1 p=none->Q (.ref p) (upd H1 p<|.lst xs)
theorem O_{x1}(h:PA X es t):PE X (.Tuple es x1 pos) (Yw t):=by intro pins s σ H Q I hq;refine wpAny_Tuple_spliced<|bj (h pos pins s σ H _ I hq) λus s1 ⟨xs,H1,I1,r,z,q⟩=>{by rw[<-r.length];exact z,?_};have hf:H1 s1.heap.objs.size=none:=I1.aI.fresh<|zm _;refine{.ref s1.heap.objs.size,upd H1 s1.heap.objs.size<|.tup xs,I1.laid (t':=s1.toks) (λb u e=>zb _ e) (zm _) ?_,rfl,q _ hf};exact{z,us,r,{_,zi _ rfl,rfl,rfl,_,rfl}}
theorem Pa(h:PA X es t):PE X (.List es pos) (Yx t):=by intro pins s σ H Q I hq;refine wpAny_List_spliced<|bj (h pos pins s σ H _ I hq) λus s1 ⟨xs,H1,I1,r,z,q⟩=>{by rw[<-r.length];exact z,?_};have hf:H1 s1.heap.objs.size=none:=I1.aI.fresh<|zm _;refine{.ref s1.heap.objs.size,upd H1 s1.heap.objs.size<|.lst xs,I1.laid (t':=s1.toks) (λb u e=>zb _ e) (zm _) ?_,rfl,q _ hf};exact{z,us,0,r,zi _ rfl}
end
abbrev Sp:=δ V->Hp->VK->XK->η
abbrev A8:=δ Env->Hp->ζ->XK->ξ->ζ->η
structure wL(P:Ψ)(w:Ω)(K:Φ)(mg:ρ->θ ξ)(base:Γ)(A:ϕ)(outer:δ Env)(s:ζ)(H:Hp):η where
 frames:A.frames=some outer
 mod:Mod K mg base
 bs:∀b o,base.get? b=some o->s.heap.get? b=some o/\H b=none
 Ke:base.objs.size<=s.heap.objs.size
 ot:s.heap.FunFrames base outer
 Oy:∀b∈mm outer,H b=none
 aI:j7 P w H s.heap
 bare:AllBare s.gens
def CE(outer:δ Env)(P:Ψ)(w:Ω)(H:Hp)(s:ζ)(Q:VK)(u:ξ)(s':ζ):Prop:=∃v H',s'.os=s.os/\AllBare s'.gens/\Un (mm outer) [] H H' s.heap s'.heap/\j7 P w H' s'.heap/\RelV v u/\Q v H'
def CR(CX:A8)(outer:δ Env)(P:Ψ)(w:Ω)(H:Hp)(s:ζ)(Q:VK)(E:XK)(r:Result)(s':ζ):Prop:=match r with|.ok (.ret u)=>CE outer P w H s Q u s'|.ok _=>False|.error e=>CX outer H s E e s'
structure bK(P:Ψ)(w:Ω)(K:Φ)(mg:ρ->θ ξ)(base:Γ)(CX:A8)(k:π)(f:ε)(fd:FuncData)(ps:δ ρ)(sp:Sp):η where
 len:∀vs H Q E,sp vs H Q E->vs.length=ps.length
 run:∀(A:ϕ)(outer:δ Env)(s:ζ)(H:Hp)(args:Args)(us:δ ξ)(vs:δ V)(Q:VK)(E:XK),bO k A->wL P w K mg base A outer s H->BindsTo s fd args (ps.zip us)->Vals vs us->sp vs H Q E ->
  codeAny (model P w) A (.call (.ref f) args) (CR CX outer P w H s Q E) s
theorem bK.mono{P:Ψ}{w:Ω}{K:Φ}{mg:ρ->θ ξ}{base:Γ}{CX:A8}{j k:π}{f:ε}{fd:FuncData}{ps:δ ρ}{sp:Sp}(F:bK P w K mg base CX j f fd ps sp)(h:j<=k): bK P w K mg base CX k f fd ps sp:={F.len,λA outer s H args us vs Q E hr=>F.run A outer s H args us vs Q E<|hr.mono h}
theorem bK.imp{P:Ψ}{w:Ω}{K:Φ}{mg:ρ->θ ξ}{base:Γ}{CX:A8}{k:π}{f:ε}{fd:FuncData}{ps:δ ρ}{sp W5:Sp}(F:bK P w K mg base CX k f fd ps sp) (h:∀vs H Q E,W5 vs H Q E->sp vs H Q E):bK P w K mg base CX k f fd ps W5:={λvs H Q E q=>F.len vs H Q E<|h _ _ _ _ q,λA outer s H args us vs Q E hr he hb hv hs=>F.run A outer s H args us vs Q E hr he hb hv<|h _ _ _ _ hs}
theorem wL.make{P:Ψ}{w:Ω}{K:Φ}{mg:ρ->θ ξ}{base:Γ}{A:ϕ}{outer:δ Env}{s:ζ}{H:Hp}(e:wL P w K mg base A outer s H)(C:ε)(us:δ ξ)(kw:δ<|ρ×ξ): wL P w K mg base (A.under<|.builtin "type.__call__" {.ref C::us,kw}) outer s H:={by first|exact e.frames|(simpa [Around.under,Code.envs,Code.isFrame,pushEnvs]using e.frames),e.mod,e.bs,e.Ke,e.ot,e.Oy,e.aI,e.bare}
section
variable{X:Cx}{pins:δ (ε×Obj)}{σ:St}{H:Hp}{s s':ζ}
theorem Inv.T6(I:Inv X pins σ H s):wL X.prog X.w X.K X.mg X.base X.A X.stack s H:={I.ok.frames,I.ok.mod,I.bs,zG I.ok.Ke I.sz,I.stack,I.oQ,I.aI,I.bare}
theorem Inv.after(I:Inv X pins σ H s)(h:CE X.stack X.prog X.w H s Q u s'):EP X pins σ Q u s':=by obtain⟨v,H',os,bare,un,aI,r,q⟩:=h;obtain⟨hh,g,d,t,T7⟩:=s';obtain rfl:T7=s.os:=os;exact{v,H',I.call (h':=hh) (g':=g) (d':=d) (t':=t) (ch:=[]) un aI bare λb z=>absurd z<|by simp,r,q}
end
def Binds(K:Φ)(fd:FuncData)(ps:δ ρ)(ds:δ ξ):Prop:=∀(s:ζ)(us:δ ξ),K.In s.heap->(us++ds).length=ps.length->BindsTo s fd {us,[]} (ps.zip<|us++ds)
theorem Binds.all{K:Φ}{fd:FuncData}{ps:δ ρ}(h:∀us:δ ξ,us.length=ps.length->bindArgs fd {us,[]}=pure (ps.zip us)):Binds K fd ps []:=λs us _ hl=>by rw[List.append_nil]at hl⊢;exact .of_eq<|h us hl
def Passes(CX:A8)(X:Cx)(E:XK):Prop:=∀(pins:δ (ε×Obj))(σ:St)(H:Hp)(s:ζ)(e:ξ)(s':ζ),Inv X pins σ H s->CX X.stack H s E e s'->X.xe e s'
section
variable{f C:ε}
structure Mk(K:Φ)(C f:ε):η where
 makes:makesIn K C=true
 init:findIn K (.ref C) "__init__"= some (some<|.ref f)
 fn:isFn K (.ref f)=true
 kp:keepIn K (.ref C)=true
end
section
variable{fd:FuncData}{ps ks:δ ρ}
structure Yy(K:Φ)(fd:FuncData)(ps ks:δ ρ)(g:δ ξ->δ ξ->δ ξ)(gV:δ V->δ V->δ V):η where
 to:∀(s:ζ)(us ws:δ ξ),K.In s.heap->(g us ws).length=ps.length->BindsTo s fd {us,ks.zip ws} (ps.zip<|g us ws)
 rel:∀{vs:δ V}{us:δ ξ}{zs:δ V}{ws:δ ξ},Vals vs us->Vals zs ws->Vals (gV vs zs) (g us ws)
variable{g:δ ξ->δ ξ->δ ξ}{gV:δ V->δ V->δ V}
end
structure fI(N P:δ ρ)(sc:Scope):η where
 kind:sc.kind=.function
 co:sc.isCoroutine=false
 gen:sc.isGenerator=false
 nd:N.Nodup
 pre:N.take P.length=P
 par:∀x∈P,sc.names.lookup x=some .local\/sc.names.lookup x=some .cell
 Pb:∀y∈sc.names,y.2≠.free
theorem sW{kindOf:ρ->θ NameKind}{x:ρ} : ∀{binds:δ (ρ×ξ)}{m:ρ->θ ξ},(∀v,(x,v)∉binds)->bindL kindOf binds m x=m x
 |[],_,_=>rfl
 | (n,v)::r,m,h=>by
  unfold bindL;rw[sW λw hw=>h w<|zh _ hw];split;have:x≠n:=by rintro rfl;exact h v zj
  simp[this];rfl
theorem sX{kindOf:ρ->θ NameKind}{x:ρ} : ∀{binds:δ (ρ×ξ)}{m:ρ->θ ξ},(∀v,(x,v)∉binds)->bindC kindOf binds m x=m x
 |[],_,_=>rfl
 | (n,v)::r,m,h=>by
  unfold bindC;rw[sX λw hw=>h w<|zh _ hw];split;rfl;have:x≠n:=by rintro rfl;exact h v zj
  simp[this]
theorem sY{kindOf:ρ->θ NameKind}{x:ρ}{v:ξ} : ∀{P:δ ρ}{vs:δ ξ}{i:π}{m:ρ->θ ξ},P.Nodup->P[i]?=some x->vs[i]?=some v->kindOf x=some .local->bindL kindOf (P.zip vs) m x=some v|[],_,_,_,_,h,_,_=>by simp at h|_::_,[],_,_,_,_,h,_=>by simp at h|p::P,w::vs,0,m,nd,h1,h2,hk=>by simp at h1 h2;subst h1;subst h2;show bindL kindOf ((p,w)::P.zip vs) m p=_;unfold bindL;rw[sW λv hv=>(yf.mp nd).1 (List.of_mem_zip hv).1,xL hk];simp|p::P,w::vs,i+1,m,nd,h1,h2,hk=>by show bindL kindOf ((p,w)::P.zip vs) m x=_;unfold bindL;exact sY (i:=i) (yf.mp nd).2 (by simpa using h1) (by simpa using h2) hk
theorem sZ{kindOf:ρ->θ NameKind}{x:ρ}{v:ξ} : ∀{P:δ ρ}{vs:δ ξ}{i:π}{m:ρ->θ ξ},P.Nodup->P[i]?=some x->vs[i]?=some v->kindOf x≠some .local->bindC kindOf (P.zip vs) m x=some v|[],_,_,_,_,h,_,_=>by simp at h|_::_,[],_,_,_,_,h,_=>by simp at h|p::P,w::vs,0,m,nd,h1,h2,hk=>by simp at h1 h2;subst h1;subst h2;show bindC kindOf ((p,w)::P.zip vs) m p=_;unfold bindC;rw[sX λv hv=>(yf.mp nd).1 (List.of_mem_zip hv).1,xz hk];simp|p::P,w::vs,i+1,m,nd,h1,h2,hk=>by show bindC kindOf ((p,w)::P.zip vs) m x=_;unfold bindC;exact sZ (i:=i) (yf.mp nd).2 (by simpa using h1) (by simpa using h2) hk
def start(N:δ ρ)(vs:δ V):St:=vs.map some++List.replicate (N.length-vs.length) none
def jB(CX:A8)(P:Ψ)(w:Ω)(K:Φ)(mg:ρ->θ ξ)(base:Γ)(N:δ ρ)(qual:ρ)(scope:Scope)(f:ε)(cd:ξ)(A:ϕ)(outer:δ Env)(s:ζ)(H:Hp)(E:XK):Cx where
 prog:=P
 w:=w
 K:=K
 mg:=mg
 base:=base
 A:=A.deeper<|envOfC qual scope s.heap.objs.size f cd
 N:=N
 cX:=s
 uu:=H
 env:=envOfC qual scope s.heap.objs.size f cd
 outer:=outer
 stack:=envOfC qual scope s.heap.objs.size f cd::outer
 ex:=[]
 calm:=true
 fn:=λ_=>true
 pn:=[]
 xe:=λe s'=>wpAny (model P w) (A.deeper<|envOfC qual scope s.heap.objs.size f cd) (leaving (envOfC qual scope s.heap.objs.size f cd) e) (λ_ A9=>CX outer H s E e A9) (λe' A9=>CX outer H s E e' A9) s'
theorem wM{sc:Scope}{n:π}{x:ρ}(h:sc.names.lookup x=some .cell):∃c,(cellsFrom n sc.names []).lookup x=some c:=by have q:=PySem.W.cellsFrom_some sc.names n []<|.inl h;exact Option.isSome_iff_exists.mp q
theorem ET{CX:A8}{P:Ψ}{w:Ω}{K:Φ}{mg:ρ->θ ξ}{base:Γ}{N ps:δ ρ}{qual:ρ}{scope:Scope}{f:ε}{cd:ξ}{A:ϕ}{outer:δ Env}{s s1:ζ}{H:Hp}{E:XK}{us:δ ξ}{vs:δ V} (S:fI N ps scope) (hd:A.handled=none) (e0:wL P w K mg base A outer s H) (hl:vs.length=ps.length) (r:Vals vs us) (x:InCallC s s.heap.objs.size (bindL (envOfC qual scope s.heap.objs.size f cd).kindOf (ps.zip us) λ_=>none) (cellsFrom (s.heap.objs.size+1) scope.names []) (bindC (envOfC qual scope s.heap.objs.size f cd).kindOf (ps.zip us) λ_=>none) s1): Inv (jB CX P w K mg base N qual scope f cd A outer s H E) [] (start N vs) H s1:=by
 have eJ:ps.length<=N.length:=by have:=congrArg List.length S.pre;rw[yn]at this;lia
 obtain⟨h1,tk,rfl,hk⟩:=x.done;have Ky:∀b:ε,b∉(jB CX P w K mg base N qual scope f cd A outer s H E).ex:=λb z=>absurd (show b∈([]:δ ε) from z) (by simp);refine{{e0.mod,S.kind,rfl,rfl,zm _,λy z c h1 h2=>?_,λy hy=>?_,λy c _ h=>?_,λ_=>hd,Around.frames_deeper e0.frames,.inr ⟨rfl,rfl⟩,λb z=>absurd z<|Ky b,e0.bs,e0.Ke,λb _ _=>Ky b,λb z=>absurd z<|Ky b,e0.ot,e0.Oy},rfl,e0.bare,Un.kept hk,{_,x.toInCall.ns,λi y v h1 h2 h3=>?_},λy c h=>{_,x.cell y c h},e0.aI.fresh<|zm _,λy c h=>?_,λp hp=>absurd (show p∈([]:δ (ε×Obj)) from hp)<|by simp,e0.aI.kept hk,?_};exact name_of_addr x.apart (yu h1)<|yu h2;have hy:scope.names.lookup y=some .cell\/scope.names.lookup y=some .free:=hy;rcases hy with hy|hy;exact wM hy;exact absurd rfl<|S.Pb _<|yu hy;exact yO<|x.above y c<|yu h;have hi:i<vs.length:=by unfold start at h2;by_cases hi:i<vs.length;exact hi;rw[List.getElem?_append_right<|by simpa using hi]at h2;rw[List.getElem?_replicate]at h2;split at h2<;>cases h2
 have ha:vs[i]?=some v:=by unfold start at h2;rw[List.getElem?_append_left<|by simpa using hi,zp]at h2;cases e:vs[i]? with|none=>(rw[e]at h2;cases h2)|some a=>rw[e]at h2;cases h2;rfl
 obtain⟨u,hu,rv⟩:=r.get ha;have hp:ps[i]?=some y:=by rw[<-S.pre,List.getElem?_take_of_lt<|by lia];exact h1
 have ndP:ps.Nodup:=by rw[<-S.pre];exact S.nd.sublist<|List.take_sublist _ _
 refine{u,rv,?_};rcases S.par y (zH hp) with k|k;exact .inl {k,sY ndP hp hu k};obtain⟨c,e⟩:=wM (n:=s.heap.objs.size+1) k;refine .inr {.inl k,c,e,?_};have q:=x.cell y c e;rw[sZ ndP hp hu<|by show scope.names.lookup y≠_;rw[k];decide]at q;exact q;exact e0.aI.fresh<|yO<|x.above y c<|yu h;unfold start;show _=N.length;rw[zA,za,List.length_replicate];lia
theorem M4{CX:A8}{P:Ψ}{w:Ω}{K:Φ}{mg:ρ->θ ξ}{base:Γ}{k:π}{f:ε}{name qual:ρ}{params:Arguments}{body:δ Stmt}{scope:Scope}{dV kV doc pm fJ ct oc:ξ}{an od:θ ε} {Pc:Array<|θ ξ}{N ps:δ ρ}{sp:Sp} (lk:K.lookup f=some {oc,od,.func<|fnOf name qual params body scope dV kV doc pm an fJ ct,Pc}) (rH:codeIn K fJ qual=true) (S:fI N ps scope) (len:∀vs H Q E,sp vs H Q E->vs.length=ps.length) (kQ:∀(A:ϕ)(outer:δ Env)(s:ζ)(H:Hp)(vs:δ V)(Q:VK)(E:XK),bO k (A.deeper<|envOfC qual scope s.heap.objs.size f fJ)->sp vs H Q E->∃t,CY (jB CX P w K mg base N qual scope f fJ A outer s H E) body t/\t {nx:=λ_ H'=>Q .au H',rt:=Q} (start N vs) H): bK P w K mg base CX (k+1) f (fnOf name qual params body scope dV kV doc pm an fJ ct) ps sp:=by
 refine{len,λA outer s H args us vs Q E hr e0 hb r R5=>?_};have hl:=len _ _ _ _ R5;have KX:K.In s.heap:=e0.mod.Td.keeps λb o e=>(e0.bs b o e).1;have lim:s.heap.NoLimit:=e0.mod.nolimit.keeps λb o e=>(e0.bs b o e).1;have T8:∀y∈ps.zip us,scope.names.lookup y.1=some .local\/(scope.names.lookup y.1=some .cell/\((cellsFrom (s.heap.objs.size+1) scope.names []).lookup y.1).isSome=true):=by rintro⟨n,v⟩ hy;rcases S.par n (List.of_mem_zip hy).1 with q|q;exact .inl q;exact .inr {q,PySem.W.cellsFrom_some _ _ _<|.inl q}
 refine codeAny_call_function hr.depth (KX _ _ lk) rfl S.co S.gen rfl (PySem.W.codeRec_of KX rH)<|hb _ _ _ _ ?_;refine wpAny_newFunctionEnv_cells S.kind T8 λenv he s1 x=>?_;subst he;refine{lim.keeps x.toInCall.keep,codeAny_func ?_};obtain⟨t,ht,hq⟩:=kQ A outer s H vs Q E (hr.deeper _) R5;have I:Inv (jB CX P w K mg base N qual scope f fJ A outer s H E) [] (start N vs) H s1:=ET S hr.hd e0 hl r x;refine yM (ht [] s1 (start N vs) H _ I hq) (λfl s' hs=>?_) λe s' hs=>hs;have fin:∀{ax:St}{H':Hp}{v:V}{u:ξ},Inv (jB CX P w K mg base N qual scope f fJ A outer s H E) [] ax H' s'->RelV v u->Q v H'->CE outer P w H s Q u s':=λ{ax H' v u} J rv q=>⟨v,H',J.os,J.bare,J.base,J.aI,rv,q⟩;cases fl with|ret u=>(obtain⟨v,ax,H',J,rv,q⟩:=hs;exact fin J rv q)|next=>(obtain⟨ax,H',J,q⟩:=hs;exact fin (v:=V.au) (u:=Value.none) J rfl q)|brk=>(obtain⟨_,_,_,q⟩:=hs;exact False.elim q)|cont=>obtain⟨_,_,_,q⟩:=hs;exact False.elim q
section
variable{X:Cx}{x:ρ}{p pos:Pos}{e:Δ}{es:δ Δ}{t:TA}{id T:String}{r:δ V->Hp->VK->η}
def Yz(r:δ V->Hp->VK->η)(t:TA):TE:=λσ H Q=>t σ H λvs H1=>r vs H1 Q
theorem wN(hc:eI X (.builtin id) r)(hg:Gl X x)(hm:X.mg x=none)(hv:bootBuiltins x=some (.builtin id))(ha:PA X (e::es) t)(hn:ψ (x≠"__name__") qQZ)(rR:ψ ((x==("__debug__": ρ))=false) qQZ) (he:ψ (starEach (e::es) X.env=(false,eval e X.env)::starEach es X.env) qQJ) (eJ:ψ ((backTo pos<|starEach es X.env).any (·.1)=false) qQJ):PE X (.Call (.Name x p) (e::es) [] pos) (Yz r t):=by intro pins s σ H Q I h;refine wpAny_Call_Name_kw<|fU I hg hm hv ?_ hn rR;exact PyProof.Rows.callWith_builtin1 (bj (ha pos pins s σ H _ I h) <| by rintro us s1 ⟨vs,H1,I1,r1,q1⟩;exact hc pins s1 σ H1 vs us Q I1 r1 q1) he eJ
theorem s9(hc:eI X (.type T) r)(hg:Gl X x)(hm:X.mg x=none)(hv:bootBuiltins x=some (.type T))(ha:PA X (e::es) t)(hn:ψ (x≠"__name__") qQZ)(rR:ψ ((x==("__debug__": ρ))=false) qQZ) (he:ψ (starEach (e::es) X.env=(false,eval e X.env)::starEach es X.env) qQJ) (eJ:ψ ((backTo pos<|starEach es X.env).any (·.1)=false) qQJ):PE X (.Call (.Name x p) (e::es) [] pos) (Yz r t):=by intro pins s σ H Q I h;refine wpAny_Call_Name_kw<|fU I hg hm hv ?_ hn rR;exact PyProof.Rows.callWith_type1 (bj (ha pos pins s σ H _ I h) <| by rintro us s1 ⟨vs,H1,I1,r1,q1⟩;exact hc pins s1 σ H1 vs us Q I1 r1 q1) he eJ
end
end L2
namespace HT
open PySem PyProof.Rows
section
noncomputable def sIx(n d:π):θ ν->π|none=>d|some v=>if v<0 then (v+(n:ν)).toNat else min v.toNat n
theorem sIx_none(n d:π):sIx n d none=d:=rfl
theorem sIx_nat(n d k:π):sIx n d (some (k:ν))=min k n:=by show(if (k:ν)<0 then ((k:ν)+(n:ν)).toNat else min (k:ν).toNat n)=min k n;rw[xz<|by lia,Int.toNat_natCast]
end
end HT
namespace L2
open PySem PySem.Spec PyProof.Rows
abbrev TO:=St->Hp->(θ ν->Hp->η)->η
def PO(X:Cx)(e:θ Δ)(t:TO):Prop:=∀(pins:δ (ε×Obj))(s:ζ)(σ:St)(H:Hp)(Q:θ ν->Hp->η),Inv X pins σ H s->t σ H Q->wpAny (model X.prog X.w) X.A (evalPart e X.env) (λu s'=>∃o H',Inv X pins σ H' s'/\IsPart u o/\Q o H') X.xe s
def Kz:TO:=λ_ H Q=>Q none H
def T9(t:TE):TO:=λσ H Q=>t σ H λx H1=>∃i,x=.int i/\Q (some i) H1
section
variable{X:Cx}{e:Δ}{te:TE}{lo hi:θ Δ}{tl th:TO}{pos p2:Pos}
theorem KA:PO X none Kz:=by intro pins s σ H Q I h;rw[evalPart_none];exact zo {none,H,I,.none,h}
theorem KC(h:PE X e te):PO X (some e) (T9 te):=by intro pins s σ H Q I hw;rw[evalPart_some];refine bj (h pins s σ H _ I hw) λu s1 ⟨x,H1,I1,r1,q1⟩=>?_;obtain⟨i,rfl,q⟩:=q1;obtain⟨t,rfl⟩:=r1;exact{some i,H1,I1,.int i t,q}
def T_(X:Cx)(r:V->θ ν->θ ν->Hp->VK->η):Prop:=∀(pins:δ (ε×Obj))(s:ζ)(σ:St)(H:Hp)(x:V)(v vl vu:ξ)(lo hi:θ ν)(sl:ε)(Q:VK),Inv X pins σ H s->RelV x v->s.heap.IsSliceOf sl vl vu .none->IsPart vl lo->IsPart vu hi->r x lo hi H Q->∃T id,typeLookup (.type T) "__getitem__"= pure (some<|.builtin id)/\s.TypeIs v T/\wpAny (model X.prog X.w) X.A (getItem v<|.ref sl) (EP X pins σ Q) X.xe s
def tSl(r:V->θ ν->θ ν->Hp->VK->η)(te:TE)(tl th:TO):TE:=λσ H Q=>te σ H λx H1=>tl σ H1 λl H2=>th σ H2 λu H3=>r x l u H3 Q
theorem wO{r:V->θ ν->θ ν->Hp->VK->η}(hr:T_ X r)(he:PE X e te)(hl:PO X lo tl)(hu:PO X hi th):PE X (.Subscript e (.Slice lo hi none p2) pos) (tSl r te tl th):=by intro pins s σ H Q I h;refine Subscript_<|bj (he pins s σ H _ I h) λv s1 ⟨x,H1,I1,r1,q1⟩=>?_;refine wpAny_Slice<|bj (hl pins s1 σ H1 _ I1 q1) λvl s2 ⟨l,H2,I2,pl,q2⟩=>bj (hu pins s2 σ H2 _ I2 q2) λvu s3 ⟨u,H3,I3,pu,q3⟩=>?_;rw[evalPart_none];refine zo ?_;have I4:Inv X pins σ H3 {s3 with heap:=s3.heap.push {cls:=.type "slice",data:=.fields #[vl,vu,.none]}}:=I3.kept (t':=s3.toks) λb ob q=>zb _ q;obtain⟨T,id,hT,ht,hg⟩:=hr pins {s3 with heap:=s3.heap.push {cls:=.type "slice",data:=.fields #[vl,vu,.none]}} σ H3 x v vl vu l u s3.heap.objs.size Q I4 r1 (Heap.IsSliceOf.new ..) pl pu q3;show wpAny (model X.prog X.w) X.A (subscriptTail e (.Slice lo hi none p2) v<|.ref s3.heap.objs.size) (EP X pins σ Q) X.xe {s3 with heap:=s3.heap.push {cls:=.type "slice",data:=.fields #[vl,vu,.none]}};exact tail_any (ops:=[.ref s3.heap.objs.size,v]) ht hT hg<|by with_unfolding_all rfl
noncomputable def EU(xs:δ V)(lo hi:θ ν):δ V:=(xs.drop<|HT.sIx xs.length 0 lo).take<|HT.sIx xs.length xs.length hi-HT.sIx xs.length 0 lo
theorem wQ(xs:δ V)(lo hi:θ ν):(EU xs lo hi).length<=xs.length:=by unfold EU;rw[yn,List.length_drop];lia
end
noncomputable def G4(n:π)(i:ν):θ Nat:=if 0<=i then (if i<n then some i.toNat else none) else if -(n:ν)<=i then some (i+n).toNat else none
noncomputable def iK{α:Type}(xs:δ α)(i:ν):θ α:=(G4 xs.length i).bind λj=>xs[j]?
theorem C9(h:G4 n i=some j):seqIndex? i n=some j/\j<n/\-(n:ν)<=i/\i<n:=by unfold G4 at h;by_cases h0:0<=i;rw[xL h0]at h;by_cases h1:i<n;rw[xL h1]at h;have e:i.toNat=j:=zS h;exact{by rw[seqIndex_of h0 h1,e],by lia,by lia,h1};rw[xz h1]at h;cases h;rw[xz h0]at h;by_cases h1:-(n:ν)<=i;rw[xL h1]at h;have e:(i+n).toNat=j:=zS h;exact{by rw[seqIndex_neg (by lia) h1,e],by lia,h1,by lia};rw[xz h1]at h;cases h
theorem ux(h:iK xs i=some v):∃j,seqIndex? i xs.length=some j/\xs[j]?=some v/\j<xs.length/\-(xs.length:ν)<=i/\i<xs.length:=by unfold iK at h;cases e:G4 xs.length i with|none=>(rw[e]at h;cases h)|some j=>rw[e]at h;obtain⟨h1,h2,h3,h4⟩:=C9 e;exact⟨j,h1,h,h2,h3,h4⟩
theorem bE{α:Type}{xs:δ α}{j:π}{v:α}(h:xs[j]?=some v):iK xs (j:ν)=some v:=by
 have hj:j<xs.length:=(ze.mp h).1;have e:G4 xs.length (j:ν)=some j:=by unfold G4;rw[xL<|by lia,xL<|by lia];simp
 unfold iK;rw[e];exact h
def C_(b:Δ):Prop:=∀o i,subscripted b false o i=operate [o,i] (getItem o i)
def Ua(X:Cx)(r:R2):Prop:=∀(value slice:Δ)(pins:δ (ε×Obj))(s:ζ)(σ:St)(H:Hp)(x y:V)(v u:ξ)(Q:VK),Inv X pins σ H s->RelV x v->RelV y u->r x y H Q->subscripted slice false v u=operate [v,u] (getItem v u)->wpAny (model X.prog X.w) X.A (subscriptTail value slice v u) (EP X pins σ Q) X.xe s
def R6(X:Cx)(id:String)(r:V->δ V->Hp->VK->η):Prop:=∀(pins:δ (ε×Obj))(s:ζ)(σ:St)(H:Hp)(x:V)(xs:δ V)(v:ξ)(us:δ ξ)(Q:VK),Inv X pins σ H s->RelV x v->Vals xs us->r x xs H Q->wpAny (model X.prog X.w) X.A (call (.builtin id)<|v::us) (EP X pins σ Q) X.xe s
section
variable{X:Cx}{a b:Δ}{ta tb:TE}{pos:Pos}
theorem Ub(hr:Ua X r)(ha:PE X a ta)(hb:PE X b tb)(hs:C_ b):PE X (.Subscript a b pos) (R4 r ta tb):=by intro pins s σ H Q I h;exact Subscript_<|OY ha hb I h λv u s2 x y H2 I2 rx ry q=>hr a b pins s2 σ H2 x y v u Q I2 rx ry q<|hs _ _
def YA(K:Φ):R2:=λx y H Q=>∃p xs i v,x=.ref p/\y=.int i/\iu K H p xs/\iK xs i=some v/\Q v H
def YB(K:Φ):R2:=λx y H Q=>∃p xs i v,x=.ref p/\y=.int i/\hW K H p xs/\iK xs i=some v/\Q v H
def YC:R2:=λx y H Q=>∃z i c,x=.str z/\y=.int i/\z.length<=sizeLine/\iK z.cps.toList i=some c/\Q (.str ⟨#[c]⟩) H
theorem Dc:Ua X (YA X.K):=by
 intro value slice pins s σ H x y v u Q I rx ry h hs;obtain⟨p,xs,i,z,rfl,rfl,hq,he,q⟩:=h;cases rx;obtain⟨t,rfl⟩:=ry;obtain⟨ar,r,pl,hz⟩:=I.list hq;obtain⟨j,h1,h2,h3,h4,h5⟩:=ux he;obtain⟨w,ew,ou⟩:=r.get h2;have hl:=r.length;have hn:=pP;have fin:EP X pins σ Q w s:=⟨z,H,I,ou,q⟩;by_cases h0:0<=i;have hj:i.toNat=j:=by rw[seqIndex_of h0 h5]at h1;exact zS h1
 exact item_listR pl.isList h0 (by lia) (by rw[hj];simpa using ew) fin hs;have hj:(i+(ar.toArray.size:ν)).toNat=j:=by rw[seqIndex_neg (by lia) h4]at h1;rw[zr,<-hl];exact zS h1
 exact subscriptTail_builtinR (x:=w) pl.isList.typeIs slot_list_getitem.lookup (wpAny_getItem_list_neg (Q:=λr s'=>r=w/\EP X pins σ Q r s') pl.isList (by lia) (by rw[zr]<;>lia) (by lia) (by rw[hj];simpa using ew) ⟨rfl,fin⟩) hs
theorem G5:Ua X (YB X.K):=by intro value slice pins s σ H x y v u Q I rx ry h hs;obtain⟨p,xs,i,z,rfl,rfl,hq,he,q⟩:=h;cases rx;obtain⟨t,rfl⟩:=ry;obtain⟨ar,r,pl,hz⟩:=I.tuple hq;obtain⟨j,h1,h2,h3,h4,h5⟩:=ux he;obtain⟨w,ew,ou⟩:=r.get h2;have hl:=r.length;have hn:=pP;have fin:EP X pins σ Q w s:=⟨z,H,I,ou,q⟩;exact subscriptTail_builtinR (x:=w) pl.typeIs slot_tuple_getitem.lookup (getItem_tuple (j:=j) (Q:=λr s'=>r=w/\EP X pins σ Q r s') pl (by lia) (by lia) (by rw[zr,<-hl];exact h1) (by simpa using ew) ⟨rfl,fin⟩) hs
theorem Pd:Ua X YC:=by
 intro value slice pins s σ H x y v u Q I rx ry h hs;obtain⟨z,i,c,rfl,rfl,hz,he,q⟩:=h;obtain⟨t,rfl⟩:=rx;obtain⟨t',rfl⟩:=ry;obtain⟨j,h1,h2,h3,h4,h5⟩:=ux he;have hl:z.cps.toList.length=z.length:=by simp[Str.length]
 rw[hl]at h1 h4 h5;have hn:=pP;exact tail_any (typeIs_str s z t) slot_str_getitem.lookup (getItem_str (c:=c) (by have e1:ω (i < -(2^63:ν))=false:=zy (by lia);have e2:ω (i>=2^63)=false:=zy (by lia);rw[e1,e2,Bool.or_false]) (by rw[h1];simpa using h2) {.str ⟨#[c]⟩,H,I.tok _,{_,rfl},q}) hs
theorem A_(ar:δ ξ)(n j:π)(u:ξ):Obj.mapSeq (·.setIfInBounds j u) {cls:=.type "list",data:=.seq ar.toArray n}={cls:=.type "list",data:=.seq (ar.set j u).toArray n}:=by simp[Obj.mapSeq]
theorem Inv.lst(I:Inv X pins σ H s)(h:H p=some (.lst xs)): ∃(ar:δ ξ)(n:π),Vals xs ar/\s.heap.get? p=some {cls:=.type "list",data:=.seq ar.toArray n}/\xs.length<=sizeLine:=by obtain⟨z,ar,n,r,e⟩:=I.aI p _ h;exact⟨ar,n,r,e,z⟩
theorem Inv.Pe{pins:δ<|ε×Obj}{σ:St}{H:Hp}{s:ζ}{p:ε}{xs ys:δ V}{ar its':δ ξ}{n n':π}{f:Obj->Obj}(I:Inv X pins σ H s)(h:H p=some (.lst xs)) (ho:s.heap.get? p=some {cls:=.type "list",data:=.seq ar.toArray n}) (hf:f {cls:=.type "list",data:=.seq ar.toArray n}={cls:=.type "list",data:=.seq its'.toArray n'}) (r:Vals ys its') (hz:ys.length<=sizeLine) (t:π): Inv X pins σ (upd H p<|.lst ys) {s with heap:=s.heap.update p f,toks:=t}:=by
 have e:(s.heap.update p f).get? p=some {cls:=.type "list",data:=.seq its'.toArray n'}:=by rw[yz f ho<|by rw[hf]<;>rfl,hf]
 refine I.write (x:=p) (e:=p) (by rw[h];trivial) (.inl rfl) (λb u hb q=>(yB _ _<|Ne.symm hb).trans q) {_,e} ?_;exact⟨hz,its',n',r,e⟩
def Uc:V->V->V->Hp->(Hp->η)->Prop:=λo i v H Q=>∃p xs k j,o=.ref p/\i=.int k/\H p=some (.lst xs)/\G4 xs.length k=some j/\Q (upd H p<|.lst<|xs.set j v)
theorem set_list:TC X Uc:=by
 intro pins s σ H o i v ov iv u Q I ro ri rv h;obtain⟨p,xs,k,j,rfl,rfl,hp,hj,q⟩:=h;cases ro;obtain⟨t,rfl⟩:=ri;obtain⟨ar,n,r,ho,hz⟩:=I.lst hp;obtain⟨h1,h2,h3,h4⟩:=C9 hj;have hl:=r.length;have hn:=pP;have I':Inv X pins σ (upd H p<|.lst<|xs.set j v) {s with heap:=s.heap.update p (Obj.mapSeq (·.setIfInBounds j u))}:=I.Pe hp ho (A_ ar n j u) (r.set rv j) (by rw[List.length_set];exact hz) s.toks;by_cases h0:0<=k;have hk:k.toNat=j:=by rw[seqIndex_of h0 h4]at h1;exact zS h1
 exact PySem.W.ki_setAt ho h0 (by lia) (by rw[zr,<-hl];exact h4) (by rw[hk];exact{_,I',q});have hk:(k+(ar.toArray.size:ν)).toNat=j:=by rw[seqIndex_neg (by lia) h3]at h1;rw[zr,<-hl];exact zS h1
 exact PySem.W.ki_setBack ho (by lia) (by rw[zr,<-hl];exact h3) (by lia)<|by rw[hk];exact{_,I',q}
theorem uy(lo hi:θ ν)(n:π):(sliceBounds lo hi none n).1=((HT.sIx n 0 lo:π):ν)/\(sliceBounds lo hi none n).2.1=((HT.sIx n n hi:π):ν)/\(sliceBounds lo hi none n).2.2=1:=by
 refine{?_,?_,rfl};cases lo with|none=>simp[sliceBounds,HT.sIx]|some i=>simp only[sliceBounds,HT.sIx,Option.getD_none,show(1:ν)>0 by decide,if_true];by_cases h:i<0;simp only[h,if_true]<;>lia;simp only[h,if_false]<;>lia
 cases hi with|none=>simp[sliceBounds,HT.sIx]|some i=>simp only[sliceBounds,HT.sIx,Option.getD_none,show(1:ν)>0 by decide,if_true];by_cases h:i<0;simp only[h,if_true]<;>lia;simp only[h,if_false]<;>lia
theorem rS(ar:δ ξ)(lo hi:θ ν):slicePick ar.toArray lo hi none=((ar.drop<|HT.sIx ar.length 0 lo).take<|HT.sIx ar.length ar.length hi-HT.sIx ar.length 0 lo).toArray:=by obtain⟨h1,h2,h3⟩:=uy lo hi ar.toArray.size;unfold slicePick;rw[h1,h2,h3];simp only[sliceRange_one,pick_run,zr]<;>rfl
def YD(K:Φ):V->θ ν->θ ν->Hp->VK->Prop:=λx lo hi H Q=>∃a xs,x=.ref a/\iu K H a xs/\∀p,H p=none->Q (.ref p) (upd H p<|.lst<|EU xs lo hi)
theorem Dd:T_ X (YD X.K):=by intro pins s σ H x v vl vu lo hi sl Q I rx hs pl pu h;obtain⟨a,xs,rfl,hx,q⟩:=h;cases rx;obtain⟨ar,r,ht,hz⟩:=I.list hx;have hlen:=r.length;refine{"list",_,slot_list_getitem.lookup,ht.isList.typeIs,?_};refine wpAny_getItem_list_slice ht.isList hs pl pu .none (by simp) ?_ (by rw[zr]<;>lia);rw[rS,<-hlen];refine{.ref s.heap.objs.size,_,I.laid (t':=s.toks) (o:=.lst<|EU xs lo hi) (λb ob q=>zb _ q) (zm _) ?_,rfl,q _<|I.aI.fresh<|zm _};exact{zG (wQ xs lo hi) hz,_,0,(r.drop<|HT.sIx xs.length 0 lo).take<|HT.sIx xs.length xs.length hi-HT.sIx xs.length 0 lo,zi _ rfl}
noncomputable def gk:V->χ|.au=>true|.bl _=>true|.int _=>true|.str _=>true|_=>false
noncomputable def eqV:V->V->χ|.au,.au=>true|.bl a,.bl b=>a==b|.bl a,.int b=>((if a then 1 else 0)==b)|.int a,.bl b=>(a==(if b then 1 else 0))|.int a,.int b=>a==b|.str a,.str b=>a==b|_,_=>false
theorem Pf(ry:RelV y u)(rx:RelV x v)(fy:gk y=true)(fx:gk x=true):SeqAt.EqAt A s u v (eqV y x):=by cases y with|au=>(cases ry;cases x with|au=>(cases rx;exact SeqAt.EqAt.same _)|bl b=>(cases rx;exact SeqAt.EqAt.none_bool b)|int b=>(obtain⟨t,rfl⟩:=rx;exact SeqAt.EqAt.none_int b t)|str b=>(obtain⟨t,rfl⟩:=rx;exact SeqAt.EqAt.none_str b t)|_=>exact absurd (show false=true from fx) zd)|bl a=>(cases ry;cases x with|au=>(cases rx;exact SeqAt.EqAt.bool_none a)|bl b=>(cases rx;exact SeqAt.EqAt.bool_bool a b)|int b=>(obtain⟨t,rfl⟩:=rx;exact SeqAt.EqAt.bool_int a b t)|str b=>(obtain⟨t,rfl⟩:=rx;exact SeqAt.EqAt.bool_str a b t)|_=>exact absurd (show false=true from fx) zd)|int a=>(obtain⟨t',rfl⟩:=ry;cases x with|au=>(cases rx;exact SeqAt.EqAt.int_none a t')|bl b=>(cases rx;exact SeqAt.EqAt.int_bool a t' b)|int b=>(obtain⟨t,rfl⟩:=rx;exact SeqAt.EqAt.int_int a t' b t)|str b=>(obtain⟨t,rfl⟩:=rx;exact SeqAt.EqAt.int_str a t' b t)|_=>exact absurd (show false=true from fx) zd)|str a=>(obtain⟨t',rfl⟩:=ry;cases x with|au=>(cases rx;exact SeqAt.EqAt.str_none a t')|bl b=>(cases rx;exact SeqAt.EqAt.str_bool a t' b)|int b=>(obtain⟨t,rfl⟩:=rx;exact SeqAt.EqAt.str_int a t' b t)|str b=>(obtain⟨t,rfl⟩:=rx;exact SeqAt.EqAt.str_str a t' b t)|_=>exact absurd (show false=true from fx) zd)|_=>exact absurd (show false=true from fy) zd
noncomputable def G6(x:V)(u:ξ):Bool:=match u with|.none=>eqV .au x|.bool b=>eqV (.bl b) x|.int i _=>eqV (.int i) x|.str z _=>eqV (.str z) x|_=>false
theorem Ba(r:RelV y u)(f:gk y=true):G6 x u=eqV y x:=by cases y with|au=>(cases r;rfl)|bl b=>(cases r;rfl)|int i=>(obtain⟨t,rfl⟩:=r;rfl)|str z=>(obtain⟨t,rfl⟩:=r;rfl)|_=>exact absurd (show false=true from f) zd
theorem uz:∀{xs:δ V}{us:δ ξ},Vals xs us->xs.all gk=true->us.any (G6 x)=xs.any λy=>eqV y x|_,_,.nil,_=>rfl|y::xs,u::us,.cons r t,f=>by rw[List.all_cons,zJ]at f;rw[yP,yP,Ba r f.1,uz t f.2]
theorem kR(rx:RelV x v)(fx:gk x=true):∀{xs:δ V}{us:δ ξ},Vals xs us->xs.all gk=true->∀u∈us,SeqAt.EqAt A s u v (G6 x u)|_,_,.nil,_=>(λu hu=>by cases hu)|y::xs,u::us,.cons r t,f=>λu' hu=>by rw[List.all_cons,zJ]at f;rcases zk.mp hu with rfl|hu;rw[Ba r f.1];exact Pf r rx f.1 fx;exact kR rx fx t f.2 u' hu
noncomputable def Bb(x:V)(xs:δ V):Bool:=xs.any λy=>eqV y x
def rIn(K:Φ)(neg:χ):R2:=λx y H Q=>∃p xs,y=.ref p/\(iu K H p xs\/hW K H p xs)/\gk x=true/\xs.all gk=true/\Q (.bl<|if neg then !Bb x xs else Bb x xs) H
theorem mx:gE X (compareOp .In) (rIn X.K false):=by intro pins s σ H x y v u Q I rx ry h;obtain⟨p,xs,rfl,hq,fx,fs,q⟩:=h;cases ry;rcases hq with hq|hq;obtain⟨ar,r,pl,hz⟩:=I.list hq;refine SeqAt.in_listAt (G6 x) pl.isList (λw hw=>kR rx fx r fs w<|by simpa using hw) {.bl _,H,I,rfl,?_};rw[show ar.toArray.any (G6 x)=ar.any (G6 x) by simp,uz r fs];exact q;obtain⟨ar,r,pl,hz⟩:=I.tuple hq;refine SeqAt.in_tupleAt (G6 x) pl (λw hw=>kR rx fx r fs w<|by simpa using hw) {.bl _,H,I,rfl,?_};rw[show ar.toArray.any (G6 x)=ar.any (G6 x) by simp,uz r fs];exact q
theorem kT:eI X (.type "list") (λxs H Q=>∃p ys,xs=[.ref p]/\(iu X.K H p ys\/hW X.K H p ys)/\∀l,H l=none->Q (.ref l) (upd H l<|.lst ys)):=by intro pins s σ H xs us Q I r h;obtain⟨p,ys,rfl,hq,q⟩:=h;obtain⟨u,rfl,rx⟩:=vals1 r;cases rx;have fin:∀(ar:δ ξ),Vals ys ar->ys.length<=sizeLine->∀(h':Γ) (c':π),(∀b o',s.heap.get? b=some o'->h'.get? b=some o')->h'.get? s.heap.objs.size=some {cls:=.type "list",dict:=none,data:=.seq ar.toArray c',slots:=#[]}->EP X pins σ Q (.ref s.heap.objs.size) {s with heap:=h'}:=λar r' hz h' c' kp e=>{.ref s.heap.objs.size,_,I.laid (t':=s.toks) kp (zm _)<|show aS X.prog X.w _ h' _ (.lst ys) from⟨hz,ar,c',r',e⟩,rfl,q _<|I.aI.fresh<|zm _};rcases hq with hq|hq;obtain⟨ar,r',pl,hz⟩:=I.list hq;have hlen:=r'.length;obtain⟨o,ho,hc,n,hd⟩:=pl.isList;exact call_list_seq p (.inl rfl) ho hc hd (λh' c' kp e=>fin ar r' hz h' c' kp e) (by simp only[zr]<;>lia);obtain⟨ar,r',pl,hz⟩:=I.tuple hq;have hlen:=r'.length;obtain⟨o,ho,hc,n,hd⟩:=pl;exact call_list_seq p (.inr rfl) ho hc hd (λh' c' kp e=>fin ar r' hz h' c' kp e)<|by simp only[zr]<;>lia
theorem jN:eI X (.type "tuple") (λxs H Q=>∃p ys,xs=[.ref p]/\((iu X.K H p ys/\∀l,H l=none->Q (.ref l) (upd H l<|.tup ys))\/(hW X.K H p ys/\Q (.ref p) H))):=by intro pins s σ H xs us Q I r h;obtain⟨p,ys,rfl,h⟩:=h;obtain⟨u,rfl,rx⟩:=vals1 r;cases rx;rcases h with⟨hq,q⟩|⟨hq,q⟩;obtain⟨ar,r',pl,hz⟩:=I.list hq;have hlen:=r'.length;refine call_tuple_list pl.isList (λh' kp=>?_) (by simp only[zr]<;>lia);have I1:Inv X pins σ H {s with heap:=h'}:=I.kept (t':=s.toks) kp;have I2:Inv X pins σ (upd H h'.objs.size<|.tup ys) {s with heap:=h'.push {cls:=.type "tuple",data:=.seq ar.toArray}}:=I1.laid (t':=s.toks) (λb o e=>zb _ e) (zm _)<|show aS X.prog X.w _ _ _ (.tup ys) from{hz,ar,r',iG.new _ _};exact{.ref h'.objs.size,_,I2,rfl,q _<|I1.aI.fresh<|zm _};obtain⟨ar,r',pl,hz⟩:=I.tuple hq;exact call_tuple_same pl {.ref p,H,I,rfl,q}
def W6(K:Φ)(T:String)(x:V)(H:Hp):Prop:=match x with|.str _=>T ="str"|.int _=>T ="int"|.ref p=>(T ="list"/\∃xs,iu K H p xs)\/(T ="tuple"/\∃o,K.lookup p=some o/\o.cls=.type "tuple"/\o.dict=none)\/(T ="dict"/\((∃kvs,H p=some (.dK kvs))\/∃kvs,H p=some (.dT kvs)))\/(T ="set"/\∃S n,H p=some (.set S n))|_=>False
theorem G7{T:String}(I:Inv X pins σ H s)(r:RelV x v)(ty:W6 X.K T x H): s.TypeIs v T/\∀a,v=.ref a->∃ob,s.heap.get? a=some ob/\ob.dict=none:=by cases x with|str z=>(obtain⟨t,rfl⟩:=r;cases (show T ="str" from ty);exact{typeIs_str s z t,λ_ e=>nomatch e})|int i=>(obtain⟨t,rfl⟩:=r;cases (show T ="int" from ty);exact{typeIs_int s i t,λ_ e=>nomatch e})|ref p=>(cases r;rcases ty with⟨rfl,xs,hq⟩|⟨rfl,o,hk,hc,hd⟩|⟨rfl,hk⟩|⟨rfl,S,n,hk⟩;obtain⟨ar,_,pl,_⟩:=I.list hq;refine{pl.isList.typeIs,λa e=>?_};cases e;obtain⟨o,n,e,c,hd,_⟩:=pl;exact⟨o,e,hd⟩;refine{{o,I.nD p o hk,hc},λa e=>?_};cases e;exact{o,I.nD _ o hk,hd};have z:∃o,s.heap.get? p=some o/\o.ExactDict:=(by rcases hk with⟨kvs,hk⟩|⟨kvs,hk⟩;obtain⟨_,_,_,_,o,_,_,e,ex,_⟩:=I.aI p _ hk;exact⟨o,e,ex⟩;exact False.elim<|I.aI p _ hk);obtain⟨o,e,ex⟩:=z;refine{⟨o,e,ex.1⟩,λa e2=>?_};cases e2;exact⟨o,e,ex.2.1⟩;obtain⟨o,_,_,_,e,ex,_⟩:=I.aI p _ hk;refine{⟨o,e,ex.1⟩,λa e2=>?_};cases e2;exact⟨o,e,ex.2.1⟩)|_=>exact False.elim ty
def YE(K:Φ)(T:String)(r:V->δ V->Hp->VK->η)(to:TE):TE:=λσ H Q=>to σ H λx H1=>W6 K T x H1/\r x [] H1 Q
def tBM(K:Φ)(T:String)(r:V->δ V->Hp->VK->η)(to:TE)(t:TA):TE:=λσ H Q=>to σ H λx H1=>W6 K T x H1/\t σ H1 λxs H2=>r x xs H2 Q
variable{o e:Δ}{es:δ Δ}{to:TE}{t:TA}{name:ρ}{apos aP:Pos}{T id:String}{r:V->δ V->Hp->VK->η}
theorem Ph(pa:PlainAttrs T)(slot:Slot T name id)(Pj:typeOf (.builtin id)=pure (.type "method_descriptor"))(hm:R6 X id r)(ho:PE X o to) (pR:ψ (attributeBase o name X.env (eval o X.env)=eval o X.env) qQJ) (pS:ψ ((apos.endLine==aP.line)=true) qQJ):PE X (.Call (.Attribute o name apos) [] [] aP) (YE X.K T r to):=by intro pins s σ H Q I h;refine wpAny_Call_method0_late pR pS<|bj (ho pins s σ H _ I h) λv s1 ⟨x,H1,I1,r1,ty,q1⟩=>?_;obtain⟨h1,h2⟩:=G7 I1 r1 ty;exact{T,id,pa,slot,Pj,h1,h2,Calls.callWith_builtin rfl<|PySem.evalArgs_none<|hm pins s1 σ H1 x [] v [] Q I1 r1 .nil q1}
theorem Ud(pa:PlainAttrs T)(slot:Slot T name id)(Pj:typeOf (.builtin id)=pure (.type "method_descriptor"))(hm:R6 X id r)(ho:PE X o to)(ha:PA X (e::es) t) (pR:ψ (attributeBase o name X.env (eval o X.env)=eval o X.env) qQJ) (Pk:ψ (((backTo aP<|starEach (e::es) X.env).all (λx=>!x.1)&&(backToKw aP<|keywordEach [] X.env).all (λx=>x.1.isSome)&&ω ((e::es).length+([]:δ Keyword).length+(if ([]:δ Keyword).isEmpty then 0 else 1)<30))=true) qQJ) (pS:ψ ((apos.endLine==aP.line)=true) qQJ) (hs:ψ (starEach (e::es) X.env=(false,eval e X.env)::starEach es X.env) qQJ) (Bc:ψ ((backTo aP<|starEach es X.env).any (·.1)=false) qQJ): PE X (.Call (.Attribute o name apos) (e::es) [] aP) (tBM X.K T r to t):=by intro pins s σ H Q I h;refine wpAny_Call_method_late pR Pk pS rfl<|bj (ho pins s σ H _ I h) λv s1 ⟨x,H1,I1,r1,ty,q1⟩=>?_;obtain⟨h1,h2⟩:=G7 I1 r1 ty;refine{T,id,pa,slot,Pj,h1,h2,?_};have hA:=ha aP pins s1 σ H1 _ I1 q1;rw[hs]at hA⊢;refine Calls.callWith_builtin (by show(false||(backTo aP<|starEach es X.env).any (·.1))=false;rw[Bc]<;>rfl)<|Calls.evalArgs_plain ?_;exact bj hA <| by rintro us s2 ⟨vs,H2,I2,r2,q2⟩;exact hm pins s2 σ H2 x vs v us Q I2 r1 r2 q2
end
def W7(X:Cx)(id:String)(r:V->δ V->Hp->VK->η):Prop:=∀(pins:δ (ε×Obj))(s:ζ)(σ:St)(H:Hp)(x:V)(xs:δ V)(v:ξ)(us:δ ξ)(Q:VK),Inv X pins σ H s->RelV x v->Vals xs us->r x xs H Q->wpAny (model X.prog X.w) X.A (call (.builtin id)<|v::us) (EP X pins σ Q) X.xe s
theorem Vals.one:∀{x:V}{us:δ ξ},Vals [x] us->∃u,us=[u]/\RelV x u:=by intro x us h;cases h with|cons r t=>cases t;exact{_,rfl,r}
theorem Vals.two:∀{x y:V}{us:δ ξ},Vals [x,y] us->∃u v,us=[u,v]/\RelV x u/\RelV y v:=by intro x y us h;cases h with|cons r t=>obtain⟨_,rfl,q⟩:=Vals.one t;exact{_,_,rfl,r,q}
theorem Vals.zero:∀{us:δ ξ},Vals [] us->us=[]|_,.nil=>rfl
theorem Vals.dropLast{xs:δ V}{us:δ ξ}(h:Vals xs us):Vals xs.dropLast us.dropLast:=by induction h with|nil=>exact .nil|cons r t ih=>cases t with|nil=>exact .nil|cons q t'=>exact .cons r ih
theorem Vals.eraseIdx:∀{xs:δ V}{us:δ ξ}(i:π),Vals xs us->Vals (xs.eraseIdx i) (us.eraseIdx i)|_,_,_,.nil=>.nil|_,_,0,.cons _ t=>t|_,_,i+1,.cons r t=>.cons r<|Vals.eraseIdx i t
theorem Be{α:Type}(l:δ α):l.eraseIdx (l.length-1)=l.dropLast:=by induction l with|nil=>rfl|cons a r ih=>cases r with|nil=>rfl|cons b r=>have e:(a::b::r).length-1=((b::r).length-1)+1:=(by have h1:(a::b::r).length=r.length+2:=rfl;have h2:(b::r).length=r.length+1:=rfl;lia);rw[e,List.eraseIdx_cons_succ,ih];all_goals rfl
theorem s_{α:Type} : ∀(l:δ α)(i:π),(l.eraseIdx i).length<=l.length|[],_=>zm _|_::_,0=>y4 _|_::r,i+1=>Nat.succ_le_succ<|s_ r i
section
variable{X:Cx}{pins:δ (ε×Obj)}{σ:St}{H:Hp}{s:ζ}{l:ε}{xs ys:δ V}
theorem Inv.KG{ar its':δ ξ}{n:π}{f:Array ξ->Array ξ}{t':π}(I:Inv X pins σ H s)(hH:H l=some (.lst xs)) (e:s.heap.get? l=some {cls:=.type "list",data:=.seq ar.toArray n}) (hf:f ar.toArray=its'.toArray) (hv:Vals ys its') (hz:ys.length<=sizeLine): Inv X pins σ (upd H l<|.lst ys) {s with heap:=s.heap.update l<|Obj.mapSeq f,toks:=t'}:=by have q:=PySem.IsL.update e f;rw[hf]at q;refine I.write (x:=l) (e:=l) (by rw[hH];exact trivial) (.inl rfl) (λb' u hb hu=>(yB s.heap (Obj.mapSeq f)<|Ne.symm hb).trans hu) {_,q} ?_;exact{hz,its',_,hv,q}
theorem Inv.YF(I:Inv X pins σ H s)(hv:Vals ys ar)(hz:ys.length<=sizeLine): Inv X pins σ (upd H s.heap.objs.size<|.lst ys) {s with heap:=s.heap.push {cls:=.type "list",data:=.seq ar.toArray},toks:=t'}:=I.laid (λ_ _ q=>zb _ q) (zm _) {hz,ar,0,hv,zi _ rfl}
theorem Inv.fresh(I:Inv X pins σ H s):H s.heap.objs.size=none:=I.aI.fresh<|zm _
theorem Inv.EV(I:Inv X pins σ H s)(hH:H l=some (.lst xs)):xs.length<=sizeLine/\∃(ar:δ ξ)(n:π),Vals xs ar/\xs.length=ar.length/\s.heap.get? l=some {cls:=.type "list",data:=.seq ar.toArray n}:=by obtain⟨z,ar,n,r,e⟩:=I.aI l _ hH;exact⟨z,ar,n,r,r.length,e⟩
theorem G8{n:π}(h:n<=sizeLine):Builtin.List.listTooLong n=false:=by unfold Builtin.List.listTooLong;exact zy<|by lia
end
section
variable{X:Cx}
def KH:V->δ V->Hp->VK->Prop:=λx vs H Q=>∃l xs y,x=.ref l/\vs=[y]/\H l=some (.lst xs)/\xs.length<sizeLine/\Q .au (upd H l<|.lst<|xs++[y])
theorem EW:W7 X "list.append" KH:=by intro pins s σ H x vs v us Q I rx rv h;obtain⟨l,xs,y,rfl,rfl,hH,hz,q⟩:=h;cases rx;obtain⟨u,rfl,ru⟩:=rv.one;obtain⟨z,ar,n,r,hl,e⟩:=I.EV hH;refine call_meets F.slot_list_append {_,e,rfl} F.entry_list_append (F.args_list_append_2 _ _) (PySem.list_append l ar.toArray n u<|by rw[zr];lia) {e,?_};refine{.au,_,I.KG (its':=ar++[u]) hH e (by simp) (r.append<|.cons ru .nil) ?_,rfl,q};rw[zA,List.length_singleton];lia
def YG:V->δ V->Hp->VK->Prop:=λx vs H Q=>∃l xs y,x=.ref l/\vs=[]/\H l=some (.lst xs)/\xs[xs.length-1]?=some y/\Q y (upd H l<|.lst xs.dropLast)
theorem Pl:W7 X "list.pop" YG:=by
 intro pins s σ H x vs v us Q I rx rv h;obtain⟨l,xs,y,rfl,rfl,hH,hy,q⟩:=h;cases rx;have hus:=rv.zero;subst hus;obtain⟨z,ar,n,r,hl,e⟩:=I.EV hH;obtain⟨u,hu,ru⟩:=r.get hy;have Pm:ar.toArray[ar.toArray.size-1]?=some u:=by show ar.toArray[ar.length-1]?=some u;rw[<-yr,<-hl];exact hu
 refine call_meets F.slot_list_pop {_,e,rfl} F.entry_list_pop (F.args_list_pop_1 _) (MeetsSeq.list_pop_last l ar.toArray n u Pm<|by rw[zr];lia) {e,?_};refine{y,_,I.KG (its':=ar.dropLast) hH e ?_ r.dropLast ?_,ru,q};show ar.toArray.eraseIdxIfInBounds (ar.toArray.size-1)=ar.dropLast.toArray;rw[zr,List.eraseIdxIfInBounds_toArray,Be];rw[List.length_dropLast];lia
def Pn:V->δ V->Hp->VK->Prop:=λx vs H Q=>∃l xs i k y,x=.ref l/\vs=[.int i]/\H l=some (.lst xs)/\-(2^63)<=i/\i<2^63/\seqIndex? i xs.length=some k/\xs[k]?=some y/\Q y (upd H l<|.lst<|xs.eraseIdx k)
theorem G9:W7 X "list.pop" Pn:=by intro pins s σ H x vs v us Q I rx rv h;obtain⟨l,xs,i,k,y,rfl,rfl,hH,h1,h2,hk,hy,q⟩:=h;cases rx;obtain⟨u,rfl,ru⟩:=rv.one;obtain⟨t,rfl⟩:=ru;obtain⟨z,ar,n,r,hl,e⟩:=I.EV hH;obtain⟨w,hw,ou⟩:=r.get hy;refine call_meets F.slot_list_pop {_,e,rfl} F.entry_list_pop (F.args_list_pop_2 _ _) (MeetsSeq.list_pop_at l ar.toArray n i t k w (fitsIndex_both h1 h2) (by rw[zr,<-hl];exact hk) (by rw[<-yr];exact hw)<|by rw[zr];lia) {e,?_};refine{y,_,I.KG (its':=ar.eraseIdx k) hH e ?_ (r.eraseIdx k) ?_,ou,q};show ar.toArray.eraseIdxIfInBounds k=(ar.eraseIdx k).toArray;rw[List.eraseIdxIfInBounds_toArray];have:=s_ xs k;lia
def YH:R2:=λx y H Q=>∃l b xs zs,x=.ref l/\y=.ref b/\H l=some (.lst xs)/\H b=some (.lst zs)/\xs.length+zs.length<=sizeLine/\∀p,H p=none->Q (.ref p) (upd H p<|.lst<|xs++zs)
theorem Po:gE X (binaryOp .Add) YH:=by
 intro pins s σ H x y v u Q I rx ry h;obtain⟨l,b,xs,zs,rfl,rfl,hH,hB,hz,q⟩:=h;cases rx;cases ry;obtain⟨z,ar,n,r,hl,e⟩:=I.EV hH;obtain⟨z2,uA,n2,r2,KJ,e2⟩:=I.EV hB;refine PySem.P.add_list e e2 ?_ (by rw[zr,zr];lia);have ea:ar.toArray++uA.toArray=(ar++uA).toArray:=by simp
 rw[ea];exact{.ref _,_,I.YF (t':=s.toks) (r.append r2)<|by rw[zA];lia,rfl,q _ I.fresh}
end
section
variable{κ:Type}[DecidableEq κ]
noncomputable def fE(kvs:δ<|κ×V)(k:κ):θ V:=(kvs.find? λkv=>ω<|kv.1=k).map (·.2)
noncomputable def putK(kvs:δ<|κ×V)(k:κ)(v:V):δ (κ×V):=if (kvs.any λkv=>ω<|kv.1=k)=true then kvs.map (λkv=>if kv.1=k then (kv.1,v) else kv) else kvs++[(k,v)]
noncomputable def nG(kvs:δ<|κ×V)(k:κ):δ (κ×V):=kvs.filter λkv=>ω<|kv.1≠k
theorem pT{p:κ×V}{r:δ<|κ×V}{k:κ}(e:p.1=k):fE (p::r) k=some p.2:=by simp[fE,yd,e]
theorem pU{p:κ×V}{r:δ<|κ×V}{k:κ}(e:¬p.1=k):fE (p::r) k=fE r k:=by simp[fE,yd,e]
theorem nH(kvs:δ<|κ×V)(k:κ)(v:V):(putK kvs k v).length<=kvs.length+1:=by unfold putK;split;rw[za];lia;rw[zA,zO,List.length_nil];lia
theorem fB.my(r:fB o u):o.isSome=u.isSome:=by cases o with|none=>(cases u with|none=>rfl|some _=>exact(show False from r).elim)|some _=>cases u with|none=>exact(show False from r).elim|some _=>rfl
theorem fB.getD{o:θ V}{u:θ ξ}{d:V}{d':ξ}(r:fB o u)(rd:RelV d d'):RelV (o.getD d) (u.getD d'):=by cases o with|none=>(cases u with|none=>exact rd|some _=>exact(show False from r).elim)|some _=>cases u with|none=>exact(show False from r).elim|some _=>exact r
theorem KV.val{kvs:δ<|κ×V}{vs:δ<|κ×ξ}(r:KV kvs vs)(k:κ):fB (fE kvs k) (valueAt vs k):=by unfold KV at r;induction r with|nil=>exact True.intro|@cons p q ps qs h t ih=>obtain⟨h1,h2⟩:=h;by_cases e:p.1=k;have e':q.1=k:=h1.symm.trans e;have b:valueAt (q::qs) k=some q.2:=(by simp[valueAt,yd,e']);rw[pT e,b];exact h2;have e':¬q.1=k:=λz=>e<|h1.trans z;have b:valueAt (q::qs) k=valueAt qs k:=(by simp[valueAt,yd,e']);rw[pU e,b];exact ih
theorem KV.any{kvs:δ<|κ×V}{vs:δ<|κ×ξ}(r:KV kvs vs)(k:κ):(kvs.any λkv=>ω<|kv.1=k)=vs.any λkv=>ω (kv.1=k):=by unfold KV at r;induction r with|nil=>rfl|cons h t ih=>rw[yP,yP,ih,h.1]
theorem KV.Pp(r:KV kvs vs)(k:κ)(ry:RelV y u): KV (kvs.map λkv=>if kv.1=k then (kv.1,y) else kv) (vs.map λkv=>if kv.1=k then (kv.1,u) else kv):=by unfold KV at r⊢;induction r with|nil=>exact .nil|@cons p q ps qs h t ih=>rw[zw,zw];refine .cons ?_ ih;obtain⟨h1,h2⟩:=h;by_cases e:p.1=k;rw[xL e,xL<|h1.symm.trans e];exact⟨h1,ry⟩;rw[xz e,xz λz=>e<|h1.trans z];exact⟨h1,h2⟩
theorem KV.put(r:KV kvs vs)(k:κ)(ry:RelV y u):KV (putK kvs k y) (stored vs k u):=by unfold putK stored;rw[r.any k];by_cases e:(vs.any λkv=>ω<|kv.1=k)=true;rw[xL e,xL e];exact r.Pp k ry;rw[xz e,xz e];exact Paired.snoc r ⟨rfl,ry⟩
theorem KV.drop(r:KV kvs vs)(k:κ):KV (nG kvs k) (without vs k):=by unfold KV at r⊢;unfold nG without;induction r with|nil=>exact .nil|@cons p q ps qs h t ih=>obtain⟨h1,h2⟩:=h;rw[List.filter_cons,List.filter_cons];by_cases e:p.1=k;have a:¬ω (p.1≠k)=true:=(by simp[e]);have b:¬ω (q.1≠k)=true:=(by simp[h1.symm.trans e]);rw[xz a,xz b];exact ih;have e':¬q.1=k:=λz=>e<|h1.trans z;have a:ω (p.1≠k)=true:=(by simp[e]);have b:ω (q.1≠k)=true:=(by simp[e']);rw[xL a,xL b];exact .cons ⟨h1,h2⟩ ih
theorem KV.length{kvs:δ<|κ×V}{vs:δ<|κ×ξ}(r:KV kvs vs):kvs.length=vs.length:=y0 r
theorem G_(kvs:δ<|κ×V)(k:κ):(nG kvs k).length<=kvs.length:=yt _ _
end
theorem jO(r:RelV (kV k) u):(aw P w).is k u=true:=by cases k with|inl i=>(obtain⟨t,e⟩:=(show ∃t,u=Value.int i t from r);subst e;exact nC P w i t)|inr x=>obtain⟨t,e⟩:=(show ∃t,u=Value.str x t from r);subst e;exact fG P w x t
theorem tj:∀{ks:δ Key}{us:δ ξ},Vals (ks.map kV) us->ItemsAre (aw P w) ks us|[],_,r=>(by rw[yY]at r;cases r;exact .nil)|k::ks,_,r=>by rw[zw]at r;cases r with|cons h t=>exact .cons (jO h)<|tj t
abbrev KT(H:Hp):δ (δ Key×V)->δ (δ Key×ε×ξ)->Prop:=Paired λp q=>p.1=q.1/\H q.2.1=some (.tup<|p.1.map kV)/\RelV p.2 q.2.2
theorem KT.val{H:Hp}{kvs:δ<|δ Key×V}{xs:δ<|δ Key×ε×ξ}(r:KT H kvs xs)(k:δ Key):fB (fE kvs k) ((atKey xs k).map (·.2)):=by induction r with|nil=>exact True.intro|@cons p q ps qs h t ih=>obtain⟨h1,_,h2⟩:=h;by_cases e:p.1=k;have e':q.1=k:=h1.symm.trans e;have b:atKey (q::qs) k=some q.2:=(by simp[atKey,yd,e']);rw[pT e,b];exact h2;have e':¬q.1=k:=λz=>e<|h1.trans z;have b:atKey (q::qs) k=atKey qs k:=(by simp[atKey,yd,e']);rw[pU e,b];exact ih
section
variable{P:Ψ}{w:Ω}{H:Hp}{h:Γ}{a:ε}
theorem M5(ok:j7 P w H h)(e:Rd H a u):aS P w H h a u:=e.ok ok
theorem nI(ok:j7 P w H h)(e:Rd H a<|.dK kvs):kvs.length<=sizeLine/\(a==sysModules)=false/\∃vs,KV kvs vs/\h.DictOf (aw P w) a vs:=show aS P w H h a (.dK kvs) from M5 ok e
theorem Df(ok:j7 P w H h)(e:H a=some (.dK kvs)):kvs.length<=sizeLine/\(a==sysModules)=false/\∃vs,KV kvs vs/\h.DictOf (aw P w) a vs:=nI ok<|.inl e
theorem uB(ok:j7 P w H h)(e:H a=some (.tup<|ks.map kV)):(tupleKind<|aw P w).is h ks a:=by obtain⟨_,ar,r,o,h1,h2,_,n,h3⟩:=(show aS P w H h a (.tup<|ks.map kV) from ok a _ e);exact{o,ar.toArray,n,h1,h2,h3,by simpa using tj r}
theorem tm(ok:j7 P w H h)(e:Rd H a<|.dT kvs):kvs.length<=sizeLine/\(a==sysModules)=false/\∃xs,KT H kvs xs/\h.DictOfH (tupleKind<|aw P w) a xs:=by exact False.elim<|show aS P w H h a (.dT kvs) from M5 ok e
end
def oy(H:Hp)(a:ε)(y:V)(r:θ V):Prop:=(∃kvs k,Rd H a (.dK kvs)/\y=kV k/\r=fE kvs k)\/∃kvs k b,Rd H a (.dT kvs)/\y=.ref b/\H b=some (.tup<|k.map kV)/\r=fE kvs k
def Ha(H:Hp)(a:ε)(y v:V)(H':Hp):Prop:=(∃kvs k,H a=some (.dK kvs)/\y=kV k/\kvs.length<sizeLine/\H'=upd H a (.dK<|putK kvs k v))\/∃kvs k b,H a=some (.dT kvs)/\y=.ref b/\H b=some (.tup<|k.map kV)/\kvs.length<sizeLine/\H'=upd H a (.dT<|putK kvs k v)
theorem oy.k{H:Hp}{a:ε}{kvs:δ<|Key×V}{k:Key}(e:H a=some (.dK kvs)):oy H a (kV k) (fE kvs k):=.inl {kvs,k,.inl e,rfl,rfl}
theorem Ha.k{H:Hp}{a:ε}{kvs:δ<|Key×V}{k:Key}{v:V}(e:H a=some (.dK kvs))(hl:kvs.length<sizeLine):Ha H a (kV k) v (upd H a<|.dK<|putK kvs k v):=.inl ⟨kvs,k,e,rfl,hl,rfl⟩
section
variable{X:Cx}{pins:δ (ε×Obj)}{σ:St}{H:Hp}{s:ζ}{a:ε}{y v:V}{u r:ξ}{o:θ V}{A:ϕ}{E:ξ->ζ->η}
theorem Inv.big(I:Inv X pins σ H s):sysModules<s.heap.objs.size:=by have h:mainGlobals<s.heap.objs.size:=(I.mod.glob.keeps I.bk).lt;exact Nat.lt_trans (by decide) h
theorem EX(hu:A.units+1<cLine)(I:Inv X pins σ H s)(g:oy H a y<|some v)(ry:RelV y u)(h:∀w' s',Inv X pins σ H s'->RelV v w'->Q w' s'): wpAny (model X.prog X.w) A (getItem (.ref a) u) Q E s:=by rcases g with⟨kvs,k,e,ey,l⟩|⟨kvs,k,b,e,ey,eb,l⟩;subst ey;obtain⟨z,hd,vs,rel,dd⟩:=nI I.aI e;obtain⟨w',hw,ou⟩:=fB.some_of (v:=v) (o:=valueAt vs k) (by rw[l];exact rel.val k);exact wpAny_getItem_of (jO ry) dd.mapOf hw<|h w' _ (I.tok _) ou;subst ey;cases (show u=Value.ref b from ry);obtain⟨z,hd,xs,rel,dd⟩:=tm I.aI e;obtain⟨w',hw,ou⟩:=fB.some_of (v:=v) (o:=(atKey xs k).map (·.2)) (by rw[l];exact rel.val k);obtain⟨p,hp,iy⟩:=Option.map_eq_some_iff.mp hw;refine wpAny_getItem_heap (tupleKind_room_in1 hu) (uB I.aI eb) dd hp ?_;rw[iy];exact h w' _ (I.tok _) ou
theorem YI(hu:A.units+1<cLine)(I:Inv X pins σ H s)(g:oy H a y o)(ry:RelV y u)(h:∀s',Inv X pins σ H s'->Q (.bool o.isSome) s'): wpAny (model X.prog X.w) A (compareOp .In u<|.ref a) Q E s:=by rcases g with⟨kvs,k,e,ey,l⟩|⟨kvs,k,b,e,ey,eb,l⟩;subst ey;obtain⟨z,hd,vs,rel,dd⟩:=nI I.aI e;refine wpAny_in_of (jO ry) hd dd.mapOf ?_;rw[<-(rel.val k).my,<-l];exact h _<|I.tok _;subst ey;cases (show u=Value.ref b from ry);obtain⟨z,hd,xs,rel,dd⟩:=tm I.aI e;refine wpAny_in_heap (tupleKind_room_in1 hu) (uB I.aI eb) hd dd ?_;have q:=(rel.val k).my;rw[Option.isSome_map]at q;rw[<-q,<-l];exact h _<|I.tok _
theorem uC(I:Inv X pins σ H s)(mu:S_<|H a)(hs:Heap.SameBut a s.heap h')(he:∃q,h'.get? a=some q)(new:aS X.prog X.w (upd H a ob) h' a ob): Inv X pins σ (upd H a ob) {s with heap:=h',toks:=t'}:=I.write (x:=a) (e:=a) mu (.inl rfl) (λb q hb z=>(hs.2 b hb).trans z) he new
theorem Bf(z:kvs.length<=sizeLine)(hd:(a==sysModules)=false)(rel:KV kvs vs)(dd:h'.DictOf (aw P w) a vs): aS P w H' h' a (.dK kvs):=⟨z,hd,vs,rel,dd⟩
theorem EY(hu:A.units+1<cLine)(I:Inv X pins σ H s)(g:Ha H a y v H')(ry:RelV y u)(rv:RelV v r)(h:∀s',Inv X pins σ H' s'->Q () s'): wpAny (model X.prog X.w) A (setItem (.ref a) u r) Q E s:=by
 rcases g with⟨kvs,k,e,ey,l,eH⟩|⟨kvs,k,b,e,ey,eb,l,eH⟩;subst ey eH;obtain⟨z,hd,vs,rel,dd⟩:=Df I.aI e;have hz:vs.length<=sizeLine:=by rw[<-rel.length];exact z
 have hl:(putK kvs k v).length<=sizeLine:=by have:=nH kvs k v;lia
 refine wpAny_setItem_pairs (hsz:=hz) (jO ry) dd λh' M6 hs=>h _ ?_;have he:∃q,h'.get? a=some q:=by obtain⟨q,_,_,hq,_⟩:=M6;exact⟨q,hq⟩
 exact uC I (by rw[e];exact True.intro) hs he<|Bf hl hd (rel.put k rv) M6;exact False.elim<|I.aI _ _ e
end
section
variable{X:Cx}{pins:δ (ε×Obj)}{σ:St}{H:Hp}{s:ζ}{a:ε}{kvs:δ (Key×V)}{k:Key}{u:ξ}{A:ϕ}{E:ξ->ζ->η}
theorem Ue(I:Inv X pins σ H s)(e:H a=some (.dK kvs))(ry:RelV (kV k) u)(l:fE kvs k=some v)(hm:more=[]\/∃x,more=[x]) (h:∀w' s',Inv X pins σ (upd H a<|.dK<|nG kvs k) s'->RelV v w'->Q w' s'):wpAny (model X.prog X.w) A (call (.builtin "dict.pop")<|.ref a::u::more) Q E s:=by
 obtain⟨z,hd,vs,rel,dd⟩:=Df I.aI e;obtain⟨w',hw,ou⟩:=fB.some_of (v:=v) (o:=valueAt vs k) (by rw[<-l];exact rel.val k);have hp:(keyPart u).isSome=true:=by cases k with|inl i=>(obtain⟨t,q⟩:=(show ∃t,u=Value.int i t from ry);subst q;rfl)|inr x=>obtain⟨t,q⟩:=(show ∃t,u=Value.str x t from ry);subst q;rfl
 have ha:argsOk "dict.pop" {.ref a::u::more,[]}:=by rcases hm with q|⟨x,q⟩;subst q;exact PySem.F.args_dict_pop_2 _ _;subst q;exact PySem.F.args_dict_pop_3 _ _ _
 refine call_meetsIn PySem.F.slot_dict_pop dd.typeIs PySem.F.entry_dict_pop ha (meets_dict_pop_there (aw X.prog X.w) a (jO ry) more hm hp) {vs,w',dd,by rw[<-rel.length];exact z,hw,λh' M6 hs=>h w' _ ?_ ou};have he:∃q,h'.get? a=some q:=by obtain⟨q,_,_,hq,_⟩:=M6;exact⟨q,hq⟩
 exact uC I (by rw[e];exact True.intro) hs he<|Bf (zG (G_ kvs k) z) hd (rel.drop k) M6
theorem Ug(I:Inv X pins σ H s)(e:Rd H a<|.dK kvs)(h:∀t s',Inv X pins σ H s'->Q (.int kvs.length t) s'):wpAny (model X.prog X.w) A (call (.builtin "len") [.ref a]) Q E s:=by obtain⟨z,hd,vs,rel,dd⟩:=nI I.aI e;refine call_len_dict hd dd (by rw[<-rel.length];rw[yj]at z;lia) ?_;rw[<-rel.length];exact h _ _<|I.tok _
end
theorem wR(I:Inv X pins σ H s)(g:oy H a y o):s.TypeIs (.ref a) "dict":=by rcases g with⟨kvs,k,e,_,_⟩|⟨kvs,k,b,e,_,_,_⟩;obtain⟨_,_,vs,_,dd⟩:=nI I.aI e;exact dd.typeIs;obtain⟨_,_,xs,_,dd⟩:=tm I.aI e;exact dd.typeIs
def Uh(td ty tv:TE):TS:=λD σ H=>tv σ H λv H1=>td σ H1 λx H2=>ty σ H2 λy H3=>∃a H4,x=.ref a/\Ha H3 a y v H4/\D.nx σ H4
section
variable{X:Cx}{o i value:Δ}{pos pos':Pos}{td ty tv:TE}
theorem KL(hu:X.A.units+1<cLine)(ho:PE X o td)(hi:PE X i ty)(hv:PE X value tv)(hs:swapsWith value (some<|.Subscript o i pos') pos.line X.env=pure false): PS X (.Assign [.Subscript o i pos'] value pos) (Uh td ty tv):=by intro pins s σ H D I h;refine wpAny_Assign_Subscript (bj (hv pins s σ H _ I h) λr s1 ⟨v,H1,I1,rv,q1⟩=>bj (ho pins s1 σ H1 _ I1 q1) λu s2 ⟨x,H2,I2,rx,q2⟩=>bj (hi pins s2 σ H2 _ I2 q2) λiv s3 ⟨y,H3,I3,ry,a,H4,ex,g,q3⟩=>?_) hs;subst ex;obtain rfl:u=Value.ref a:=rx;exact EY hu I3 g ry rv λs4 I4=>⟨σ,H4,I4,q3⟩
end
theorem Hb(h:Γ)(hb:sysModules<h.objs.size):aS P w H (h.push {cls:=.type "dict",data:=.dict #[]}) h.objs.size (.dK []):={zY _,beq_eq_false_iff_ne.mpr<|Ne.symm<|zB hb,[],.nil,Heap.DictOf.new h}
def Pq:TE:=λ_ H Q=>∀p,H p=none->Q (.ref p) (upd H p<|.dK [])
section
variable{X:Cx}{pos:Pos}
theorem Hc:PE X (.Dict [] [] pos) Pq:=λpins s σ H Q I h=>wpAny_Dict_empty {.ref s.heap.objs.size,_,I.laid (a:=s.heap.objs.size) (o:=.dK []) (t':=s.toks) (λ_ _ q=>zb _ q) (zm _)<|Hb s.heap I.big,rfl,h _<|I.aI.fresh<|zm _}
end
def Hd:δ (TE×TE)->St->Hp->(δ (V×V)->Hp->η)->η|[],_,H,Q=>Q [] H| (tk,tv)::r,σ,H,Q=>tk σ H λx H1=>tv σ H1 λy H2=>Hd r σ H2 λps H3=>Q ((x,y)::ps) H3
abbrev VV:δ (V×V)->δ (ξ×ξ)->Prop:=Paired λp q=>RelV p.1 q.1/\RelV p.2 q.2
def PPs(X:Cx)(pos:Pos)(keys:δ<|θ Δ)(values:δ Δ)(trs:δ<|TE×TE):Prop:=∀(pins:δ (ε×Obj))(s:ζ)(σ:St)(H:Hp)(Q:δ (V×V)->Hp->η),Inv X pins σ H s->Hd trs σ H Q->wpAny (model X.prog X.w) X.A (evalPairs<|pairTrees keys values X.env pos) (λvs s'=>∃ps H',Inv X pins σ H' s'/\VV ps vs/\Q ps H') X.xe s
structure M1(X:Cx)(o:Δ)(m:ρ)(apos:Pos)(e:Δ)(aP:Pos):η where
 base:attributeBase o m X.env (eval o X.env)=eval o X.env
 Gv:((backTo aP<|starEach [e] X.env).all (λx=>!x.1)&&(backToKw aP<|keywordEach [] X.env).all (λx=>x.1.isSome)
  && ω (([e]:δ Δ).length+([]:δ Keyword).length+(if ([]:δ Keyword).isEmpty then 0 else 1)<30))=true
 line:(apos.endLine==aP.line)=true
 trees:backTo aP (starEach [e] X.env)=[(false,eval e X.env)]
structure M2(X:Cx)(o:Δ)(m:ρ)(apos:Pos)(e f:Δ)(aP:Pos):η where
 base:attributeBase o m X.env (eval o X.env)=eval o X.env
 Gv:((backTo aP<|starEach [e,f] X.env).all (λx=>!x.1)&&(backToKw aP<|keywordEach [] X.env).all (λx=>x.1.isSome)
  && ω (([e,f]:δ Δ).length+([]:δ Keyword).length+(if ([]:δ Keyword).isEmpty then 0 else 1)<30))=true
 line:(apos.endLine==aP.line)=true
 trees:backTo aP (starEach [e,f] X.env)=[(false,eval e X.env),(false,eval f X.env)]
def R7(H:Hp)(a:ε):Prop:=(∃kvs,Rd H a<|.dK kvs)\/∃kvs,Rd H a<|.dT kvs
theorem uD(I:Inv X pins σ H s)(d:R7 H a): s.TypeIs (.ref a) "dict"/\(∀b,Value.ref a=.ref b->∃ob,s.heap.get? b=some ob/\ob.dict=none)/\(a==sysModules)=false:=by rcases d with⟨kvs,e⟩|⟨kvs,e⟩;obtain⟨_,hd,vs,_,dd⟩:=nI I.aI e;refine{dd.typeIs,λb q=>?_,hd};cases q;obtain⟨ob,_,_,h1,h2,_⟩:=dd;exact⟨ob,h1,h2.2.1⟩;obtain⟨_,hd,xs,_,dd⟩:=tm I.aI e;refine{dd.typeIs,λb q=>?_,hd};cases q;obtain⟨ob,_,_,h1,h2,_⟩:=dd;exact⟨ob,h1,h2.2.1⟩
section
variable{X:Cx}{pins:δ (ε×Obj)}{σ:St}{H:Hp}{s:ζ}{a:ε}{y d:V}{u r:ξ}{o:θ V}{A:ϕ}{E:ξ->ζ->η}
theorem Pr(hu:A.units+1<cLine)(I:Inv X pins σ H s)(g:oy H a y o)(ry:RelV y u)(h:∀w' s',Inv X pins σ H s'->RelV (o.getD .au) w'->Q w' s'): wpAny (model X.prog X.w) A (call (.builtin "dict.get") [.ref a,u]) Q E s:=by rcases g with⟨kvs,k,e,ey,l⟩|⟨kvs,k,b,e,ey,eb,l⟩;subst ey;obtain⟨z,hd,vs,rel,dd⟩:=nI I.aI e;refine call_meetsIn yE dd.typeIs PySem.F.entry_dict_get (PySem.F.args_dict_get_2 _ _) (meets_dict_get (aw X.prog X.w) a (jO ry) hd) {_,dd.mapOf,h _ _ (I.tok _) ?_};rw[l];exact(rel.val k).getD rfl;subst ey;cases (show u=Value.ref b from ry);obtain⟨z,hd,xs,rel,dd⟩:=tm I.aI e;refine call_meetsIn yE dd.typeIs PySem.F.entry_dict_get (PySem.F.args_dict_get_2 _ _) (meetsH_dict_get (tupleKind<|aw X.prog X.w) a b hd) {tupleKind_room_in1 hu,k,xs,uB I.aI eb,dd,h _ _ (I.tok _) ?_};rw[l];exact(rel.val k).getD rfl
theorem Pt(hu:A.units+1<cLine)(I:Inv X pins σ H s)(g:oy H a y o)(ry:RelV y u)(rd:RelV d r)(h:∀w' s',Inv X pins σ H s'->RelV (o.getD d) w'->Q w' s'): wpAny (model X.prog X.w) A (call (.builtin "dict.get") [.ref a,u,r]) Q E s:=by rcases g with⟨kvs,k,e,ey,l⟩|⟨kvs,k,b,e,ey,eb,l⟩;subst ey;obtain⟨z,hd,vs,rel,dd⟩:=nI I.aI e;refine call_meetsIn yE dd.typeIs PySem.F.entry_dict_get (PySem.F.args_dict_get_3 _ _ _) (meets_dict_get_default (aw X.prog X.w) a (jO ry) hd r) {_,dd.mapOf,h _ _ (I.tok _) ?_};rw[l];exact(rel.val k).getD rd;subst ey;cases (show u=Value.ref b from ry);obtain⟨z,hd,xs,rel,dd⟩:=tm I.aI e;refine call_meetsIn yE dd.typeIs PySem.F.entry_dict_get (PySem.F.args_dict_get_3 _ _ _) (meetsH_dict_get_default (tupleKind<|aw X.prog X.w) a b hd r) {tupleKind_room_in1 hu,k,xs,uB I.aI eb,dd,h _ _ (I.tok _) ?_};rw[l];exact(rel.val k).getD rd
end
def Pu(td ty:TE):TE:=λσ H Q=>td σ H λx H1=>∃a,x=.ref a/\R7 H1 a/\ty σ H1 λy H2=>∃o,oy H2 a y o/\Q (o.getD .au) H2
def Pw(td ty tx:TE):TE:=λσ H Q=>td σ H λx H1=>∃a,x=.ref a/\R7 H1 a/\ty σ H1 λy H2=>tx σ H2 λz H3=>∃o,oy H3 a y o/\Q (o.getD z) H3
def Px(td ty:TE):TE:=λσ H Q=>td σ H λx H1=>∃a,x=.ref a/\R7 H1 a/\ty σ H1 λy H2=>∃kvs k v,H2 a=some (.dK kvs)/\y=kV k/\fE kvs k=some v/\Q v (upd H2 a<|.dK<|nG kvs k)
section
variable{X:Cx}{o e f:Δ}{apos aP:Pos}{td ty tx:TE}
theorem He(hu:X.A.units+1<cLine)(ho:PE X o td)(he:PE X e ty)(m:M1 X o "get" apos e aP):PE X (.Call (.Attribute o "get" apos) [e] [] aP) (Pu td ty):=by intro pins s σ H Q I h;refine wpAny_Call_method m.base m.Gv m.line PySem.F.plainAttrs_dict yE PySem.F.type_dict_get<|bj (ho pins s σ H _ I h) λu s1 ⟨x,H1,I1,rx,a,ex,d,q1⟩=>?_;subst ex;obtain rfl:u=Value.ref a:=rx;obtain⟨t1,t2,_⟩:=uD I1 d;refine{t1,t2,?_};rw[m.trees];refine Calls.callWith_builtin rfl<|Calls.evalArgs_plain<|yL<|bj (he pins s1 σ H1 _ I1 q1) λiv s2 ⟨y,H2,I2,ry,ov,g,q2⟩=>Calls.spliced_nil ?_;exact Pr hu I2 g ry λw' s3 I3 ou=>{_,H2,I3,ou,q2}
theorem Hf(hu:X.A.units+1<cLine)(ho:PE X o td)(he:PE X e ty)(hf:PE X f tx)(m:M2 X o "get" apos e f aP):PE X (.Call (.Attribute o "get" apos) [e,f] [] aP) (Pw td ty tx):=by intro pins s σ H Q I h;refine wpAny_Call_method m.base m.Gv m.line PySem.F.plainAttrs_dict yE PySem.F.type_dict_get<|bj (ho pins s σ H _ I h) λu s1 ⟨x,H1,I1,rx,a,ex,d,q1⟩=>?_;subst ex;obtain rfl:u=Value.ref a:=rx;obtain⟨t1,t2,_⟩:=uD I1 d;refine{t1,t2,?_};rw[m.trees];refine Calls.callWith_builtin rfl<|Calls.evalArgs_plain<|yL<|bj (he pins s1 σ H1 _ I1 q1) λiv s2 ⟨y,H2,I2,ry,q2⟩=>yL<|bj (hf pins s2 σ H2 _ I2 q2) λfv s3 ⟨z,H3,I3,rz,ov,g,q3⟩=>Calls.spliced_nil ?_;exact Pt hu I3 g ry rz λw' s4 I4 ou=>{_,H3,I4,ou,q3}
theorem Hg(ho:PE X o td)(he:PE X e ty)(m:M1 X o "pop" apos e aP):PE X (.Call (.Attribute o "pop" apos) [e] [] aP) (Px td ty):=by intro pins s σ H Q I h;refine wpAny_Call_method m.base m.Gv m.line PySem.F.plainAttrs_dict PySem.F.slot_dict_pop PySem.F.type_dict_pop<|bj (ho pins s σ H _ I h) λu s1 ⟨x,H1,I1,rx,a,ex,d,q1⟩=>?_;subst ex;obtain rfl:u=Value.ref a:=rx;obtain⟨t1,t2,_⟩:=uD I1 d;refine{t1,t2,?_};rw[m.trees];refine Calls.callWith_builtin rfl<|Calls.evalArgs_plain<|yL<|bj (he pins s1 σ H1 _ I1 q1) λiv s2 ⟨y,H2,I2,ry,kvs,k,v,ea,ey,l,q2⟩=>Calls.spliced_nil ?_;subst ey;exact Ue I2 ea ry l (.inl rfl) λw' s3 I3 ou=>{v,_,I3,ou,q2}
end
end L2
namespace Att
open PySem PySem.W PySem.Calls PyProof.Rows
theorem oz{P:Params} : ∀(ns:δ ν)(vs:δ ξ),WellAll P h vs (ns.map WData.int)->IntsAre vs ns:=by intro ns;induction ns with|nil=>(intro vs w;rw[yY]at w;cases w;exact .nil)|cons n ns ih=>intro vs w;rw[zw]at w;cases w with|cons a b=>cases a;exact .cons _ _<|ih _ b
theorem EZ{l:OpenLaw}{n:π}(hn:l.most=some n){P:Params}{h:Γ}{args:δ WData}{vals:δ ξ} (KN:l.row.toRowW.claim.pre args=true) (YJ:WellAll P h vals args): ∃a vs ns,vals=[Value.ref a]/\args=[WData.list<|ns.map WData.int]/\h.get? a=some {cls:=.type "list",data:=.seq vs.toArray}/\IntsAre vs ns/\ns.length<=n:=by
 have hsh:WShape.hasAll [] args [.list .int]=true:=(pre_splitW KN).1;have hc:l.pre.holds [] {args:=args}=true:=(pre_splitW KN).2;obtain⟨d,r,rfl,h1,h2⟩:=hasAllW_cons hsh;obtain rfl:=hasAllW_nil h2;obtain⟨xs,rfl,h3⟩:=hasW_list h1;obtain⟨ns,rfl⟩:=items_int h3;have hlen:ns.length<=n:=by unfold OpenLaw.pre at hc;have h4:(WTm.not<|.lt (.lit<|.int (n:ν))<|.len<|.arg 0).holds [] {args:=[.list<|ns.map .int]}=true:=(by have h4:=(holds_andW hc).1;rw[hn]at h4;exact h4);have h5:=condW_of h4<|w_not<|w_lt w_lit<|w_len_list<|w_arg rfl;rw[za]at h5;refine Nat.le_of_not_lt λq=>?_;have q':(n:ν)<((ns.length:π):ν):=(by lia);first| (rw[zu q']at h5;exact absurd h5<|by decide)| (simp at h5;lia)
 cases YJ with|cons w1 w2=>cases w2;cases w1 with|list ho rT=>exact{_,_,ns,rfl,rfl,ho,oz ns _ rT,hlen}
theorem E1(l:OpenLaw)(args:δ WData):l.row.toRowW.claim.post args (.bool true) args=true:=postW_of (r:=l.row.toRowW) (X:=(true==true)) (show WShape.has [] (.bool true) .bool=true by first|rfl|decide|simp[WShape.has,WShape.arms,WShape.armsAll]) (show(WTm.eq .res<|.lit<|.bool true).value [] {args:=args,res:=some<|.bool true,after:=args}=some (.bool<|true==true) from w_eq_bool (w_res rfl) w_lit) rfl
theorem wU{l:OpenLaw}{n:π}{q:Ψ}{loose:δ ρ}{XP:(ρ->θ ξ)->Γ->η}{YP:Ω->Γ->η}{d:DefRec} (hn:l.most=some n) (YK:d.params.defaults=[]) (call:∀(w:Ω)(cX aU:ζ)(mg mb:ρ->θ ξ)(fa:ε)(o:Obj)(pm cd doc:ξ)(a:ε)(vs:δ ξ)(ns:δ ν),Ground q loose [] XP w cX mg mb aU.heap->YP w aU.heap->aU.heap.get? fa=some o->o.data=.func (docDef d.name d.params d.body d.scope pm cd doc)->aU.heap.CodeRec cd d.name->mg d.name=some (.ref fa)->aU.heap.get? a=some {cls:=.type "list",data:=.seq vs.toArray}->IntsAre vs ns->ns.length<=n->aU.gens=#[]->codeAny (model l.prog w) callerA (.call (.ref fa) {[.ref a],[]}) (λr s'=>r=.ok (.ret<|.bool true)/\OldK aU.heap s'.heap/\s'.os=aU.os/\AllBare s'.gens) aU): WalkO q loose XP YP l.row.toRowW d [] (λf vs=>PySem.call f vs):=by intro w cX aU mg mb G Y fa o pm cd doc dV kV ho hd rH hD Py hg args vals as KN adE hrd YJ hlo;obtain rfl:dV=.none:=Dflts.none hD YK;obtain rfl:kV=.none:=Dflts.noKw hD;obtain⟨a,vs,ns,rfl,rfl,Pz,hints,hlen⟩:=EZ hn KN YJ;refine enter_call<|yZ (call w cX aU mg mb fa o pm cd doc a vs ns G Y ho (fd_plain hd) rH Py Pz hints hlen hg) λr s' hq=>?_;obtain⟨rfl,h2,h3,h4⟩:=hq;exact{.inl {.bool true,.bool true,[],rfl,λ_=>rfl,.bool true,E1 l _,λ_=>{List.Pairwise.nil,λ_ hm=>(nomatch hm)}},h2,h3,h4}
end Att
namespace L2
open PySem PySem.Spec PyProof.Rows
theorem tq:∀{vs:δ ξ}{ns:δ ν},IntsAre vs ns->Vals (ns.map V.int) vs|_,_,.nil=>.nil|_,_,.cons n t h=>.cons ⟨t,rfl⟩<|tq h
def inClass(s:Stmt)(j:π):Stmt:=match s with|.ClassDef _ _ _ body _ _ _ _ _ _ _=>body.getD j (.Pass {0,0,0,0})|_=>.Pass {0,0,0,0}
def bF(s:Stmt):Arguments:=match s with|.FunctionDef _ a _ _ _ _ _ _ _ _=>a|_=>{posonlyargs:=[],args:=[],vararg:=none,kwonlyargs:=[],kw_defaults:=[],kwarg:=none,defaults:=[]}
def bw(s:Stmt):δ Stmt:=match s with|.FunctionDef _ _ b _ _ _ _ _ _ _=>b|_=>[]
def ai(s:Stmt):Scope:=match s with|.FunctionDef _ _ _ _ _ _ sc _ _ _=>sc|_=>{kind:=.function,names:=[],isGenerator:=false,isCoroutine:=false}
abbrev W8:A8:=λ_ _ _ _ _ _=>False
abbrev E0:XK:=λ_ _ _=>False
structure Fun(K:Φ)(x qual:ρ)(st:Stmt)(f:ε)(fd:FuncData):η where
 ex:∃(oc:ξ)(od:θ ε)(kV doc pm:ξ)(an:θ ε)(fJ ct:ξ)(Pc:Array (θ ξ)),
  fd=fnOf x qual (bF st) (bw st) (ai st) .none kV doc pm an fJ ct/\K.lookup f=some {oc,od,.func fd,Pc}/\codeIn K fJ qual=true
 kp:keepIn K (.ref f)=true
theorem jq(h:n<=1000):n<sizeLine:=Nat.lt_of_le_of_lt h<|by decide
section
variable{X:Cx}
theorem E3:eI X (.builtin "len") (λxs H Q=>∃a kvs,xs=[V.ref a]/\H a=some (.dK kvs)/\Q (.int kvs.length) H):=by intro pins s σ H xs us Q I r h;obtain⟨a,kvs,rfl,ha,q⟩:=h;obtain⟨u,rfl,ru⟩:=vals1 r;cases ru;exact Ug I (.inl ha) λt s' I'=>{.int kvs.length,H,I',⟨t,rfl⟩,q}
end
theorem bt{A B:η}(h:B):if false=true then A else B:=by rw[xz zd];exact h
theorem dX{A B:η}(h:A):if true=true then A else B:=by rw[xL rfl];exact h
section
variable{κ:Type}[DecidableEq κ]
theorem oW:∀{l:δ κ}{k:κ},l.Nodup->¬k∈l->(l++[k]).Nodup|[],k,_,_=>by simp|a::r,k,h,hk=>by obtain⟨h1,h2⟩:=yf.mp h;show(a::(r++[k])).Nodup;refine yf.mpr {λm=>?_,oW h2 λm=>hk<|zk.mpr<|Or.inr m};rcases zN.mp m with q|q;exact h1 q;exact hk<|zk.mpr<|Or.inl (zI.mp q).symm
end
end L2
set_option maxHeartbeats 4000000
namespace L2
open PySem PySem.Spec PyProof.Rows
section
variable{X:Cx}
noncomputable def Gw(i j:ρ):Bool:=!decide (j.cps.toList<i.cps.toList)
noncomputable def rJ(i j:ρ):Bool:=ω<|i.cps.toList<j.cps.toList
def YL(g:ρ->ρ->χ):R2:=λx y H Q=>∃i j,x=.str i/\y=.str j/\Q (.bl<|g i j) H
theorem E6:gE X (compareOp .LtE) (YL Gw):=by intro pins s σ H x y v u Q I rx ry h;obtain⟨i,j,rfl,rfl,q⟩:=h;obtain⟨t,rfl⟩:=rx;obtain⟨t',rfl⟩:=ry;exact P.le_str<|aF I q rfl
theorem E7:gE X (compareOp .GtE) (YL λi j=>Gw j i):=by intro pins s σ H x y v u Q I rx ry h;obtain⟨i,j,rfl,rfl,q⟩:=h;obtain⟨t,rfl⟩:=rx;obtain⟨t',rfl⟩:=ry;exact P.ge_str<|aF I q rfl
theorem E8:gE X (compareOp .Gt) (YL λi j=>rJ j i):=by intro pins s σ H x y v u Q I rx ry h;obtain⟨i,j,rfl,rfl,q⟩:=h;obtain⟨t,rfl⟩:=rx;obtain⟨t',rfl⟩:=ry;exact P.gt_str<|aF I q rfl
def M7(_ j:ν):Prop:=0<j/\j.natAbs.log2<9000
theorem Hh:gE X (binaryOp .FloorDiv) (rI M7 λi j=>.int<|i/j):=W3 λi j _ _ _ _ _ hc q=>by
 have hj:j≠0:=by have:=hc.1;omega
 exact floordiv_int hj (by rw[Int.fdiv_eq_ediv_of_nonneg _<|by have:=hc.1;omega];exact q)<|.inl<|PyProof.noPylong_of_log2 hc.2
end
noncomputable def YM(x:ρ):It:={λi _=>i<x.cps.size,λi H v H'=>H'=H/\∃c,x.cps[i]?=some c/\v=.str ⟨#[c]⟩,λi _=>x.cps.size<=i}
theorem wV{P:Ψ}{w:Ω}{K:Φ}{tg:Δ}{T:String}(hT:["enumerate","zip","dict_itemiterator","dict_reverseitemiterator","odict_iterator","itertools.zip_longest","itertools.pairwise"].contains T=false)(it:ε)(x:ρ)(t:Tok)
  (W:∀A':ϕ,A'.handled=none->Walks P w A' it [it] [it] x.cps.size (SignAt x) (λi h=>h.IsStrIter it T x t i))
  (YN:∀(A:ϕ)(s:ζ)(E:ξ->ζ->η)(i:π)(Q:θ ξ->ζ->η),A.handled=none->s.heap.IsStrIter it T x t i->x.cps[i]?=none->(∀h',Heap.ExtBut it s.heap h'->Q none {s with heap:=h'})->wpAny (model P w) A (pyNext<|.ref it) Q E s)
  (Ui:∀(A:ϕ)(s:ζ)(E:ξ->ζ->η)(i:π)(Q:ξ->ζ->η),s.heap.IsStrIter it T x t i->Q (.ref it) s->wpAny (model P w) A (pyIter<|.ref it) Q E s):
  Turn P w K tg (YM x) [it] it (λi h=>h.IsStrIter it T x t i) where
 mem:=by simp
 obj:=λi h st b hb=>by
  have e:b=it:=by simpa using hb
  subst e
  obtain⟨o,e,c,d⟩:=st
  exact{o,e,λv z=>by rw[d]at z;cases z}
 keep:=λi h h' st k=>by
  obtain⟨o,e,c,d⟩:=st
  exact{o,k it (by simp) o e,c,d}
 item:=by
  intro X hP hw hK hc i pins s σ H E I hf st hg
  subst hP hw hK
  obtain⟨f0,f1,f2,f3,f4,f5⟩:=hf it<|by simp
  refine(W X.A<|I.ok.hd hc).item i s _ _ hg st λv h' tk hv dH kk=>?_
  obtain⟨c,u,KO,rfl⟩:=hv
  have I1:Inv X pins σ H {s with heap:=h',toks:=tk}:=I.turned (λb o hb e=>kk b o (by simpa using hb) e) f0 f1 f3 f4 f5
  obtain⟨o,e,c',d⟩:=id dH
  exact{_,rfl,pM (s:={s with heap:=h',toks:=tk}) e c' d hT {.str ⟨#[c]⟩,H,I1,⟨u,rfl⟩,⟨rfl,c,KO,rfl⟩,dH,λb hb=>(hf b hb).1}}
 done:=by
  intro X hP hw hK hc i pins s σ H E I hf st hg
  subst hP hw hK
  obtain⟨f0,f1,f2,f3,f4,f5⟩:=hf it<|by simp
  have hg:x.cps.size<=i:=hg
  exact YN X.A s E i _ (I.ok.hd hc) st (by simp;exact hg) λh' eb=>{rfl,I.turned (t':=s.toks) (λb o hb e=>eb b o hb e) f0 f1 f3 f4 f5}
 self:=λA' i s Q E st h=>Ui A' s E i Q st h
section
variable{X:Cx}{tg:Δ}
def YO(tl:TE):TI:=λσ H R=>tl σ H λx H1=>∃z,x=.str z/\R (YM z) H1
theorem PB(hl:PE X l tl):PI X tg l (YO tl):=by
 intro pins s σ H R I h;refine bj (hl pins s σ H _ I h) λv s1 ⟨x,H1,I1,r1,q1⟩=>?_;obtain⟨z,e,q⟩:=q1;subst e;obtain⟨t,rfl⟩:=r1;have fin:∀(T:String)(_:Turn X.prog X.w X.K tg (YM z) [s1.heap.objs.size] s1.heap.objs.size (λi h=>h.IsStrIter s1.heap.objs.size T z t i)),Yl X pins σ tg R (.ref s1.heap.objs.size) {s1 with heap:=s1.heap.push {cls:=.type T,data:=.fields #[.str z t,.int 0 0]}}:=λT tn=>by refine{s1.heap.objs.size,[s1.heap.objs.size],_,_,H1,rfl,I1.kept (t':=s1.toks) λb o e=>zb _ e,tn,{_,zi _ rfl,rfl,rfl},λb hb=>?_,q};have e:b=s1.heap.objs.size:=(by simpa using hb);subst e;exact I1.mr (zm _)<|I1.aI.fresh<|zm _
 cases ha:z.cps.all (·<128);exact wpAny_pyIter_wide ha<|fin _<|wV (by decide) _ z t (λA' hA=>Walks.strWide hA _ z t) (λA s E i Q hh st hx hQ=>wpAny_pyNext_wide_end hh st hx hQ) λA s E i Q st hq=>wpAny_pyIter_striter_wide st hq;exact wpAny_pyIter_ascii ha<|fin _<|wV (by decide) _ z t (λA' hA=>Walks.strAscii hA _ z t) (λA s E i Q hh st hx hQ=>wpAny_pyNext_ascii_end hh st hx hQ) λA s E i Q st hq=>wpAny_pyIter_striter_ascii st hq
end
noncomputable def clOf(cells:δ<|ρ×ε)(names:δ<|ρ×NameKind):δ (ρ×ε):=names.foldl (λcs p=>if p.2==.free then match cells.lookup p.1 with|some a=>(p.1,a)::cs|none=>cs else cs) []
theorem pV(cells:δ<|ρ×ε):∀(names:δ (ρ×NameKind))(cs:δ (ρ×ε)),(∀x c,cs.lookup x=some c->cells.lookup x=some c)->∀x c,(names.foldl (λcs p=>if p.2==.free then match cells.lookup p.1 with|some a=>(p.1,a)::cs|none=>cs else cs) cs).lookup x=some c->cells.lookup x=some c|[],cs,h=>h| (n,k)::r,cs,h=>by rw[List.foldl_cons];refine pV cells r _ λx c e=>?_;dsimp only at e;split at e;split at e;rename_i a ha;rw[yg]at e;split at e;rename_i hx;have:=LawfulBEq.eq_of_beq hx;cases e;rw[this];exact ha;exact h x c e;exact h x c e;exact h x c e
theorem tD(cells:δ<|ρ×ε):∀(names:δ (ρ×NameKind))(cs:δ (ρ×ε))(x:ρ)(c:ε),(∀y c,cs.lookup y=some c->cells.lookup y=some c)->cs.lookup x=some c->(names.foldl (λcs p=>if p.2==.free then match cells.lookup p.1 with|some a=>(p.1,a)::cs|none=>cs else cs) cs).lookup x=some c
 |[],cs,x,c,_,h=>h
 | (n,k)::r,cs,x,c,hs,h=>by
  rw[List.foldl_cons];have W9:∀y c,(if (k==NameKind.free)=true then match cells.lookup n with|some a=>(n,a)::cs|none=>cs else cs).lookup y=some c->cells.lookup y=some c:=by intro y c e;split at e;split at e;rename_i a ha;rw[yg]at e;split at e;rename_i hx;have:=LawfulBEq.eq_of_beq hx;cases e;rw[this];exact ha;exact hs y c e;exact hs y c e;exact hs y c e
  refine tD cells r _ x c W9 ?_;dsimp only;split;split;rename_i a ha;rw[yg];split;rename_i hx;have:=LawfulBEq.eq_of_beq hx;rw[this]at h;have:=hs _ _ h;rw[ha]at this;exact this;exact h;exact h;exact h
theorem iL(cells:δ<|ρ×ε):∀(names:δ (ρ×NameKind))(cs:δ (ρ×ε))(x:ρ)(c:ε),(∀y c,cs.lookup y=some c->cells.lookup y=some c)->(x,NameKind.free)∈names->cells.lookup x=some c->(names.foldl (λcs p=>if p.2==.free then match cells.lookup p.1 with|some a=>(p.1,a)::cs|none=>cs else cs) cs).lookup x=some c
 |[],cs,x,c,_,h,_=>nomatch h
 | (n,k)::r,cs,x,c,hs,h,hc=>by
  rw[List.foldl_cons];have W9:∀y c,(if (k==NameKind.free)=true then match cells.lookup n with|some a=>(n,a)::cs|none=>cs else cs).lookup y=some c->cells.lookup y=some c:=by intro y c e;split at e;split at e;rename_i a ha;rw[yg]at e;split at e;rename_i hx;have:=LawfulBEq.eq_of_beq hx;cases e;rw[this];exact ha;exact hs y c e;exact hs y c e;exact hs y c e
  rcases zk.mp h with e|h;cases e;refine tD cells r _ _ c W9 ?_;dsimp only;rw[xL<|show(NameKind.free==NameKind.free)=true by decide,hc];simp[yg];exact iL cells r _ x c W9 h hc
theorem fV{scope:Scope}{env:Env}(h:∀x∈scope.names,x.2=.free->∃c,env.cells.lookup x.1=some c):closureFor scope env=pure (clOf env.cells scope.names):=by
 have go:∀(names:δ (ρ×NameKind))(cs:δ (ρ×ε)),(∀x∈names,x.2=.free->∃c,env.cells.lookup x.1=some c)->(forIn names cs λx r=>match x with|(name,kind)=>if (kind==NameKind.free)=true then do let a <-cellOf env name;pure (ForInStep.yield<|(name,a)::r) else pure (ForInStep.yield r):Sem (δ<|ρ×ε))=pure (names.foldl (λcs p=>if p.2==.free then match env.cells.lookup p.1 with|some a=>(p.1,a)::cs|none=>cs else cs) cs):=by intro names;induction names with|nil=>intro cs _;rfl|cons p r ih=>intro cs hp;obtain⟨n,k⟩:=p;rw[List.forIn_cons,List.foldl_cons];by_cases hk:k=.free;subst hk;obtain⟨c,hc⟩:=hp _ zj rfl;have hc:env.cells.lookup n=some c:=hc;have e1:cellOf env n=pure c:=(by unfold cellOf;rw[hc]);have ef:(NameKind.free==NameKind.free)=true:=(by decide);dsimp only;rw[xL ef,xL ef,e1,hc];exact ih _ λx hx=>hp x<|zh _ hx;have KP:(k==NameKind.free)=false:=(by simpa using hk);dsimp only;rw[KP,xz zd,xz zd];exact ih _ λx hx=>hp x<|zh _ hx
 have e:=go scope.names [] h;have e2:closureFor scope env=(forIn scope.names [] (λx r=>match x with|(name,kind)=>if (kind==NameKind.free)=true then do let a <-cellOf env name;pure (ForInStep.yield<|(name,a)::r) else pure (ForInStep.yield r)):Sem (δ<|ρ×ε)) >>=λcs=>pure cs:=rfl;rw[e2,e];rfl
theorem iM{env:Env}{names:δ<|ρ×NameKind}{x:ρ} : (names.map λ(n,k)=>if (k==NameKind.free&&env.scope.kind==.function&&env.kindOf n==some .cell) then (n,NameKind.cell) else (n,k)).lookup x=(names.lookup x).map λk=>if (k==NameKind.free&&env.scope.kind==.function&&env.kindOf x==some .cell) then NameKind.cell else k:=by induction names with|nil=>rfl|cons p r ih=>obtain⟨n,k⟩:=p;rw[zw,yg];by_cases hc:(k==NameKind.free&&env.scope.kind==.function&&env.kindOf n==some .cell)=true;dsimp only;rw[xL hc,yg];(cases hx:x==n with|true=>have:=LawfulBEq.eq_of_beq hx;subst this;dsimp only[Option.map];rw[xL hc]|false=>exact ih);dsimp only;rw[xz hc,yg];cases hx:x==n with|true=>have:=LawfulBEq.eq_of_beq hx;subst this;dsimp only[Option.map];rw[xz hc]|false=>exact ih
noncomputable def fK(X:Cx)(N:δ ρ)(scope:Scope)(C:ε)(s:ζ)(H:Hp)(ex:δ ε)(pn:δ<|ε×Obj):Cx:={X with N:=N,cX:=s,uu:=H,env:=compEnvC scope (clOf X.env.cells scope.names) C X.env,outer:=X.stack,ex:=ex,fn:=λ_=>false,pn:=pn,xe:=λ_ _=>False}
noncomputable def pick(σ:St)(src:δ<|θ π):St:=src.map λo=>match o with|some j=>(σ[j]?).join|none=>none
structure a_(X:Cx)(N:δ ρ)(src:δ (θ π))(scope:Scope):η where
 kind:scope.kind=.function
 fW:∀y∈scope.names,y.2≠.cell
 loc:∀y∈scope.names,y.2=.local->scope.names.lookup y.1=some .local
 AI:∀y∈scope.names,y.2=.free->X.env.kindOf y.1=some .cell\/X.env.kindOf y.1=some .free
 len:src.length=N.length
 src:∀(i j:π)(x:ρ),src[i]?=some (some j)->N[i]?=some x->X.N[j]?=some x/\scope.names.lookup x=some .free/\Ov X.env.scope x
def Ext(σ ax:St):Prop:=ax.length=σ.length/\∀(j:π) v,σ[j]?=some (some v)->ax[j]?=some (some v)
def Bh(g:TG)(src:δ<|θ π):Prop:=∀x σ H Q,g x (pick σ src) H Q->g x (pick σ src) H λax H'=>Ext (pick σ src) ax/\Q ax H'
def Hi(wi:TI)(src:δ<|θ π)(g:TG)(tc:TT)(te:TE):TE:=λσ H Q=>wi σ H λJ H1=>∃W:π->π->δ V->Hp->η,(∃m,W 0 m [] H1)/\∀i m out H',W i m out H'->(J.stop i H'/\∀D,H' D=none->Q (.ref D) (upd H' D<|.lst out))\/(J.go i H'/\out.length<sizeLine/\∀x H2,J.TF i H' x H2->g x (pick σ src) H2 λfC H3=>tc fC H3 λb H4=>if b=true then te fC H4 λv H5=>∃m',m'<m/\W (i+1) m' (out++[v]) H5 else ∃m',m'<m/\W (i+1) m' out H4)
section
variable{X:Cx}{N:δ ρ}{src:δ (θ π)}{scope:Scope}{tg iter elt:Δ}{ifs:δ Δ}{pos:Pos}{wi:TI}{g:TG}{tc:TT}{te:TE}
def R8(X:Cx)(ifs:δ Δ)(t:TT):Prop:=∀(pins:δ (ε×Obj))(s:ζ)(σ:St)(H:Hp)(Q:χ->Hp->η),Inv X pins σ H s->t σ H Q->wpAny (model X.prog X.w) X.A (forIn ifs true λc r=>if r=true then do let ok <-isTrue c X.env (eval c X.env);pure (ForInStep.yield ok) else pure (ForInStep.yield r)) (TP X pins σ Q) X.xe s
def Uj:TT:=λ_ H Q=>Q true H
theorem KQ:R8 X [] Uj:=λpins s σ H Q I h=>wpAny_tests_nil ⟨H,I,h⟩
theorem KR{t:TT}(h:PT X c t):R8 X [c] t:=λpins s σ H Q I hw=>wpAny_tests_one<|h pins s σ H Q I hw
theorem jC(R9:∀x s',EE x s'->notedBy (model prog w) A env (λe s'=>R (.error e) s') x s')(I:π->ζ->η)
  (turn:∀n s,I n s->wpAny (model prog w) A (pyNext it) (λr aU=>match r with
   |none=>R (.ok .next) aU
   |some v=>wpAny (model prog w) A (letOwnedTupleGo target it v) (λ_ M8=>wpAny (model prog w) A (assign target env v) (λ_ bN =>
     wpAny (model prog w) A (forIn ifs true λc r=>if r=true then do let ok <-isTrue c env (eval c env);pure (ForInStep.yield ok) else pure (ForInStep.yield r)) (λok AV =>
      if ok=true then wpAny (model prog w) A (eval elt env) (λx wW =>
       wpAny (model prog w) A (call (.builtin "list.append") [acc,x]) (λ_ Uk=>∃m,m<n/\I m Uk) EE wW) EE AV
      else ∃m,m<n/\I m AV) EE bN) EE M8) EE aU) EE s)
  (n:π) (h:I n s):
  codeAny (model prog w) A (.compLoop (.ListComp elt [{target,iter,ifs,0}] scope pos) 0 it acc env) R s:=by
 refine codeAny_loop rfl I (λn s hI=>?_) n h
 show wpAny _ A ((compTurn (.ListComp elt [{target,iter,ifs,0}] scope pos) 0 it acc env).onRaise λx=>do noteFrame x env;theTreesLotGoes x) _ _ s
 refine wpAny_noted ?_
 rw[compTurn_list]
 refine zc<|wpAny_standAt<|zc<|yM (turn n s hI) (λr aU h₁=>?_) R9
 cases r with
 |none=>exact zo h₁
 |some v =>
  refine zc<|yM h₁ (λ_ M8 Ul=>?_) R9
  refine zc<|yM Ul (λ_ bN YQ=>zc<|yM YQ (λok AV Um=>?_) R9) R9
  cases ok with
  |false=>exact zo ⟨rfl,Um⟩
  |true =>
   exact zc<|zc<|yM Um (λx wW YR=>zc<|yM YR (λ_ Uk YS=>zo<|zo ⟨rfl,YS⟩) R9) R9
def CompEnd(X:Cx)(pins:δ<|ε×Obj)(σ:St)(Q:VK)(D C:ε)(s':ζ):Prop:=∃H' m,Inv X pins σ H' s'/\Q (.ref D) H'/\s'.heap.Ns C m/\H' C=none/\C≠X.env.locals/\X.cX.heap.objs.size<=C/\(∀x c,X.env.cells.lookup x=some c->c≠C)/\(∀p∈X.pn++pins,p.1≠C)
theorem tE{pins:δ<|ε×Obj}{bN:ζ}{σ:St}{iz:Hp}{Q:VK}{it:ε}{fp:δ ε}{tn:π->Γ->η}{J:It}{E:ξ->ζ->η}(S:a_ X N src scope)(hc:X.calm=true) (hg:∀C s H ex pn,PG (fK X N scope C s H ex pn) tg g) (hx:Bh g src) (hi:∀C s H ex pn,R8 (fK X N scope C s H ex pn) ifs tc) (he:∀C s H ex pn,PE (fK X N scope C s H ex pn) elt te) (I:Inv X pins σ iz bN) (T:Turn X.prog X.w X.K tg J fp it tn) (st:tn 0 bN.heap) (ff:∀b∈fp,rQ X pins iz b) (W:π->π->δ V->Hp->η) (w0:∃m,W 0 m [] iz) (turn:∀i m out H',W i m out H'->(J.stop i H'/\∀D,H' D=none->Q (.ref D) (upd H' D<|.lst out))\/(J.go i H'/\out.length<sizeLine/\∀x H2,J.TF i H' x H2->g x (pick σ src) H2 λfC H3=>tc fC H3 λb H4=>if b=true then te fC H4 λv H5=>∃m',m'<m/\W (i+1) m' (out++[v]) H5 else ∃m',m'<m/\W (i+1) m' out H4)) {RR:ξ->ε->Result->ζ->η} (hRR:∀D C s',CompEnd X pins σ Q D C s'->RR (.ref D) C (.ok .next) s'): wpAny (model X.prog X.w) X.A (newList []) (λacc AV=>wpAny (model X.prog X.w) X.A (newFunctionEnv scope X.env.globals (clOf X.env.cells scope.names) [] X.env.qual none .none<|some X.env) (λUo wW=>codeAny (model X.prog X.w) X.A (.compStart (.ListComp elt [{tg,iter,ifs,0}] scope pos) 0 (.ref it) acc {Uo with scope:=relabel scope X.env}) (RR acc Uo.locals) wW) E AV) E bN:=by
 refine yH<|wpAny_newFunctionEnv S.fW (by intro y hy;simp at hy) (λh₁ uE pW=>?_) S.kind;dsimp only at uE pW⊢;generalize YT:bN.heap.push {cls:=.type "list",dict:=none,data:=.seq ([]:δ ξ).toArray}=G2 at uE pW⊢;have hC:G2.objs.size=bN.heap.objs.size+1:=by rw[<-YT,ya]
 have R_:bN.heap.objs.size≠G2.objs.size:=by rw[hC];exact zB<|yK _
 have KY:bN.heap.objs.size<=G2.objs.size:=by rw[hC];exact y4 _
 have old:∀b o,bN.heap.get? b=some o->h₁.get? b=some o:=λb o e=>pW.extBut b o (zB<|zt (zx e) KY)<|zb _<|YT ▸ zb _ e;have pX:h₁.get? bN.heap.objs.size=some {cls:=.type "list",dict:=none,data:=.seq ([]:δ ξ).toArray}:=pW.extBut _ _ R_<|zb _<|YT ▸ zi _ rfl;generalize hCC:G2.objs.size=C at hC R_ KY uE pW⊢;have kU:bN.heap.objs.size<=C:=KY;generalize hD:bN.heap.objs.size=D at hC R_ KY pX⊢;have ia:∀x c,(clOf X.env.cells scope.names).lookup x=some c->X.env.cells.lookup x=some c:=pV X.env.cells scope.names [] (by intro x c h;simp at h);have Hj:∀x c,X.env.cells.lookup x=some c->c<bN.heap.objs.size:=λx c e=>by obtain⟨v,q⟩:=I.cell x c e;exact q.lt
 have PC:∀b∈fp,b<bN.heap.objs.size:=λb hb=>by obtain⟨o,e,_⟩:=T.obj _ _ st b hb;exact zx e
 have ok:(fK X N scope C bN iz fp<|X.pn++pins).Ok:=by refine{I.ok.mod,S.kind,I.ok.glob,I.ok.blt,kU,λx y c h1 h2=>I.ok.inj x y c (ia _ _ h1)<|ia _ _ h2,λx hk=>?_,λx c h=>(nomatch h),I.ok.hd,I.ok.frames,.inl rfl,λb hb=>{?_,λx c h=>?_},I.bs,zG I.ok.Ke I.sz,λb o e hb=>?_,λb hb hf=>?_,I.stack,I.oQ};have hk:(relabel scope X.env).names.lookup x=some .cell\/(relabel scope X.env).names.lookup x=some .free:=hk;unfold relabel at hk;dsimp only at hk;rw[iM]at hk;(cases hl:scope.names.lookup x with|none=>(rw[hl]at hk;rcases hk with z|z<;>cases z)|some k=>rw[hl]at hk;have hm:=yu hl;have M9:k=.free:=(by by_cases M9:k=.free;exact M9;exfalso;have e1:(k==NameKind.free)=false:=(by simpa using M9);simp only[Option.map,e1,zX,yo,if_false]at hk;rcases hk with z|z;exact S.fW _ hm<|zS z;exact M9<|zS z);subst M9;obtain⟨c,KO⟩:=I.ok.has x<|S.AI _ hm rfl;exact{c,iL X.env.cells scope.names [] x c (by intro x c h;simp at h) hm KO});exact zB<|zt (PC b hb) kU;exact(ff b hb).2.2.2.2.1 x c<|ia _ _ h;have q:b∈X.ex\/X.cX.heap.objs.size<=b:=(ff b hb).2.2.2.1;rcases q with q|q;exact I.ok.Ox b o e q;exact absurd (zt (zx e)<|zG I.ok.Ke q)<|yG _;rcases zk.mp (I.mn b hf) with z|z;exact(ff b hb).2.1 z;exact(ff b hb).2.2.1 z
 have Up:∀p∈X.pn++pins,p.1∉mm X.stack:=λp hp z=>by obtain⟨_,_,ne,nf,_⟩:=I.pin p hp;rcases zk.mp (I.mn _ z) with q|q;exact ne q;exact nf q
 have Hk:∀p∈X.pn++pins,p.1<bN.heap.objs.size:=λp hp=>zx (I.pin p hp).1;have Uq:∀b∈mm X.stack,b<bN.heap.objs.size:=λb hb=>by rcases zk.mp (I.mn b hb) with z|z;rw[z];exact I.lt;obtain⟨_,o,ho,_⟩:=I.ok.ot.mem z;exact zt (zx ho) I.sz
 have YU:∀(i:π)(x:ρ)(v:V),N[i]?=some x->(pick σ src)[i]?=some (some v)->∃u c,RelV v u/\(clOf X.env.cells scope.names).lookup x=some c/\bN.heap.IsCell c (some u)/\scope.names.lookup x=some .free:=λi x v e1 e2=>by unfold pick at e2;rw[zp]at e2;cases es:src[i]? with|none=>(rw[es]at e2;cases e2)|some o=>rw[es]at e2;cases o with|none=>(cases e2)|some j=>have e3:(σ[j]?).join=some v:=zS e2;have e4:σ[j]?=some (some v):=(by cases q:σ[j]? with|none=>(rw[q]at e3;cases e3)|some z=>rw[q]at e3;exact congrArg some e3);obtain⟨a1,a2,a3⟩:=S.src i j x es e1;obtain⟨m0,_,hl⟩:=I.loc;obtain⟨u,r,l⟩:=hl j x v a1 e4 a3;have hm:=yu a2;have hk:=S.AI _ hm rfl;rcases l with⟨k,_⟩|⟨_,c,KO,z⟩;rcases hk with hk|hk<;>(rw[k]at hk;cases hk);exact{u,c,r,iL X.env.cells scope.names [] x c (by intro x c h;simp at h) hm KO,z,a2}
 have kinds:∀x,scope.names.lookup x=some .free->(compEnvC scope (clOf X.env.cells scope.names) C X.env).kindOf x=some .cell\/(compEnvC scope (clOf X.env.cells scope.names) C X.env).kindOf x=some .free:=λx hx=>by show(relabel scope X.env).names.lookup x=some .cell\/(relabel scope X.env).names.lookup x=some .free;unfold relabel;dsimp only;rw[iM,hx];dsimp only[Option.map];split;exact .inl rfl;exact .inr rfl
 have Ic:Inv (fK X N scope C bN iz fp<|X.pn++pins) [] (pick σ src) iz {bN with heap:=h₁,toks:=bN.toks+([]:δ (ρ×ξ)).length}:=by refine{ok,rfl,I.bare,Un.kept old,{_,uE,λi x v e1 e2 e3=>?_},λx c e=>?_,I.aI.fresh kU,λx c e=>I.fH x c<|ia x c e,λp hp=>?_,I.aI.kept old,?_};obtain⟨u,c,r,e5,⟨o,ho,hd⟩,hf⟩:=YU i x v e1 e2;exact{u,r,.inr {kinds x hf,c,e5,{o,old _ _ ho,hd}}};obtain⟨v,o,ho,hd⟩:=I.cell x c<|ia x c e;exact{v,o,old _ _ ho,hd};have hp:p∈X.pn++pins:=(by simpa [fK]using hp);obtain⟨e,n,_,_,d⟩:=I.pin p hp;exact{old _ _ e,n,zB<|zt (Hk p hp) kU,Up p hp,d};show(pick σ src).length=N.length;unfold pick;rw[za,S.len]
 have wX:bN.heap.objs.size<=D:=Nat.le_of_eq hD;have PD:D∉mm X.stack:=λz=>absurd (zt (Uq D z) wX)<|yG _;have M_:D∉fp:=λz=>absurd (zt (PC D z) wX)<|yG _;have mr:∀{pl:δ (ε×Obj)}{H':Hp},(∀b∈fp,H' b=none)->(∀p∈pl,p.1∉fp)->∀b∈fp,rQ (fK X N scope C bN iz fp<|X.pn++pins) pl H' b:=λ{pl H'} hn eJ b hb=>by obtain⟨f0,f1,f2,f3,f4,f5⟩:=ff b hb;refine{hn b hb,zB<|zt (PC b hb) kU,λz=>?_,.inl hb,λx c e=>f4 x c<|ia x c e,λp hp=>?_};rcases zk.mp (I.mn b z) with q|q;exact f1 q;exact f2 q;have hp:p∈(X.pn++pins)++pl:=hp;rcases zN.mp hp with hp|hp;exact f5 p hp;exact λz=>eJ p hp<|z ▸ hb
 have back:∀{s':ζ}{H':Hp}{out:δ V}{ar:δ ξ}{nn:π}{ax:St},Inv (fK X N scope C bN iz fp<|X.pn++pins) [] ax H' s'->H' D=none->out.length<=sizeLine->Vals out ar->s'.heap.get? D=some {cls:=.type "list",data:=.seq ar.toArray nn}->(∀D,H' D=none->Q (.ref D) (upd H' D<|.lst out))->CompEnd X pins σ Q D C s':=λ{s' H' out ar nn ax} I' hn hl hv ho q=>by obtain⟨m,hm,_⟩:=I'.loc;have un:Un (mm X.stack) fp iz H' bN.heap s'.heap:=I'.base;have neD:∀b o,bN.heap.get? b=some o->b≠D:=λb o e=>zB<|zt (zx e) wX;have fD:iz D=none:=I.aI.fresh wX;refine{upd H' D<|.lst out,m,?_,q D hn,hm,by rw[av<|Ne.symm R_];exact I'.free,yA<|zt I.lt kU,zG I.sz kU,λx c e=>zB<|zt (Hj x c e) kU,λp hp=>zB<|zt (Hk p hp) kU};refine I.Tr (ch:=fp) I'.os {un.keep,un.slot,λb o e n hb=>?_,un.there,λb xs e=>?_,λb o u e=>?_,λb ps e=>?_} (λb o e=>?_) I'.bare λb hb=>?_;rw[av<|neD b o e];exact un.free b o e n hb;rw[av<|aC e fD];exact un.kO b xs e;rw[av<|aC e fD];exact un.j8 b o u e;rw[av<|aC e fD];exact un.j9 b ps e;by_cases hb:b=D;subst hb;rw[aB]at e;cases e;exact⟨hl,ar,nn,hv,ho⟩;rw[av hb]at e;refine(I'.aI b o e).oq (λc v _ q=>q) (λc q=>?_) λc xs q=>?_;rw[av<|aC q hn];exact q;rw[av<|aC q hn];exact q;obtain⟨f0,f1,f2,f3,f4,f5⟩:=ff b hb;exact⟨f3,f1,f4,f5⟩
 obtain⟨m0,w0⟩:=w0;have loop:∀wW:ζ,wW={bN with heap:=h₁,toks:=bN.toks+([]:δ (ρ×ξ)).length}->codeAny (model X.prog X.w) X.A (.compLoop (.ListComp elt [{tg,iter,ifs,0}] scope pos) 0 (.ref it) (.ref D)<|compEnvC scope (clOf X.env.cells scope.names) C X.env) (RR (.ref D) C) wW:=by rintro wW rfl;refine jC (EE:=λ_ _=>False) (λ_ _ f=>f.elim) (λn s'=>∃i out ar nn H',Inv (fK X N scope C bN iz fp<|X.pn++pins) [] (pick σ src) H' s'/\H' D=none/\out.length<=sizeLine/\Vals out ar/\s'.heap.get? D=some {cls:=.type "list",data:=.seq ar.toArray nn}/\tn i s'.heap/\(∀b∈fp,H' b=none)/\W i n out H') ?_ m0 {0,[],[],0,iz,Ic,I.aI.fresh wX,zY _,.nil,pX,T.keep _ _ _ st λb hb o e=>old b o e,λb hb=>(ff b hb).1,w0};rintro n s3 ⟨i,out,ar,nn,H3,I3,hD3,YV,W_,ho3,Gu,TK,w3⟩;have PF:∀(ar:δ ξ) (nn:π) (v:θ ξ),({cls:=.type "list",data:=.seq ar.toArray nn} : Obj).data≠.cell v:=λ_ _ _ z=>nomatch z;have I3p:Inv (fK X N scope C bN iz fp<|X.pn++pins) [(D,{cls:=.type "list",data:=.seq ar.toArray nn})] (pick σ src) H3 s3:=I3.kP λp hp=>(by have e:p=(D,{cls:=.type "list",data:=.seq ar.toArray nn}):=(by simpa using hp);subst e;exact{ho3,hD3,R_,PD,PF ar nn});have YW:∀p∈[((D,{cls:=.type "list",data:=.seq ar.toArray nn}):ε×Obj)],p.1∉fp:=λp hp=>(by have e:p=(D,{cls:=.type "list",data:=.seq ar.toArray nn}):=(by simpa using hp);subst e;exact M_);rcases turn i n out H3 w3 with⟨stop,qn⟩|⟨go,dr,step⟩;refine bj (T.done (fK X N scope C bN iz fp<|X.pn++pins) rfl rfl rfl hc i _ s3 _ H3 _ I3p (mr TK YW) Gu stop) λr s4 ⟨hr,I4⟩=>?_;subst hr;have p4:=(I4.pin (D,{cls:=.type "list",data:=.seq ar.toArray nn})<|zC _<|by simp).1;exact hRR D C s4<|back (I4.kP (pins':=[]) λp hp=>nomatch hp) hD3 YV W_ p4 qn;refine bj (T.item (fK X N scope C bN iz fp<|X.pn++pins) rfl rfl rfl hc i _ s3 _ H3 _ I3p (mr TK YW) Gu go) λr s4 ⟨u,hr,h4⟩=>?_;subst hr;refine bj h4 λ_ s5 ⟨x,H5,I5,r5,y5,sU,fr5⟩=>?_;have Yo:=I5.pinned (mr fr5 YW)<|T.obj _ _ sU;refine bj (hg _ _ _ _ _ _ s5 _ H5 x u _ Yo r5<|hx x σ H5 _<|step x H5 y5) λ_ s6 ⟨TL,H6,I6,e6,q6⟩=>?_;have fin:∀{s7:ζ}{H7:Hp},Inv (fK X N scope C bN iz fp<|X.pn++pins) ([(D,{cls:=.type "list",data:=.seq ar.toArray nn})]++pN fp s5.heap) TL H7 s7->Inv (fK X N scope C bN iz fp<|X.pn++pins) [] (pick σ src) H7 s7/\H7 D=none/\s7.heap.get? D=some {cls:=.type "list",data:=.seq ar.toArray nn}/\tn (i+1) s7.heap/\∀b∈fp,H7 b=none:=λ{s7 H7} I7=>(by have pD:=I7.pin (D,{cls:=.type "list",data:=.seq ar.toArray nn})<|zC _ (by simp);refine{(I7.kP (pins':=[]) λp hp=>nomatch hp).weak e6.1.symm e6.2,pD.2.1,pD.1,T.keep _ _ _ sU λb hb o e=>(I7.pin (b,o)<|zC _<|zC _<|gD hb e).1,λb hb=>?_};obtain⟨o,e,d⟩:=T.obj _ _ sU b hb;exact(I7.pin (b,o)<|zC _<|zC _<|gD hb e).2.1);refine bj (hi _ _ _ _ _ _ s6 TL H6 _ I6 q6) λb s7 ⟨H7,I7,q7⟩=>?_;cases b with|false=>(rw[xz zd]at q7⊢;obtain⟨m',hm,w7⟩:=q7;obtain⟨J7,d7,o7,t7,f7⟩:=fin I7;exact{m',hm,i+1,out,ar,nn,H7,J7,d7,YV,W_,o7,t7,f7,w7})|true=>rw[xL rfl]at q7⊢;refine bj (he _ _ _ _ _ _ s7 TL H7 _ I7 q7) λv s8 ⟨y,H8,I8,r8,m',hm,w8⟩=>?_;obtain⟨J8,d8,o8,t8,f8⟩:=fin I8;have hsz:ar.toArray.size<=sizeLine:=(by rw[zr,<-W_.length];exact YV);refine wpAny_list_append_plain (items:=ar.toArray) (hsz:=hsz) ⟨nn,o8⟩ λh9 ⟨n9,e9⟩ sb=>?_;have J9:Inv (fK X N scope C bN iz fp<|X.pn++pins) [] (pick σ src) H8 {s8 with heap:=h9}:=J8.turned (t':=s8.toks) (it:=D) (λb o hb e=>(sb.2 b hb).trans e) d8 R_ (.inr wX) (λx c e=>zB<|zt (Hj x c<|ia x c e) wX) λp hp=>(by have hp:p∈X.pn++pins:=(by simpa [fK]using hp);exact zB<|zt (Hk p hp) wX);refine{m',hm,i+1,out++[y],ar++[v],n9,H8,J9,d8,?_,W_.append<|.cons r8 .nil,?_,T.keep _ _ _ t8 λb hb o e=>(sb.2 b λz=>M_<|z ▸ hb).trans e,f8,w8};rw[zA];exact dr;rw[e9];simp
 exact codeAny_compStart_list (loop _ rfl)<|T.self _ _ _ _ _ (T.keep _ _ _ st λb hb o e=>old b o e)<|loop _ rfl
theorem KZ(S:a_ X N src scope)(hc:X.calm=true)(hit:PI X tg iter wi) (hg:∀C s H ex pn,PG (fK X N scope C s H ex pn) tg g) (hx:Bh g src) (hi:∀C s H ex pn,R8 (fK X N scope C s H ex pn) ifs tc) (he:∀C s H ex pn,PE (fK X N scope C s H ex pn) elt te) (hs:ψ (∀x,foldedSetIterable iter X.env x=pure x) qQ0):PE X (.ListComp elt [{tg,iter,ifs,0}] scope pos) (Hi wi src g tc te):=by intro pins s σ H Q I h;rw[eval_ListComp];have Bi:closureFor scope X.env=pure (clOf X.env.cells scope.names):=fV λy hy hf=>I.ok.has y.1<|S.AI y hy hf;refine wpAny_comprehension_free (use:=none) rfl hs Bi S.kind S.loc<|bj (hit pins s σ H _ I h) λv s1 h1=>bj h1 λW0 s2 h2=>?_;obtain⟨it,fp,tn,J,H2,e,I2,T,AH,f2,W,w0,turn⟩:=h2;subst e;refine tE (RR:=λacc C=>compPost (model X.prog X.w) X.A X.xe none (EP X pins σ Q) acc C) S hc hg hx hi he I2 T AH f2 W w0 turn λD C s' ⟨H',m,I',q,hm,hn,h1,h2,h3,h4⟩=>?_;exact{m,hm,λh' sb=>{.ref D,H',I'.turned (t':=s'.toks) (it:=C) (λb o hb e=>(sb.2 b hb).trans e) hn h1 (.inr h2) h3 h4,rfl,q}}
theorem Bj{i:π}{x:ρ}{pos' E9:Pos}(hN:X.N.Nodup)(Ur:X.N[i]?=some x)(Bk:X.env.scope.names.lookup x=some .local) (S:a_ X N src scope) (hc:X.calm=true) (hit:PI X tg iter wi) (hg:∀C s H ex pn,PG (fK X N scope C s H ex pn) tg g) (hx:Bh g src) (hi:∀C s H ex pn,R8 (fK X N scope C s H ex pn) ifs tc) (he:∀C s H ex pn,PE (fK X N scope C s H ex pn) elt te) (Us:ψ (swapsWith (.ListComp elt [{tg,iter,ifs,0}] scope pos) (some<|.Name x pos') E9.line X.env=pure true) qQJ) (hs:ψ (∀x,foldedSetIterable iter X.env x=pure x) qQ0):PS X (.Assign [.Name x pos'] (.ListComp elt [{tg,iter,ifs,0}] scope pos) E9) (OP (Hi wi src g tc te)<|h_ i):=by
 intro pins s σ H D I h;rw[exec_Assign_Name_used _ _ _ _ Us];refine zc<|wpAny_standAt<|zc ?_;have Bi:closureFor scope X.env=pure (clOf X.env.cells scope.names):=fV λy hy hf=>I.ok.has y.1<|S.AI y hy hf;show wpAny _ X.A (do let _ <-comprehension (.ListComp elt [⟨tg,iter,ifs,0⟩] scope pos) scope X.env _ (newList []) false (eval iter X.env) (some (assign (.Name x pos') X.env))) _ _ s;refine zc<|yM (wpAny_comprehension_free (use:=some<|assign (.Name x pos') X.env) (Q:=λ_ s'=>∃ax H',Inv X pins ax H' s'/\D.nx ax H') rfl hs Bi S.kind S.loc<|bj (hit pins s σ H _ I h) λv s1 h1=>bj h1 λW0 s2 h2=>?_) (λ_ s' hq=>zo<|zo hq) λ_ _ e=>e;obtain⟨it,fp,tn,J,H2,e,I2,T,AH,f2,W,w0,turn⟩:=h2;subst e;refine tE (Q:=λv H1=>D.nx (σ.set i<|some v) H1) (RR:=λacc C=>compPost (model X.prog X.w) X.A X.xe (some<|assign (.Name x pos') X.env) (λ_ s'=>∃ax H',Inv X pins ax H' s'/\D.nx ax H') acc C) S hc hg hx hi he I2 T AH f2 W w0 turn λD' C s' ⟨H',m,I',q,hm,hn,h1,h2,h3,h4⟩=>?_;show wpAny _ X.A (assign (.Name x pos') X.env<|.ref D') _ _ _;refine wpAny_assign_Name<|sT I' hN Ur (.inl Bk) (v:=.ref D') rfl (λA9 I'' ⟨a,sb,ha⟩=>?_)<|.inr Bk;have hCa:C≠a:=by rcases ha with ha|ha;rw[ha];exact h1;exact Ne.symm<|h3 _ _ ha
 refine{m,hm.sameBut sb hCa,λh'' JZ=>{_,H',I''.turned (t':=A9.toks) (it:=C) (λb o hb e=>(JZ.2 b hb).trans e) hn h1 (.inr h2) h3 h4,q}}
end
theorem mz{σ:St}{src:δ<|θ π}{i:π}(h:src[i]?=some none):(pick σ src)[i]?=some none:=by unfold pick;rw[zp,h];rfl
theorem Ext.set(h:σ0[i]?=some none)(e:Ext σ0 σ):Ext σ0 (σ.set i<|some v):=by
 refine{by rw[List.length_set];exact e.1,λj w hj=>?_};have:i≠j:=by rintro rfl;rw[h]at hj;cases hj
 rw[List.getElem?_set_ne this];exact e.2 j w hj
theorem Ext.refl(σ:St):Ext σ σ:={rfl,λ_ _ h=>h}
theorem Dg{src:δ<|θ π}{i:π}(h:src[i]?=some none):Bh (h_ i) src:=λx σ H Q q=>{(Ext.refl _).set<|mz h,q}
theorem oX{K:Φ}{n:π}{src:δ<|θ π}{i j:π}(h:src[i]?=some none)(h':src[j]?=some none):Bh (Kl K n<|pK (h_ i)<|pK (h_ j) Kk) src:=λx σ H Q q=>by obtain⟨a,xs,e1,hs,hl,v,r,e2,v2,r2,e3,e4,q⟩:=q;exact{a,xs,e1,hs,hl,v,r,e2,v2,r2,e3,e4,((Ext.refl _).set<|mz h).set<|mz h',q}
theorem all_bools{xs:δ V}{ar:δ ξ}{bs:δ χ}(hv:Vals xs ar)(hb:xs=bs.map V.bl):∀(i:π)(v:ξ),ar.toArray[i]?=some v->v=Value.bool ((bs[i]?).getD false):=by
 subst hb;intro i v h;have h':ar[i]?=some v:=by simpa using h
 have hl:=hv.length;rw[za]at hl;have hi:i<ar.length:=(ze.mp h').1;have hb:bs[i]?=some (bs[i]'(by lia)):=by simp
 obtain⟨u,hu,r⟩:=hv.get (i:=i) (x:=V.bl<|bs[i]'(by lia)) (by rw[zp,hb];rfl);rw[h']at hu;cases hu;rw[hb];exact r
theorem range_all{bs:δ χ} : (List.range bs.length).all (λi=>(bs[i]?).getD false)=bs.all id:=by rw[yq,zZ,zZ];constructor;intro h b hb;obtain⟨i,hi,rfl⟩:=List.mem_iff_getElem.mp hb;have:=h i<|zU.mpr hi;simpa [hi]using this;intro h i hi;have hi:=zU.mp hi;simpa [hi]using h _ (List.getElem_mem hi)
theorem range_any{bs:δ χ} : (List.range bs.length).any (λi=>(bs[i]?).getD false)=bs.any id:=by rw[yq,yx,yx];constructor;rintro⟨i,hi,h⟩;have hi:=zU.mp hi;exact{bs[i],List.getElem_mem hi,by simpa [hi]using h};rintro⟨b,hb,h⟩;obtain⟨i,hi,rfl⟩:=List.mem_iff_getElem.mp hb;exact{i,zU.mpr hi,by simpa [hi]using h}
section
variable{X:Cx}
theorem rV(hc:X.calm=true):eI X (.builtin "all") (λxs H Q=>∃(a:ε)(bs:δ χ),xs=[.ref a]/\iu X.K H a (bs.map V.bl)/\Q (.bl<|bs.all id) H):=by
 intro pins s σ H xs us Q I r h;obtain⟨a,bs,rfl,hq,q⟩:=h;obtain⟨u,rfl,ru⟩:=vals1 r;cases ru;obtain⟨ar,rv,p,hz⟩:=I.list hq;have hl:=rv.length;rw[za]at hl;refine call_all_walk<|wpAny_pyIter_list p.isList ?_;refine{s.heap.objs.size,_,_,_,_,_,λi=>(bs[i]?).getD false,rfl,Walks.list (A:=X.A.in1) (I.ok.hd hc) s.heap.objs.size a (zB p.lt) ar.toArray,{{_,zi _ rfl,rfl,rfl},p.isList.at λo e=>zb _ e},?_,λh' tk hk=>?_};intro i v s' Q' E' hv hQ;rw[all_bools rv rfl i v hv];exact yC hQ;have e:ar.toArray.size=bs.length:=by rw[zr,<-hl]
 rw[e,range_all];exact{.bl<|bs.all id,H,I.kept (h':=h') (t':=tk) λb o e=>hk b o (by simpa using zB (zx e))<|zb _ e,rfl,q}
theorem rW(hc:X.calm=true):eI X (.builtin "any") (λxs H Q=>∃(a:ε)(bs:δ χ),xs=[.ref a]/\iu X.K H a (bs.map V.bl)/\Q (.bl<|bs.any id) H):=by
 intro pins s σ H xs us Q I r h;obtain⟨a,bs,rfl,hq,q⟩:=h;obtain⟨u,rfl,ru⟩:=vals1 r;cases ru;obtain⟨ar,rv,p,hz⟩:=I.list hq;have hl:=rv.length;rw[za]at hl;refine call_any_walk<|wpAny_pyIter_list p.isList ?_;refine{s.heap.objs.size,_,_,_,_,_,λi=>(bs[i]?).getD false,rfl,Walks.list (A:=X.A.in1) (I.ok.hd hc) s.heap.objs.size a (zB p.lt) ar.toArray,{{_,zi _ rfl,rfl,rfl},p.isList.at λo e=>zb _ e},?_,λh' tk hk=>?_};intro i v s' Q' E' hv hQ;rw[all_bools rv rfl i v hv];exact yC hQ;have e:ar.toArray.size=bs.length:=by rw[zr,<-hl]
 rw[e,range_any];exact{.bl<|bs.any id,H,I.kept (h':=h') (t':=tk) λb o e=>hk b o (by simpa using zB (zx e))<|zb _ e,rfl,q}
end
noncomputable def ownOf:HO->θ ε|.ins _ dx _=>some dx|.jA _ u=>ownOf u|_=>none
structure Fg(H H' G:Hp):η where
 sub:∀b o,G b=some o->H' b=some o
 dom:∀b o,H b=some o->∃o',G b=some o'
 own:∀a o dx,G a=some o->ownOf o=some dx->(∃o',H a=some o'/\ownOf o'=some dx)\/∃o',G dx=some o'
theorem aH:bootBuiltins "len"= some (.builtin "len"):=PySem.boot_len
theorem fX:bootBuiltins "all"= some (.builtin "all"):=boot_all
theorem Hl:bootBuiltins "any"= some (.builtin "any"):=boot_any
theorem ay:bootBuiltins "isinstance"= some (.builtin "isinstance"):=boot_isinstance
theorem uF:bootBuiltins "int"= some (.type "int"):=PyProof.Rows.boot_int
theorem K0:bootBuiltins "bool"= some (.type "bool"):=PyProof.Rows.boot_bool
theorem j_:bootBuiltins "str"= some (.type "str"):=PyProof.Rows.boot_str
theorem bu:bootBuiltins "tuple"= some (.type "tuple"):=PyProof.Rows.boot_tuple
theorem K1:bootBuiltins "list"= some (.type "list"):=PyProof.Rows.boot_list
theorem uG:bootBuiltins "dict"= some (.type "dict"):=PyProof.Rows.boot_dict
theorem PH:bootBuiltins "set"= some (.type "set"):=PyProof.Rows.boot_set
set_option genInjectivity true in
set_option genSizeOfSpec true in
inductive Kd where
 |au|bl|int|str|lst|tup|bG
 deriving DecidableEq
noncomputable def Kd.name:Kd->String|.au=>"NoneType" |.bl=>"bool" |.int=>"int" |.str=>"str" |.lst=>"list" |.tup=>"tuple" |.bG=>"dict"
inductive pY (H:Hp):V->Kd->η where
 |au:pY H .au .au
 |bl (b:χ):pY H (.bl b) .bl
 |int (i:ν):pY H (.int i) .int
 |str (x:ρ):pY H (.str x) .str
 |lst {a:ε}{xs:δ V} (e:H a=some (.lst xs)):pY H (.ref a) .lst
 |tup {a:ε}{xs:δ V} (e:H a=some (.tup xs)):pY H (.ref a) .tup
 |bG {a:ε}{kvs:δ<|Key×V} (e:H a=some (.dK kvs)):pY H (.ref a) .bG
theorem pY.ty{K:Φ}{H:Hp}{x:V}{k:Kd}(h:pY H x k):mw K H x (.type k.name):=by cases h with|au=>exact .au|bl b=>exact .bl b|int i=>exact .int i|str x=>exact .str x|lst e=>exact .lst e|tup e=>exact .tup e|bG e=>exact .dK e
noncomputable def wY(T:String):θ (Kd->χ):=if T ="int" then some λk=>match k with|.int=>true|.bl=>true|_=>false else if T ="bool" then some λk=>match k with|.bl=>true|_=>false else if T ="str" then some λk=>match k with|.str=>true|_=>false else if T ="tuple" then some λk=>match k with|.tup=>true|_=>false else if T ="list" then some λk=>match k with|.lst=>true|_=>false else if T ="dict" then some λk=>match k with|.bG=>true|_=>false else none
theorem Hm{K:Φ}{T:String}{g:Kd->χ}(h:wY T=some g)(k:Kd):kitOne K (.type k.name) (.type T)=some (g k):=by unfold wY at h;split at h;rename_i e;subst e;cases h;cases k<;>rfl;split at h;rename_i e;subst e;cases h;cases k<;>rfl;split at h;rename_i e;subst e;cases h;cases k<;>rfl;split at h;rename_i e;subst e;cases h;cases k<;>rfl;split at h;rename_i e;subst e;cases h;cases k<;>rfl;split at h;rename_i e;subst e;cases h;cases k<;>rfl;cases h
section
variable{X:Cx}
theorem Hn:eI X (.builtin "isinstance") (λxs H Q=>∃x T k g,xs=[x,.ty T]/\wY T=some g/\pY H x k/\Q (.bl<|g k) H):=by intro pins s σ H xs us Q I r h;obtain⟨x,T,k,g,rfl,hg,hk,q⟩:=h;obtain⟨v,w',rfl,rv,ou⟩:=vals2 r;cases ou;exact ES I rv hk.ty (Hm hg k) λtk=>{.bl<|g k,H,I.tok tk,rfl,q}
end
mutual
def Dt(K:Φ)(H:Hp):PyData->V->η|.none,v=>v=.au|.bool b,v=>v=.bl b|.int i,v=>v=.int i|.str z,v=>v=.str z|.list ds,v=>∃a xs,v=.ref a/\iu K H a xs/\DtAll K H ds xs|.tuple ds,v=>∃a xs,v=.ref a/\hW K H a xs/\DtAll K H ds xs|.dict _,_=>False
def DtAll(K:Φ)(H:Hp):δ PyData->δ V->η|[],xs=>xs=[]|d::ds,xs=>∃y ys,xs=y::ys/\Dt K H d y/\DtAll K H ds ys
end
section
variable{X:Cx}{pins:δ (ε×Obj)}{σ:St}{H:Hp}{s:ζ}
mutual
theorem Inv.reads(I:Inv X pins σ H s):∀(d:PyData){x:V}{u:ξ},Dt X.K H d x->RelV x u->∃as,Reads s.heap u d as
 |.none,x,u,h,r=>by
  have h:x=.au:=by simpa only[Dt]using h
  subst h;cases r;exact{_,.none}
 |.bool b,x,u,h,r=>by
  have h:x=.bl b:=by simpa only[Dt]using h
  subst h;cases r;exact{_,.bool b}
 |.int i,x,u,h,r=>by
  have h:x=.int i:=by simpa only[Dt]using h
  subst h;obtain⟨t,rfl⟩:=r;exact{_,.int i t}
 |.str z,x,u,h,r=>by
  have h:x=.str z:=by simpa only[Dt]using h
  subst h;obtain⟨t,rfl⟩:=r;exact{_,.str z t}
 |.list ds,x,u,h,r=>by
  have h:∃a xs,x=.ref a/\iu X.K H a xs/\DtAll X.K H ds xs:=by simpa only[Dt]using h
  obtain⟨a,xs,rfl,hq,hd⟩:=h;cases r;obtain⟨ar,rv,p,_⟩:=I.list hq;obtain⟨as,ra⟩:=Inv.readsAll I ds hd rv;obtain⟨o,e,c,n,d⟩:=p.isList;exact{_,.list e c d<|by simpa using ra}
 |.tuple ds,x,u,h,r=>by
  have h:∃a xs,x=.ref a/\hW X.K H a xs/\DtAll X.K H ds xs:=by simpa only[Dt]using h
  obtain⟨a,xs,rfl,hq,hd⟩:=h;cases r;obtain⟨ar,rv,p,_⟩:=I.tuple hq;obtain⟨as,ra⟩:=Inv.readsAll I ds hd rv;obtain⟨o,e,c,n,d⟩:=p;exact{_,.tuple e c d<|by simpa using ra}
 |.dict _,x,u,h,r=>by
  have h:False:=by simpa only[Dt]using h
  exact h.elim
theorem Inv.readsAll(I:Inv X pins σ H s):∀(ds:δ PyData){xs:δ V}{us:δ ξ},DtAll X.K H ds xs->Vals xs us->∃as,ReadsAll s.heap us ds as
 |[],xs,us,h,r=>by
  have h:xs=[]:=by simpa only[DtAll]using h
  subst h;cases r;exact{_,.nil}
 |d::ds,xs,us,h,r=>by
  have h:∃y ys,xs=y::ys/\Dt X.K H d y/\DtAll X.K H ds ys:=by simpa only[DtAll]using h
  obtain⟨y,ys,rfl,h1,h2⟩:=h;cases r with|cons r1 r2=>obtain⟨as,ra⟩:=Inv.reads I d h1 r1;obtain⟨bs,rb⟩:=Inv.readsAll I ds h2 r2;exact{_,.cons ra rb}
end
end
def Ut(K:Φ)(neg:χ):R2:=λx y H Q=>∃d e,Dt K H d x/\Dt K H e y/\d.canLay0=true/\e.canLay0=true/\(d.depth<=64\/e.depth<=64)/\Q (.bl<|if neg then !PyData.eqv d e else PyData.eqv d e) H
section
variable{X:Cx}
theorem PJ(hu:X.A.units+64<cLine):gE X (compareOp .Eq) (Ut X.K false):=by intro pins s σ H x y v u Q I rx ry h;obtain⟨d,e,hd,he,cd,ce,dp,q⟩:=h;obtain⟨as,ra⟩:=I.reads d hd rx;obtain⟨bs,rb⟩:=I.reads e he ry;exact SeqAt.compareEq_reads ra rb cd ce (by rcases dp with dp|dp<;>lia)<|aF I q rfl
theorem PK(hu:X.A.units+64<cLine):gE X (compareOp .NotEq) (Ut X.K true):=by intro pins s σ H x y v u Q I rx ry h;obtain⟨d,e,hd,he,cd,ce,dp,q⟩:=h;obtain⟨as,ra⟩:=I.reads d hd rx;obtain⟨bs,rb⟩:=I.reads e he ry;exact SeqAt.compareNe_reads ra rb cd ce (by rcases dp with dp|dp<;>lia)<|aF I q rfl
end
theorem jr(a b:π):Gw ⟨#[a]⟩ ⟨#[b]⟩=ω (a<=b):=by
 unfold Gw;have e:([b]<[a])↔b<a:=by rw[List.cons_lt_cons_iff];constructor;rintro (h|⟨_,h⟩);exact h;exact absurd h<|List.not_lt_nil _;exact .inl
 rw[yq];show(!decide ([b]<[a]))=true↔_;rw[Bool.not_eq_true',yw,e,decide_eq_true_iff];lia
def chkC(sc:Scope)(N0 N:δ ρ)(src:δ<|θ π)(scope:Scope):Bool :=
 ω (scope.kind=.function)&&(scope.names.all (λy=>ω (y.2≠.cell)&&(ω (y.2≠.local)||ω (scope.names.lookup y.1=some .local))&&(ω (y.2≠.free)||(ω (sc.names.lookup y.1=some .cell)||ω (sc.names.lookup y.1=some .free)))) &&
  (ω (src.length=N.length)&&(List.range src.length).all λi=>match src[i]?,N[i]? with
   |some (some j),some x=>ω (N0[j]?=some x)&&(ω (scope.names.lookup x=some .free)&&(ω (sc.names.lookup x=some .cell)||ω (sc.names.lookup x=some .free)))
   |_,_=>true))
theorem Uu(sc:Scope)(N0:δ ρ)(hs:X.env.scope=sc)(hN:X.N=N0)(h:chkC sc N0 N src scope=true):a_ X N src scope:=by unfold chkC at h;simp only[zJ,zK,zZ,yS]at h;obtain⟨h1,h2,h3,h4⟩:=h;refine{h1,λy hy=>(h2 y hy).1.1,λy hy e=>?_,λy hy e=>?_,h3,λi j x e1 e2=>?_};rcases (h2 y hy).1.2 with z|z;exact absurd e z;exact z;rcases (h2 y hy).2 with z|z;exact absurd e z;show X.env.scope.names.lookup y.1=some .cell\/X.env.scope.names.lookup y.1=some .free;rw[hs];exact z;have hi:i<src.length:=(ze.mp e1).1;have q:=h4 i<|zU.mpr hi;rw[e1,e2]at q;simp only[zJ,zK,yS]at q;refine{by rw[hN];exact q.1,q.2.1,?_};unfold Ov;rw[hs];exact .inr q.2.2
theorem oY(h0:0<=i)(h1:i<l.length):∃v,iK l i=some v/\l[i.toNat]?=some v:=by
 obtain⟨j,rfl⟩:=Int.eq_ofNat_of_zero_le h0;have hj:j<l.length:=by lia
 exact{l[j],bE<|by simp[hj],by simp[hj]}
theorem bQ{c:χ}{A B:η}(h:c=true->A)(h':c=false->B):if c=true then A else B:=by cases c with|true=>exact h rfl|false=>exact h' rfl
theorem nt(h:(!b)=true):b=false:=by cases b<;>simp_all
theorem nf(h:(!b)=false):b=true:=by cases b<;>simp_all
noncomputable def Bl:Kd->χ|.int=>true|.bl=>true|_=>false
noncomputable def uH:Kd->χ|.bl=>true|_=>false
noncomputable def Bn:Kd->χ|.str=>true|_=>false
noncomputable def pZ:Kd->χ|.tup=>true|_=>false
theorem K2:wY "int"= some Bl:=xL rfl
theorem Ho:wY "bool"= some uH:=(xz<|by decide).trans<|xL rfl
theorem cS:wY "str"= some Bn:=(xz<|by decide).trans<|(xz<|by decide).trans<|xL rfl
theorem bq:wY "tuple"= some pZ:=(xz<|by decide).trans<|(xz<|by decide).trans<|(xz<|by decide).trans<|xL rfl
theorem len_pos{z:ρ}(h:1<=z.cps.size):∃c r,z.cps.toList=c::r:=by cases e:z.cps.toList with|nil=>have:z.cps.toList.length=0:=(by rw[e];rfl);rw[zT]at this;lia|cons c r=>exact⟨c,r,rfl⟩
theorem at0(e:l=c::r):iK l 0=some c:=by
 have:l[0]?=some c:=by rw[e];rfl
 exact bE (j:=0) this
def isPlain:Δ->χ|.Starred _ _=>false|_=>true
theorem Bo(h:isPlain e=true):starEach (e::es) env=(false,eval e env)::starEach es env:=by cases e<;>first|rfl|exact absurd h zd
theorem YX{t:TA}(ha:PE X e te)(hr:PA X es t)(hp:ψ (isPlain e=true) qQJ):PA X (e::es) (M0 te t):=Kx ha hr<|Bo hp
end L2
namespace HT
open PySem PyProof.Rows
open PySem.SeqAt
open PySem.AutoSeq1 (wpAny_loadPart')
open PySem.MeetsSeq PySem.MeetsSeq2 PySem.MeetsSeq3
end HT
namespace L2
open PySem PySem.Spec PyProof.Rows
def Hq(c:ξ)(e:ε)(h:Γ):Prop:=∃o vs,h.get? e=some o/\o.data=.fields vs/\vs[2]?=some c
section
variable{M:Model}{A:ϕ}{E:ξ->ζ->η}{s:ζ}{base:Γ}{env:Env}{outer:δ Env}{L e:ε}{a0 c fl:ξ}
theorem Uv(wx:A.frames=some (env::outer))(hl:s.heap.FunFrames base<|env::outer)(hf:env.frame=some L) (he:s.heap.get? e=some oe) (Gx:base.StaysIn s.heap) (AJ:base.get? e=none) (hd:oe.data=.fields vs) (h0:vs[0]?=some a0) (h2:vs[2]?=some c) (h:∀h',Heap.NotedW base (env::outer) e oe.cls a0 (rawInt L) s.heap h'->Hq c e h'->Q () {s with heap:=h'}): wpAny M A (do let x <-frameOf env;let y <-entryPlaceOf L nx;let z <-EntryCells.newEntry head x .none (rawInt L) .none y;setField (.ref e) 1 z) Q E s:=by
 have hsz:1<vs.size:=by have:=(Array.getElem?_eq_some_iff.mp h2).1;lia
 have nfr:e∉(env::outer).filterMap (·.frame):=λm=>by obtain⟨_,o,q,n⟩:=hl.mem m;rw[he]at q;cases q;exact n vs hd
 refine zc<|wpAny_frameOf_fun wx hl hf λg sg=>?_;refine zc<|wpAny_entryPlaceOf λpl eJ=>?_;unfold EntryCells.newEntry newFields;refine zc<|yH ?_<|eJ.sizeOk5 _ _ _ _ _;have g1:g.get? e=some oe:=(sg.2.1 e nfr).trans he;have kg:base.StaysIn g:=λb o q=>(sg.2.1 b λm=>by rw[(hl.mem m).1]at q;cases q).trans<|Gx b o q;have t3:((([head,.ref L,.none,rawInt L,.none]++(if pl.isEmpty then List.replicate 6 Value.none else pl)).toArray:Array ξ))[3]?=some (rawInt L):=by rcases eJ with rfl|⟨_,_,_,_,_,_,_,rfl⟩<;>simp
 generalize htb:(([head,.ref L,.none,rawInt L,.none]++(if pl.isEmpty then List.replicate 6 Value.none else pl)).toArray:Array ξ)=ts at t3;have g2:=zb (h:=g) {cls:=.type "traceback",dict:=none,data:=.fields ts} g1;refine yU g2 hd hsz<|h _ ?_ ?_;have ne:g.objs.size≠e:=yA<|zx g1;have d3:=yF hd (·.setIfInBounds 1 (Value.ref g.objs.size));have e3:=yz (Obj.mapFields (·.setIfInBounds 1 (Value.ref g.objs.size))) g2<|Obj.isFreed_of_fields d3;have T3:=(yB (g.push {cls:=.type "traceback",dict:=none,data:=.fields ts}) (Obj.mapFields (·.setIfInBounds 1 (Value.ref g.objs.size)))<|Ne.symm ne).trans<|zi g rfl;have keep:∀b o,b≠e->g.get? b=some o->((g.push {cls:=.type "traceback",dict:=none,data:=.fields ts}).update e (Obj.mapFields (·.setIfInBounds 1 (Value.ref g.objs.size)))).get? b=some o:=λb o n q=>by rw[yB _ _<|Ne.symm n];exact zb _ q
 have wZ:∀b o,s.heap.get? b=some o->(∀vs,o.data≠.fields vs)->b≠e:=λb o q n z=>by rw[z,he]at q;cases q;exact n vs hd
 refine{λb o q=>keep b o (λz=>by rw[z,AJ]at q;cases q)<|kg b o q,hl.of_keeps λb o q n=>?_,?_,λb o q n=>?_};obtain⟨sl,z⟩:=sg.2.2 b o q;exact{_,keep b _ (wZ b o q n) z,rfl};exact{_,_,g.objs.size,_,_,e3,{Obj.cls_mapFields _ _,by rw[Array.getElem?_setIfInBounds_ne<|by decide];exact h0},d3,by simp[hsz],kg.fresh,ne,T3,rfl,t3};obtain⟨sl,z⟩:=sg.2.2 b o q;exact{sl,keep b _ (wZ b o q n) z};have d3:=yF hd (·.setIfInBounds 1 (Value.ref g.objs.size));exact{_,_,yz (Obj.mapFields (·.setIfInBounds 1 (Value.ref g.objs.size))) g2<|Obj.isFreed_of_fields d3,d3,by rw[Array.getElem?_setIfInBounds_ne<|by decide];exact h2}
theorem setC(Gx:base.StaysIn s.heap)(AJ:base.get? e=none)(hl:s.heap.FunFrames base l)(ht:s.heap.TracedAtW base e cls a0 fl)(hc:Hq c e s.heap) (h:∀h',Heap.FlyingW base l e cls a0 h'->s.heap.UpToSlots h'->Hq c e h'->Q () {s with heap:=h'}):wpAny M A (setFlight (.ref e) none) Q E s:=by
 obtain⟨o,vs,T,oT,ts,q,hk,hd,q1,nT,ne,qT,dT,q3⟩:=ht;obtain⟨o',YY,q',AU,q2⟩:=hc;rw[q]at q';cases q';rw[hd]at AU;cases AU;have hs3:3<ts.size:=(Array.getElem?_eq_some_iff.mp q3).1;have K3:∀b,b≠T->(s.heap.update T (Obj.mapFields (·.setIfInBounds 3 ((none:θ ε).elim Value.none λf=>rawInt f)))).get? b=s.heap.get? b:=λb n=>yB _ _<|Ne.symm n;have wZ:∀b o,s.heap.get? b=some o->(∀vs,o.data≠.fields vs)->b≠T:=λb o z n w=>by rw[w,qT]at z;cases z;exact n ts dT
 have qe:=(K3 e<|Ne.symm ne).trans q;unfold setFlight;refine zc<|yk q hd q1 ?_;rw[xL<|show(Value.ref T != Value.none)=true by simp];refine yU qT dT hs3<|h _ {λb o z=>(K3 b λw=>by rw[w,nT]at z;cases z).trans<|Gx b o z,AJ,hl.of_keeps λb o z n=>{o,(K3 b<|wZ b o z n).trans z,rfl},?_} (λb o z n=>{o.slots,(K3 b<|wZ b o z n).trans z}) ⟨o,vs,qe,hd,q2⟩;exact{o,vs,T,_,_,qe,hk,hd,q1,nT,ne,yz _ qT<|Obj.isFreed_of_fields<|yF dT _,yF dT _,by simp[hs3]}
theorem Uw(wx:A.frames=some (env::outer))(hf:env.frame=some L)(Gx:base.StaysIn s.heap)(AJ:base.get? e=none)(hl:s.heap.FunFrames base<|env::outer)(ht:s.heap.TracedAtW base e cls a0 fl)(hc:Hq c e s.heap) (h:∀h',Heap.HeldW base (env::outer) e cls a0 L h'->s.heap.UpToSlots h'->Hq c e h'->Q () {s with heap:=h'}):wpAny M A (noteFrame (.ref e) env) Q E s:=by
 by_cases Ux:fl=rawInt L;subst Ux;exact wpAny_noteFrame_againW hf ht<|h s.heap ⟨Gx,AJ,hl,ht⟩ (.refl _) hc;obtain⟨o,vs,T,oT,ts,q,⟨hk,h0⟩,hd,q1,nT,ne,qT,dT,q3⟩:=ht;obtain⟨o',YY,q',AU,q2⟩:=hc;rw[q]at q';cases q';rw[hd]at AU;cases AU;subst hk;have K3:∀b,b≠T->(s.heap.update T (Obj.mapFields (·.setIfInBounds 3 Value.none))).get? b=s.heap.get? b:=λb n=>yB _ _<|Ne.symm n;have wZ:∀b o,s.heap.get? b=some o->(∀vs,o.data≠.fields vs)->b≠T:=λb o z n w=>by rw[w,qT]at z;cases z;exact n ts dT
 unfold noteFrame;simp only[hf];refine zc<|yk q hd q1 ?_;rw[xL<|show(Value.ref T != Value.none)=true by simp];refine zc<|yk qT dT q3 ?_;rw[xz<|show ¬((fl==rawInt L)=true) by simpa using Ux];refine zc<|yU qT dT (Array.getElem?_eq_some_iff.mp q3).1 ?_;refine Uv wx (hl.of_keeps λb o z n=>{o,(K3 b<|wZ b o z n).trans z,rfl}) hf ((K3 e<|Ne.symm ne).trans q) (λb o z=>(K3 b λw=>by rw[w,nT]at z;cases z).trans<|Gx b o z) AJ hd h0 q2 λh' x y=>?_;obtain⟨x1,x2,x3,x4⟩:=x;exact h h' ⟨x1,AJ,x2,x3⟩ (λb o z n=>x4 b o ((K3 b<|wZ b o z n).trans z) n) y
theorem PL(wx:A.frames=some (env::outer))(hf:env.frame=some L)(Gx:base.StaysIn s.heap)(AJ:base.get? e=none)(hl:s.heap.FunFrames base<|env::outer) (he:s.heap.get? e=some oe) (hd:oe.data=.fields vs) (h0:vs[0]?=some a0) (h1:vs[1]?=some .none) (h2:vs[2]?=some c) (h:∀h',Heap.HeldW base (env::outer) e oe.cls a0 L h'->s.heap.UpToSlots h'->Hq c e h'->Q () {s with heap:=h'}):wpAny M A (noteFrame (.ref e) env) Q E s:=by unfold noteFrame;simp only[hf];refine zc<|yk he hd h1 ?_;rw[xz<|by decide];refine Uv wx hl hf he Gx AJ hd h0 h2 λh' x y=>?_;obtain⟨x1,x2,x3,x4⟩:=x;exact h h' ⟨x1,AJ,x2,x3⟩ x4 y
theorem PM(wx:A.frames=some (env::outer))(hf:env.frame=some L)(Gx:base.StaysIn s.heap)(AJ:base.get? e=none)(hl:s.heap.FunFrames base<|env::outer)(ht:s.heap.TracedAtW base e cls a0 fl)(hc:Hq c e s.heap) (h:∀h',Heap.FlyingW base outer e cls a0 h'->s.heap.UpToSlots h'->Hq c e h'->Q () {s with heap:=h'}):wpAny M A (leaving env<|.ref e) Q E s:=by unfold leaving;refine zc<|Uw wx hf Gx AJ hl ht hc λh' x u y=>?_;obtain⟨x1,x2,x3,x4⟩:=x;refine setC x1 x2 x3 x4 y λh2 z u2 y2=>?_;obtain⟨z1,z2,⟨_,_,z3⟩,z4⟩:=z;exact h h2 ⟨z1,z2,z3,z4⟩ (u.trans u2) y2
theorem K4(wx:A.frames=some (env::outer))(hf:env.frame=some L)(Gx:base.StaysIn s.heap)(AJ:base.get? e=none)(hl:s.heap.FunFrames base<|env::outer) (he:s.heap.get? e=some oe) (hd:oe.data=.fields vs) (h0:vs[0]?=some a0) (h1:vs[1]?=some .none) (h2:vs[2]?=some c) (h:∀h',Heap.FlyingW base outer e oe.cls a0 h'->s.heap.UpToSlots h'->Hq c e h'->Q () {s with heap:=h'}):wpAny M A (leaving env<|.ref e) Q E s:=by unfold leaving;refine zc<|PL wx hf Gx AJ hl he hd h0 h1 h2 λh' x u y=>?_;obtain⟨x1,x2,x3,x4⟩:=x;refine setC x1 x2 x3 x4 y λh2 z u2 y2=>?_;obtain⟨z1,z2,⟨_,_,z3⟩,z4⟩:=z;exact h h2 ⟨z1,z2,z3,z4⟩ (u.trans u2) y2
end
theorem aS.get(x:aS P w H h a o):∃u,h.get? a=some u:=by cases o with|lst xs=>(obtain⟨_,_,_,_,e⟩:=x;exact{_,e})|tup xs=>(obtain⟨_,_,_,ob,e,_⟩:=x;exact{_,e})|dK kvs=>(obtain⟨_,_,_,_,o,_,_,e,_⟩:=x;exact{_,e})|dT kvs=>exact False.elim x|set S n=>(obtain⟨o,_,_,_,e,_⟩:=x;exact{_,e})|ins C dx fs=>(obtain⟨_,_,_,e,_⟩:=x;exact{_,e})|own y=>(obtain⟨_,e⟩:=x;exact{_,e})|xd fs=>(obtain⟨_,⟨_,_,_,e,_⟩,_⟩:=x;exact{_,e})|WV lo hi=>(obtain⟨_,_,_,e⟩:=x;exact{_,e})|jA ob u=>(obtain⟨e,_⟩:=x;exact{_,e})|oP ps=>exact{_,show h.get? a=some _ from x}|met f y=>exact{_,show h.get? a=some _ from x}|ext φ=>obtain⟨_,e,_⟩:=x;exact e
structure YZ(P:Ψ)(w:Ω)(mg:ρ->θ ξ)(outer:δ Env)(H H':Hp)(h0:Γ)(a:ε)(cls a0:ξ)(B h:Γ):η where
 fl:Heap.FlyingW B outer a cls a0 h
 aI:j7 P w H' B
 keep:∀b o,h0.get? b=some o->H b=none->b∉mm outer->B.get? b=some o
 there:∀b o,h0.get? b=some o->b∉mm outer->∃o',B.get? b=some o'
 slot:∀b o,h0.get? b=some o->b∈mm outer->∃sl,h.get? b=some {o with slots:=sl}
 free:∀b o,h0.get? b=some o->H b=none->H' b=none
 kO:∀b xs,H b=some (.tup xs)->H' b=some (.tup xs)
 j8:∀b o u,H b=some (.jA o u)->H' b=some (.jA o u)
 j9:∀b ps,H b=some (.oP ps)->∃more,H' b=some (.oP<|ps++more)
 cx:Hq .none a h\/mg "NoMark"= some cls
def fF(P:Ψ)(w:Ω)(mg:ρ->θ ξ):A8:=λouter H s E e s'=>∃a cls a0 B H',e=.ref a/\s'.os=s.os/\AllBare s'.gens/\YZ P w mg outer H H' s.heap a cls a0 B s'.heap/\E cls none H'
structure cM(X:Cx)(E:XK):η where
 ex:X.ex=[]
 st:X.stack=X.env::X.outer
 fr:X.env.frame=some X.env.locals
 xe:∀e s',wpAny (model X.prog X.w) X.A (leaving X.env e) (λ_ A9=>fF X.prog X.w X.mg X.outer X.uu X.cX E e A9) (λe' A9=>fF X.prog X.w X.mg X.outer X.uu X.cX E e' A9) s'->X.xe e s'
theorem tG{P:Ψ}{w:Ω}{K:Φ}{mg:ρ->θ ξ}{base:Γ}{N:δ ρ}{qual:ρ}{scope:Scope}{f:ε}{cd:ξ}{A:ϕ}{outer:δ Env}{s:ζ}{H:Hp}{E:XK} : cM (jB (fF P w mg) P w K mg base N qual scope f cd A outer s H E) E:={rfl,rfl,rfl,λ_ _ h=>h}
section
variable{X:Cx}{pins:δ (ε×Obj)}{σ:St}{H H':Hp}{s:ζ}{E E':XK}
theorem cM.mem(L:cM X E):b∈mm X.stack↔b=X.env.locals\/b∈X.fs:=by unfold Cx.fs mm;rw[L.st,List.filterMap_cons,L.fr];exact zk
theorem cM.EG(L:cM X E)(I:Inv X pins σ H s)(e:X.cX.heap.get? b=some o)(h:b∉X.fs):b∉mm X.stack:=λz=>by rcases L.mem.mp z with z|z;have:=zx e;have h2:=I.ok.above;rw[z]at this;exact absurd (zt this h2)<|yG _;exact h z
theorem cM.fly(L:cM X E)(I:Inv X pins σ H s)(F:YZ X.prog X.w X.mg X.stack H H' s.heap a cls a0 B h)(f2:Heap.FlyingW B X.outer a cls a0 h2)(u2:h.UpToSlots h2)(c2:Hq .none a h2\/X.mg "NoMark"= some cls):
  YZ X.prog X.w X.mg X.outer X.uu H' X.cX.heap a cls a0 B h2 where
 cx:=c2
 fl:=f2
 aI:=F.aI
 keep:=λb o e n hf=>F.keep b o (I.base.keep b o e n hf<|by rw[L.ex];simp) (I.base.free b o e n<|by rw[L.ex];simp)<|L.EG I e hf
 there:=λb o e hf=>by
  obtain⟨o',q⟩:=I.base.there b o e<|by rw[L.ex];simp
  exact F.there b o' q<|L.EG I e hf
 slot:=λb o e hf=>by
  obtain⟨sl,q⟩:=I.base.slot b o e (I.ok.Oy b hf) hf<|by rw[L.ex];simp
  obtain⟨sl1,q1⟩:=F.slot b _ q<|L.mem.mpr<|.inr hf
  obtain⟨_,o2,q2,hd⟩:=F.fl.2.2.1.mem<|L.mem.mpr<|.inr hf
  obtain⟨Uy,q3⟩:=u2 b o2 q2 hd
  rw[q1]at q2;cases q2
  exact⟨Uy,q3⟩
 free:=λb o e n=>by
  obtain⟨o',q⟩:=I.base.there b o e<|by rw[L.ex];simp
  exact F.free b o' q<|I.base.free b o e n<|by rw[L.ex];simp
 kO:=λb xs e=>F.kO b xs<|I.base.kO b xs e
 j8:=λb o u e=>F.j8 b o u<|I.base.j8 b o u e
 j9:=λb ps e=>by
  obtain⟨m1,q1⟩:=I.base.j9 b ps e
  obtain⟨m2,q2⟩:=F.j9 b _ q1
  exact{m1++m2,by rw[q2,Array.append_assoc]}
theorem Uz(L:cM X E)(hE:∀c d H',E' c d H'->E c d H'):Passes (fF X.prog X.w X.mg) X E':=λpins σ H s e s' I h=>by
 obtain⟨a,cls,a0,B,H',rfl,os,bare,F,q⟩:=h;refine L.xe _ _ ?_;have wx:X.A.frames=some (X.env::X.outer):=by rw[I.ok.frames,L.st]
 have fl:Heap.FlyingW B (X.env::X.outer) a cls a0 s'.heap:=by rw[<-L.st];exact F.fl
 rcases F.cx with hc|hc;obtain⟨f1,f2,f3,f4⟩:=fl;exact PM wx L.fr f1 f2 f3 f4.at hc λh2 f2 u2 c2=>{a,cls,a0,B,H',rfl,os.trans I.os,bare,L.fly I F f2 u2<|.inl c2,hE _ _ _ q};exact wpAny_leaves_onW wx L.fr fl λh2 f2 u2=>{a,cls,a0,B,H',rfl,os.trans I.os,bare,L.fly I F f2 u2<|.inr hc,hE _ _ _ q}
theorem PN(I:Inv X pins σ H s):j7 X.prog X.w H (hideAll s.heap<|mm X.stack):=λa o e=>(I.aI a o e).oq (λb u hb q=>hideAll_get _ q λz=>by have n:=I.oQ b z;rcases hb with rfl|hb;rw[e]at n;cases n;rw[hb]at n;cases n) (λ_ q=>q) λ_ _ q=>q
theorem Bp(L:cM X E)(I:Inv X pins σ H s)(hk:∀b o,s.heap.get? b=some o->h'.get? b=some o)(hn:s.heap.get? a=none)(he:h'.get? a=some oe)(hd:oe.data=.fields vs) (h0:vs[0]?=some a0) (h1:vs[1]?=some .none) (h2:vs[2]?=some c) (hc:c=.none\/X.mg "NoMark"= some oe.cls) (hE:E oe.cls none H):X.xe (.ref a) {s with heap:=h'}:=by
 refine L.xe _ _ ?_;have wx:X.A.frames=some (X.env::X.outer):=by rw[I.ok.frames,L.st]
 have Hr:∀env∈X.stack,∀b,env.frame=some b->b∈mm X.stack:=λenv he b hb=>List.mem_filterMap.mpr ⟨env,he,hb⟩;have ff:s.heap.FunFrames (hideAll s.heap<|mm X.stack) (X.env::X.outer):=by rw[<-L.st];exact PySem.W.funFrames_hide I.stack Hr
 have hb:(hideAll s.heap<|mm X.stack).get? a=none:=by cases z:(hideAll s.heap<|mm X.stack).get? a with|none=>rfl|some o=>have:=of_hideAll _ z;rw[hn]at this;cases this
 refine K4 (base:=hideAll s.heap<|mm X.stack) wx L.fr (λb o q=>hk b o<|of_hideAll _ q) hb (ff.of_keeps λb o q _=>{o,hk b o q,rfl}) he hd h0 h1 h2 λh2 x1 x4 c2=>?_;refine{a,oe.cls,a0,_,H,rfl,I.os,I.bare,{x1,PN I,λb o e n hf=>?_,λb o e hf=>?_,λb o e hf=>?_,λb o e n=>I.base.free b o e n<|by rw[L.ex];simp,I.base.kO,I.base.j8,I.base.j9,?_},hE};exact hideAll_get _ (I.base.keep b o e n hf<|by rw[L.ex];simp)<|L.EG I e hf;obtain⟨o',q⟩:=I.base.there b o e (by rw[L.ex];simp);exact{o',hideAll_get _ q<|L.EG I e hf};obtain⟨sl,q⟩:=I.base.slot b o e (I.ok.Oy b hf) hf (by rw[L.ex];simp);obtain⟨_,o2,q2,hd⟩:=I.ot.mem hf;obtain⟨Uy,q3⟩:=x4 b o2 (hk _ _ q2) hd;rw[q]at q2;cases q2;exact⟨Uy,q3⟩;rcases hc with rfl|hc;exact .inl c2;exact .inr hc
theorem nJ(L:cM X E)(I:Inv X pins σ H s)(hx:Heap.MadeExcOf s.heap h' a cls args)(hE:E cls none H):X.xe (.ref a) {s with heap:=h'}:=by obtain⟨t,he,_,_⟩:=hx.there;exact Bp L I (λb o q=>hx.keeps b o q) hx.new he rfl rfl rfl rfl (.inl rfl) hE
end
noncomputable abbrev Y0:δ Value:=[.type "ValueError",.type "Exception",.type "BaseException",.type "object"]
structure XC(K:Φ)(C:ε):η where
 q:excIn K C Y0 "ValueError.__new__"= true
def Y1(a:ε)(cls:ξ):HO:=.ext λh=>∃o vs,h.get? a=some o/\o.cls=cls/\o.data=.fields vs
abbrev TX:=(St->XK)->TS
noncomputable def Ends.less(D:Ends)(i:π):Ends:={nx:=λσ H=>D.nx (σ.set i none) H,rt:=D.rt,bk:=λσ H=>D.bk (σ.set i none) H,ct:=λσ H=>D.ct (σ.set i none) H}
structure XA(K:Φ)(C:ε):η where
 ga:findIn K (.ref C) "__getattribute__"= some (some<|.builtin "BaseException.__getattribute__")
 gh:findIn K (.ref C) "__getattr__"= some none
 cl:findIn K (.ref C) "__class__"= some (some<|.builtin "object.__class__")
section
variable{X:Cx}
theorem Na(L:cM X E):Passes (fF X.prog X.w X.mg) X E:=Uz L λ_ _ _ h=>h
end
theorem w4:∀{xs:δ ρ}{ar:δ ξ},Vals (xs.map V.str) ar->∀(i:π)(v:ξ),ar[i]?=some v->∃x t,xs[i]?=some x/\v=.str x t|[],_,.nil,i,v,e=>by simp at e|x::xs,_,.cons r rs,0,v,e=>(by obtain⟨t,q⟩:=r;simp at e;exact{x,t,rfl,by rw[<-e];exact q})|x::xs,_,.cons r rs,i+1,v,e=>by obtain⟨y,t,e1,e2⟩:=w4 rs i v (by simpa using e);exact{y,t,by simpa using e1,e2}
theorem ib:entryFor table "dict.update.loop"= some Builtin.«dict.update.loop»:=entryFor_of_tree<|by kernel_rfl
theorem cn:plainId "dict.update.loop"= true:=by trivial
theorem rX:typeLookup (.type "tuple") "keys"= pure none:=by rw[typeLookup_type,builtinLookup_eq_fast];kernel_rfl
section
variable{prog:Ψ}{w:Ω}{A:ϕ}{E:ξ->ζ->η}{s:ζ}
theorem rY(hx:s.heap.get? a=some o)(hc:o.cls=.type "tuple")(Ht:o.data=.seq xs k)(hd:o.dict=none)(hA:A.handled=none) (h:∀h' tk,(∀b ob,s.heap.get? b=some ob->h'.get? b=some ob)->Q none {s with heap:=h',toks:=tk}):wpAny (model prog w) A (getAttr? (.ref a) "keys") Q E s:=by
 obtain⟨c,bG,dat,sl⟩:=o;simp only at hc Ht hd;subst hc Ht hd;obtain⟨hp,g,d,tk,os⟩:=s;have hT:∀K5,(⟨hp,g,d,K5,os⟩:ζ).TypeIs (.ref a) "tuple":=λ_=>{_,hx,rfl};have f1:=sub_AttributeError;have f3:=F.slot_tuple_getattribute.lookup;have f4:=F.slot_tuple_getattribute.bind<|.ref a;have f5:=am_tuple_getattr_none;unfold getAttr? getAttrBy? getAttrBy;repeat (any_goals (first|assumption|exact hT _|((with_reducible show wpAny _ _ (call (Value.builtin "tuple.__getattribute__") _ _) _ _ _);refine call_meets F.slot_tuple_getattribute (hT _) am_entry_tuple_getattribute (F.args_tuple_getattribute_2 _ _) (meets_getattribute_miss_tuple a xs k sl "keys" _ rX (by trivial)<|by size_fits) {hx,hA,λh' K5 e uw=>?_})|wp_step))
 obtain⟨t',u',he⟩:=uw.there;show wpAny _ _ (getattributeRaised _ _ _ _ _ _ _) _ _ _;unfold getattributeRaised;repeat (any_goals (first|assumption|wp_step))
 exact h _ _ uw.keeps
end
section
variable{prog:Ψ}{w:Ω}{A:ϕ}{R:Result->ζ->η}{I:ε}{fp wr:δ ε}{G:Array GenState->Array GenState->η}{n:π}{P:π->ξ->η}{St:π->ζ->η}
theorem E_(W:WalksS prog w A.in1 I fp wr G n P St)(D:ε)(hDf:D∉fp)(kvs:δ<|Key×ξ)(hx:kvs.length=n)(base:Γ) (Y5:∀i v,P i v->∃(b:ε) (k:Key) (key val:ξ) (o:Obj) (m:π),kvs[i]?=some (k,val)/\v=.ref b/\(aw prog w).is k key=true/\base.get? b=some o/\o.cls=.type "tuple"/\o.data=.seq #[key,val] m/\b≠D/\b∉wr) (hb:n<=sizeLine): ∀(k i:π) (s:ζ) (c:ν) (t:Tok),i+k=n->St i s->s.heap.DictOf (aw prog w) D (merged []<|kvs.take i)->(∀b o,base.get? b=some o->b≠D->b∉wr->s.heap.get? b=some o)->(∀s',Moved (D::wr) G s s'->s'.heap.DictOf (aw prog w) D (merged [] kvs)->R (.ok<|.ret .none) s')->codeAny (model prog w) A (.builtin "dict.update.loop" {[.ref D,.ref I,.int c t,.none],[]}) R s:=by have nw:D∉wr:=λh=>hDf<|W.sub _ h;have up:∀b∈wr,b∈D::wr:=λb hb=>zh _ hb;intro k;induction k with|zero=>(intro i s c t hk wJ hS hB hR;have e:i=n:=(by lia);subst e;refine yT ib ?_;rw[Around.under_plainId cn _];show wpAny _ A.in1 (pyNext (.ref I) >>=_) _ _ s;refine zc<|W.done s _ _ wJ λs' hm=>?_;show wpAny _ A.in1 (Builtin.Dict.addKeywords D [] >>=_) _ _ s';have q:s'.heap.DictOf (aw prog w) D (merged []<|kvs.take i):=(by obtain⟨o,es,ep,ho,rest⟩:=hS;exact{o,es,ep,hm.heap D _ nw ho,rest});rw[<-hx,List.take_length]at q;exact zc<|zo<|zo<|hR s' (hm.mono up) q)|succ k ih=>intro i s c t hk wJ hS hB hR;have lt:i<n:=(by lia);refine yT ib ?_;rw[Around.under_plainId cn _];show wpAny _ A.in1 (pyNext (.ref I) >>=_) _ _ s;refine zc<|W.item i s _ _ lt wJ λv s' hP PQ hm=>?_;obtain⟨b,ky,key,val,o,m,ek,rfl,GY,ho,hc,hd,hbD,hbw⟩:=Y5 i v hP;have q:s'.heap.DictOf (aw prog w) D (merged []<|kvs.take i):=(by obtain⟨o,es,ep,ho,rest⟩:=hS;exact{o,es,ep,hm.heap D _ nw ho,rest});have hb':s'.heap.get? b=some o:=hm.heap b o hbw<|hB b o ho hbD hbw;have room:(merged []<|kvs.take i).length<=sizeLine:=(by have:=merged_length_le ([]:δ (Key×ξ))<|kvs.take i;rw[yn]at this;simp at this;lia);have tk:merged [] (kvs.take<|i+1)=stored (merged []<|kvs.take i) ky val:=merged_take_succ [] kvs i (ky,val) ek;refine zc<|yD<|zc<|wpAny_tryCatch ?_;unfold Builtin.Dict.pairItems;refine zc<|wpAny_typeOf (T:="tuple") ⟨o,hb',hc⟩ ?_;show wpAny _ A.in1 (seqItems? (.ref b) >>=_) _ _ s';refine zc<|yR hb' hd<|zo ?_;show wpAny _ A.in1 (holding [key,val]<|dictSet D key val) _ _ s';refine yD<|wpAny_dictSet_pairs GY q (λh' q2 Dh=>?_) room;rw[<-tk]at q2;refine zo {plainId_quiet cn _,ih (i+1) _ _ _ (by lia) (W.frame _ s' _ _ PQ (y4 _) λb hb o e=>?_) q2 (λb o e h1 h2=>?_) λA9 PR Y6=>?_};rw[Dh.2 b (λh:b=D=>hDf<|by rw[<-h];exact hb)];exact e;rw[Dh.2 b h1];exact hm.heap b o h2<|hB b o e h1 h2;refine hR A9 (Moved.trans W.gtrans ((hm.mono up).then_heap (y4 _) λb o hb e=>?_) PR) Y6;rw[Dh.2 b (λh:b=D=>hb<|by rw[h];exact zj)];exact e
end
noncomputable def Di(l:δ<|ρ×V):δ (Key×V):=l.foldl (λc p=>putK c (.inr p.1) p.2) []
def Prs(H:Hp)(ps:δ V)(kvs:δ<|ρ×V):Prop:=kvs.length=ps.length/\∀(i:π)(x:V)(p:ρ×V),ps[i]?=some x->kvs[i]?=some p->∃b,x=.ref b/\H b=some (.tup [.str p.1,p.2])
section
theorem smz(h:n<=1000):n<=sizeLine:=yO<|jq h
end
abbrev kW(h:Γ)(T:ε)(arr:Array ξ):Prop:=h.get? T=some {cls:=.type "tuple",data:=.seq arr}
theorem uI(hs:Heap.ExtBut b h h')(n:a≠b)(x:h.IsTupleIter a l i):h'.IsTupleIter a l i:=x.extBut hs n
theorem Nb{h h':Γ}{a l:ε}{i:π}(k:∀o,h.get? a=some o->h'.get? a=some o)(x:h.IsTupleIter a l i):h'.IsTupleIter a l i:=by obtain⟨o,e,r⟩:=x;exact{o,k o e,r}
section
variable{prog:Ψ}{w:Ω}{A:ϕ}{E:ξ->ζ->η}{s:ζ}
theorem Y7(h:n<=3):n<=sizeLine:=smz<|zG h<|by decide
theorem Fc(hT:kW s.heap T arr)(hz:arr.size<=3)(h:∀h',kW h' T (arr.setIfInBounds k x)->Heap.SameBut T s.heap h'->Q () {s with heap:=h'}):wpAny (model prog w) A (updateSeq T (·.setIfInBounds k x)) Q E s:=by refine wpAny_updateSeq hT rfl (h _ ?_<|yy ..) (hz:=Y7 hz) (_hz':=by have:=Y7 hz;simp;lia);show Heap.get? _ _=_;rw[yz _ hT rfl];simp[Obj.mapSeq]
theorem Bq(hit:s.heap.IsTupleIter it l i)(hl:s.heap.IsTuple l items)(hx:items[i]?=some x)(hQ:∀h',h'.IsTupleIter it l (i+1)->Heap.SameBut it s.heap h'->Q x {s with heap:=h'}): wpAny (model prog w) A (Builtin.SmallTypes.nextOf<|.ref it) Q E s:=by obtain⟨o,ho,hc,hd⟩:=id hit;obtain⟨ol,PU,_,nl,K6⟩:=hl;unfold Builtin.SmallTypes.nextOf;refine zc<|wpAny_callSpecial?_slot (name:=Str.ofString "__next__") hit.typeIs F.slot_tuple_iterator_next<|yQ F.slot_tuple_iterator_next hit.typeIs F.entry_tuple_iterator_next ?_<|F.args_tuple_iterator_next_1 _;show wpAny _ _ (field (.ref it) 0 >>=_) _ _ s;refine zc<|yk ho hd (x:=.ref l) rfl ?_;show wpAny _ _ (if (Value.ref l==Value.none)=true then _ else _) _ _ s;rw[xz<|show ¬((Value.ref l==Value.none)=true) from zd];show wpAny _ _ (field (.ref it) 1 >>=_) _ _ s;refine zc<|yk ho hd (x:=.int i 0) rfl ?_;show wpAny _ _ (seqItems? (.ref l) >>=_) _ _ s;refine zc<|yR PU K6 ?_;simp only[Int.toNat_natCast,hx];refine zc<|yU ho hd (by simp)<|zo {x,rfl,zo<|hQ _ {_,yz _ ho<|Obj.isFreed_of_fields<|yF hd _,(Obj.cls_mapFields ..).trans hc,by rw[yF hd];simp[rawInt]}<|yy ..}
theorem p5(hh:A.handled=none)(hit:s.heap.IsTupleIter it l i)(hl:s.heap.IsTuple l items)(hx:items[i]?=none) (hE:∀h' e,Heap.ExtBut it s.heap h'->(∃o,h'.get? e=some o/\o.cls=.type "StopIteration")->E (.ref e) {s with heap:=h'}):wpAny (model prog w) A (Builtin.SmallTypes.nextOf<|.ref it) Q E s:=by
 obtain⟨o,ho,hc,hd⟩:=id hit;obtain⟨ol,PU,_,nl,K6⟩:=hl;unfold Builtin.SmallTypes.nextOf;refine zc<|wpAny_callSpecial?_slot (name:=Str.ofString "__next__") hit.typeIs F.slot_tuple_iterator_next<|yQ F.slot_tuple_iterator_next hit.typeIs F.entry_tuple_iterator_next ?_<|F.args_tuple_iterator_next_1 _;show wpAny _ _ (field (.ref it) 0 >>=_) _ _ s;refine zc<|yk ho hd (x:=.ref l) rfl ?_;show wpAny _ _ (if (Value.ref l==Value.none)=true then _ else _) _ _ s;rw[xz<|show ¬((Value.ref l==Value.none)=true) from zd];show wpAny _ _ (field (.ref it) 1 >>=_) _ _ s;refine zc<|yk ho hd (x:=.int i 0) rfl ?_;show wpAny _ _ (seqItems? (.ref l) >>=_) _ _ s;refine zc<|yR PU K6 ?_;simp only[Int.toNat_natCast,hx];refine zc<|yW<|zc<|yU ho hd (by simp) ?_;show wpAny _ _ (newExc (.type "StopIteration") [] >>=_) _ _ _;refine zc ?_;simp only[newExc,newTuple];refine zc<|yH ?_ (by size_fits);refine zc (m:=firstArgMember _ _)<|yX (a:=Value.none) (by first|rfl|(simp only[firstArgMember];rfl)) ?_;refine yH ?_ (by size_fits);simp only[raiseNew];refine zc<|wpAny_handled ?_;first|rw[show A.in1.handled=none from hh]|rw[hh]
 refine zc<|zo<|wpAny_throw<|hE _ _ (((yy ..).extBut.push _).push _) {_,zi _ rfl,rfl}
end
def ZS2(n l0 l1:π)(i:π)(h:Γ):Prop:=IsZip h (n+4) (n+2) (n+3) .none/\kW h (n+2) #[.ref n,.ref<|n+1]/\(∃arr:Array ξ,arr.size=2/\kW h (n+3) arr)/\h.IsTupleIter n l0 i/\h.IsTupleIter (n+1) l1 i
section
variable{X:Cx}{pins:δ (ε×Obj)}{σ:St}{H:Hp}{s:ζ}{h':Γ}
theorem Inv.K7(I:Inv X pins σ H s)(wr:δ ε)(hw:∀b∈wr,rQ X pins H b)(k:∀b o,b∉wr->s.heap.get? b=some o->h'.get? b=some o):Inv X pins σ H {s with heap:=h',toks:=t'}:=by refine I.step (g':=s.gens) (d':=s.drawn) (ch:=wr) (λb hb=>by obtain⟨_,a,_,c,d,e⟩:=hw b hb;exact⟨c,a,d,e⟩) (λb o _ _ hc e _=>k b o hc e) (λb o _ _ hc e _=>{o.slots,k b o hc e}) (λ_ _ _ _ n=>n) (λb o hc e=>{o,k b o hc e}) (λ_ _ e=>e) (λ_ _ _ e=>e) (λb ps e=>{#[],by rw[e];simp}) (λm hm=>?_) (λb u e=>?_) I.bare;obtain⟨o,es,ep,ho,r⟩:=hm;exact{o,es,ep,k _ o (λz=>(hw _ z).2.1 rfl) ho,r};refine(I.aI b u e).oq (λc v hc q=>k c v (λz=>?_) q) (λ_ q=>q) λ_ _ q=>q;have n:=(hw c z).1;rcases hc with rfl|hc;rw[n]at e;cases e;rw[n]at hc;cases hc
theorem Inv.K8(I:Inv X pins σ H s)(wr:δ ε)(hw:∀b∈wr,rQ X pins H b)(k:∀b o,b∉wr->s.heap.get? b=some o->h'.get? b=some o)(hT:s.heap.get? T=none)(new:aS X.prog X.w (upd H T o) h' T o): Inv X pins σ (upd H T o) {s with heap:=h',toks:=t'}:=by
 have fr:H T=none:=by cases q:H T with|none=>rfl|some u=>obtain⟨z,e⟩:=(I.aI T u q).get;rw[hT]at e;cases e
 have ne:∀b u,H b=some u->b≠T:=λb u e z=>by rw[z,fr]at e;cases e
 refine I.step (g':=s.gens) (d':=s.drawn) (ch:=wr) (λb hb=>by obtain⟨_,a,_,c,d,e⟩:=hw b hb;exact⟨c,a,d,e⟩) (λb o _ _ hc e _=>k b o hc e) (λb o _ _ hc e _=>{o.slots,k b o hc e}) (λb ob _ e n=>?_) (λb o hc e=>{o,k b o hc e}) (λb xs e=>by rw[av<|ne b _ e];exact e) (λb ob u e=>by rw[av<|ne b _ e];exact e) (λb ps e=>{#[],by rw[av<|ne b _ e,e];simp}) (λm hm=>?_) (λb u e=>?_) I.bare;have:b≠T:=λz=>by rw[z,hT]at e;cases e
 rw[av this];exact n;obtain⟨o,es,ep,ho,r⟩:=hm;exact{o,es,ep,k _ o (λz=>(hw _ z).2.1 rfl) ho,r};by_cases hb:b=T;subst hb;rw[aB]at e;cases e;exact new;rw[av hb]at e;refine(I.aI b u e).oq (λc v hc q=>k c v (λz=>?_) q) (λc q=>by rw[av<|ne c _ q];exact q) λc xs q=>by rw[av<|ne c _ q];exact q
 have n:=(hw c z).1;rcases hc with rfl|hc;rw[n]at e;cases e;rw[n]at hc;cases hc
end
noncomputable abbrev K9(h:Γ)(l0:ε):Heap:=(h).push {cls:=.type "tuple_iterator",data:=.fields #[.ref l0,.int 0 0]}
noncomputable abbrev K_(h:Γ)(l0 l1:ε):Heap:=(K9 h l0).push {cls:=.type "tuple_iterator",data:=.fields #[.ref l1,.int 0 0]}
noncomputable abbrev La(h:Γ)(l0 l1:ε):Heap:=(K_ h l0 l1).push {cls:=.type "tuple",data:=.seq #[.ref h.objs.size,.ref (K9 h l0).objs.size]}
noncomputable abbrev Lb(h:Γ)(l0 l1:ε):Heap:=(La h l0 l1).push {cls:=.type "tuple",data:=.seq #[.none,.none]}
noncomputable abbrev Bx(h:Γ)(l0 l1:ε):Heap:=(Lb h l0 l1).push {cls:=.type "zip",data:=.fields #[.none,.bool false,.bool false,.ref (K_ h l0 l1).objs.size,.ref (La h l0 l1).objs.size]}
theorem By(l0 l1:ε)(Br Bu:Array ξ):Meets (Builtin.«zip.__new__» {[.type "zip",.ref l0,.ref l1],[]}) (λ_ R s=>s.heap.IsTuple l0 Br/\s.heap.IsTuple l1 Bu/\R (.ok<|.ret<|.ref (Lb s.heap l0 l1).objs.size) {s with heap:=Bx s.heap l0 l1}):=.of_wp λprog w A R s h=>by obtain⟨hp,g,d,tk,os⟩:=s;obtain⟨t0,t1,h⟩:=h;have Y8:=sub_zip;have L0:Heap.IsTuple (Shared.heap ⟨hp,g,d,tk,os⟩) l0 Br:=t0;have L1:Heap.IsTuple (Shared.heap {hp.push {cls:=.type "tuple_iterator",data:=.fields #[.ref l0,.int 0 0]},g,d,tk,os}) l1 Bu:=Heap.IsTuple.push (t1) _;wp_walk using wpAny_pyIter_tuple L0,wpAny_pyIter_tuple L1;exact{_,rfl,h}
theorem Bz(t0:s.heap.IsTuple l0 Br)(t1:s.heap.IsTuple l1 Bu) (h:∀h',ZS2 s.heap.objs.size l0 l1 0 h'->(∀c o,s.heap.get? c=some o->h'.get? c=some o)->Q (.ref<|s.heap.objs.size+4) {s with heap:=h'}):wpAny (model prog w) A (call (.type "zip") [.ref l0,.ref l1]) Q E s:=by
 refine callType_new F.called_zip (by decide) (F.typeCall_zip_2 _ _) (F.newCall_zip_2 _ _) (λobj=>F.args_object_init_3 obj _ _) F.entry_zip_new (By l0 l1 Br Bu) {t0,t1,?_};have z1:(K9 s.heap l0).objs.size=s.heap.objs.size+1:=ya ..;have z2:(K_ s.heap l0 l1).objs.size=s.heap.objs.size+2:=by rw[ya,z1]
 have z3:(La s.heap l0 l1).objs.size=s.heap.objs.size+3:=by rw[ya,z2]
 have z4:(Lb s.heap l0 l1).objs.size=s.heap.objs.size+4:=by rw[ya,z3]
 have z5:(Bx s.heap l0 l1).objs.size=s.heap.objs.size+5:=by rw[ya,z4]
 have g0:(Bx s.heap l0 l1).get? (s.heap).objs.size=some _:=zb _<|zb _<|zb _<|zb _<|zi _ rfl;have g1:(Bx s.heap l0 l1).get? (K9 s.heap l0).objs.size=some _:=zb _<|zb _<|zb _<|zi _ rfl;have g2:(Bx s.heap l0 l1).get? (K_ s.heap l0 l1).objs.size=some _:=zb _<|zb _<|zi _ rfl;have g3:(Bx s.heap l0 l1).get? (La s.heap l0 l1).objs.size=some _:=zb _<|zi _ rfl;have g4:(Bx s.heap l0 l1).get? (Lb s.heap l0 l1).objs.size=some _:=zi _ rfl;show _/\_;rw[z2,z3,z4]at g4;rw[z3]at g3;rw[z1,z2]at g2;rw[z1]at g1;rw[z4];exact{{_,g4,rfl},h _ {g4,g2,!⟨g3⟩,{_,g0,rfl,rfl},{_,g1,rfl,rfl}} λc o x=>zb _<|zb _<|zb _<|zb _<|zb _ x}
def Ld(K:Φ):V->δ V->Hp->VK->Prop:=λx vs H Q=>∃(a:ε)(xs:δ V)(y z:V)(j:π),x=.ref a/\vs=[y]/\iu K H a xs/\gk y=true/\xs.all gk=true/\xs[j]?=some z/\eqV z y=true/\(∀m u,m<j->xs[m]?=some u->eqV u y=false)/\Q (.int j) H
theorem Fd:R6 X "list.index" (Ld X.K):=by
 intro pins s σ H x vs v us Q I rx rv h;obtain⟨a,xs,y,z,j,rfl,rfl,hq,fy,fx,hj,hit,PX,q⟩:=h;cases rx;obtain⟨u,rfl,ru⟩:=rv.one;obtain⟨ar,r,p,hz⟩:=I.list hq;obtain⟨⟨cls,dd,data,sl⟩,ho,hc,n,hd⟩:=p.isList;simp only at hc hd;subst hc hd;have hl:=r.length;have dr:j<xs.length:=(ze.mp hj).1;have fl:∀(m:π)(w:V),xs[m]?=some w->gk w=true:=λm w e=>zZ.mp fx w<|zH e;have at':∀(m:π)(hm:m<ar.toArray.size)(w:V),xs[m]?=some w->G6 y ar.toArray[m]=eqV w y:=λm hm w e=>by obtain⟨u',e',ru'⟩:=r.get e;have:ar.toArray[m]=u':=(by have:=ze.mp e';simpa using this.2);rw[this];exact Ba ru'<|fl m w e
 have hs:sizeLine=16777216:=yj;refine call_meets PySem.F.slot_list_index {_,ho,rfl} PySem.F.entry_list_index (PySem.F.args_list_index_2 _ _) (SeqAt.list_indexAt a ar.toArray n dd sl u (G6 y) j (by simp;lia) (by lia) ?_ ?_) {ho,λw hw=>kR ru fy r fx w<|by simpa using hw,{.int j,H,I.tok _,{_,rfl},q}};rw[at' j _ z hj];exact hit;intro m hm hmj;have hmx:m<xs.length:=by lia
 rw[at' m hm _<|zf hmx];exact PX m _ hmj<|zf hmx
def UB:R2:=λx y H Q=>∃z n,x=.str z/\y=.int n/\MulOk z n/\Q (.str<|PySem.Txt.mul z n) H
theorem BA:gE X (binaryOp .Mult) UB:=by intro pins s σ H x y v u Q I rx ry h;obtain⟨z,n,rfl,rfl,hm,q⟩:=h;obtain⟨t,rfl⟩:=rx;obtain⟨t',rfl⟩:=ry;exact SB.mul hm λt'' k=>{.str _,H,I.tok k,{_,rfl},q}
def Le(w:Ω)(K:Φ)(a:ε)(kvs:δ<|ρ×V):Prop:=(a==sysModules)=false/\∃(o:Obj)(es:Array DictEntry)(ep:π),K.lookup a=some o/\o.ExactDict/\o.data=.dict es ep/\Paired (λ(e:DictEntry)(kv:ρ×V)=>e.hash=hashStr w kv.1/\(∃t,e.key=.str kv.1 t)/\RelV kv.2 e.val) es.toList kvs/\(kvs.map Prod.fst).Nodup
theorem p6(z:ρ):∀kvs:δ (ρ×V),fE (kvs.map λp=>((.inr p.1:Key),p.2)) (.inr z)=kvs.lookup z
 |[]=>rfl
 | (x,v)::r=>by
  rw[zw,yg];by_cases e:z=x;subst e;rw[pT rfl];simp;have e1:(z==x)=false:=by simpa using e
  rw[pU λq=>e (yN q).symm,e1];exact p6 z r
section
variable{X:Cx}{pins:δ (ε×Obj)}{σ:St}{H:Hp}{s:ζ}{a:ε}{kvs:δ (ρ×V)}
theorem BB(I:Inv X pins σ H s)(d:Le X.w X.K a kvs):(a==sysModules)=false/\∃vs,KV (kvs.map λp=>((.inr p.1:Key),p.2)) vs/\s.heap.DictOf (aw X.prog X.w) a vs:=by
 obtain⟨ns,o,es,ep,hk,hx,hd,hp,hn⟩:=d;have all:∀(es:δ DictEntry)(kvs:δ (ρ×V)),Paired (λ(e:DictEntry)(kv:ρ×V)=>e.hash=hashStr X.w kv.1/\(∃t,e.key=.str kv.1 t)/\RelV kv.2 e.val) es kvs->∃vs:δ (Key×ξ),KV (kvs.map λp=>((.inr p.1:Key),p.2)) vs/\Pairs (aw X.prog X.w) es vs/\vs.map (·.1)=kvs.map (λp=>(.inr p.1:Key))/\∀e∈es,∃k,(aw X.prog X.w).is k e.key=true/\e.hash=(aw X.prog X.w).hash k:=by intro es kvs hp;induction hp with|nil=>exact{[],.nil,.nil,rfl,by simp}|@cons e kv rG kvs' h t ih=>obtain⟨vs,k1,k2,k3,k4⟩:=ih;obtain⟨h1,⟨tk,h2⟩,h3⟩:=h;have hi:(aw X.prog X.w).is (.inr kv.1) e.key=true:=(by rw[h2];exact fG _ _ _ _);refine{(.inr kv.1,e.val)::vs,.cons ⟨rfl,h3⟩ k1,.cons hi rfl k2,by rw[zw,zw,k3],λe' he=>?_};rcases zk.mp he with rfl|he;exact{.inr kv.1,hi,h1};exact k4 e' he
 obtain⟨vs,k1,k2,k3,k4⟩:=all _ _ hp;refine{ns,vs,k1,o,es,ep,I.nD a o hk,hx,hd,λe he=>k4 e<|by simpa using he,k2,?_};rw[k3];have:(kvs.map λp=>(.inr p.1:Key))=(kvs.map Prod.fst).map Sum.inr:=by rw[zq];rfl
 rw[this];exact List.Pairwise.map _ (λx y h q=>h<|yN q) hn
theorem Hu{w:Ω}{K:Φ}(hw:X.w=w)(hK:X.K=K):gE X (compareOp .In) (λx y H Q=>∃z a kvs,x=.str z/\y=.ref a/\Le w K a kvs/\Q (.bl (kvs.lookup z).isSome) H):=by subst hw hK;intro pins s σ H x y v u Q I rx ry h;obtain⟨z,a,kvs,rfl,rfl,d,q⟩:=h;cases ry;obtain⟨ns,vs,rel,dd⟩:=BB I d;refine wpAny_in_of (jO (k:=.inr z) rx) ns dd.mapOf ?_;rw[<-(rel.val<|.inr z).my,p6];exact{.bl _,H,I.tok _,rfl,q}
def UC(w:Ω)(K:Φ):V->δ V->Hp->VK->Prop:=λx vs H Q=>∃a z kvs,x=.ref a/\vs=[.str z]/\Le w K a kvs/\Q ((kvs.lookup z).getD .au) H
theorem Lg{w:Ω}{K:Φ}(hw:X.w=w)(hK:X.K=K):R6 X "dict.get" (UC w K):=by subst hw hK;intro pins s σ H x vs v us Q I rx rv h;obtain⟨a,z,kvs,rfl,rfl,d,q⟩:=h;cases rx;obtain⟨u,rfl,ru⟩:=rv.one;obtain⟨ns,vs,rel,dd⟩:=BB I d;refine call_meetsIn yE dd.typeIs PySem.F.entry_dict_get (PySem.F.args_dict_get_2 _ _) (meets_dict_get (aw X.prog X.w) a (jO (k:=.inr z) ru) ns) {_,dd.mapOf,_,H,I.tok _,?_,q};rw[<-p6];exact(rel.val<|.inr z).getD rfl
theorem Hv{w:Ω}{K:Φ}{o e:Δ}{apos aP:Pos}{td ty:TE}(hw:X.w=w)(hK:X.K=K)(ho:PE X o td)(he:PE X e ty)(m:M1 X o "get" apos e aP):PE X (.Call (.Attribute o "get" apos) [e] [] aP) (λσ H Q=>td σ H λx H1=>∃a kvs,x=.ref a/\Le w K a kvs/\ty σ H1 λy H2=>∃z,y=.str z/\Q ((kvs.lookup z).getD .au) H2):=by subst hw hK;intro pins s σ H Q I h;refine wpAny_Call_method m.base m.Gv m.line PySem.F.plainAttrs_dict yE PySem.F.type_dict_get<|bj (ho pins s σ H _ I h) λu s1 ⟨x,H1,I1,rx,a,kvs,ex,d,q1⟩=>?_;subst ex;obtain rfl:u=Value.ref a:=rx;obtain⟨ns,vs,rel,dd⟩:=BB I1 d;obtain⟨ob,_,_,h1,h2,_⟩:=id dd;refine{dd.typeIs,λb q=>by cases q;exact⟨ob,h1,h2.2.1⟩,?_};rw[m.trees];refine Calls.callWith_builtin rfl<|Calls.evalArgs_plain<|yL<|bj (he pins s1 σ H1 _ I1 q1) λiv s2 ⟨y,H2,I2,ry,z,ey,q2⟩=>Calls.spliced_nil ?_;subst ey;exact Lg rfl rfl pins s2 σ H2 (.ref a) [.str z] _ [iv] Q I2 rfl (.cons ry .nil) ⟨a,z,kvs,rfl,rfl,d,q2⟩
end
theorem Hw:bootBuiltins "min"= some (.builtin "min"):=by trivial
def ZS3(n l0 l1 l2:π)(i:π)(h:Γ):Prop:=IsZip h (n+5) (n+3) (n+4) .none/\kW h (n+3) #[.ref n,.ref<|n+1,.ref<|n+2]/\(∃arr:Array ξ,arr.size=3/\kW h (n+4) arr)/\h.IsTupleIter n l0 i/\h.IsTupleIter (n+1) l1 i/\h.IsTupleIter (n+2) l2 i
noncomputable abbrev Lh(h:Γ)(l0:ε):Heap:=(h).push {cls:=.type "tuple_iterator",data:=.fields #[.ref l0,.int 0 0]}
noncomputable abbrev Li(h:Γ)(l0 l1:ε):Heap:=(Lh h l0).push {cls:=.type "tuple_iterator",data:=.fields #[.ref l1,.int 0 0]}
noncomputable abbrev Lj(h:Γ)(l0 l1 l2:ε):Heap:=(Li h l0 l1).push {cls:=.type "tuple_iterator",data:=.fields #[.ref l2,.int 0 0]}
noncomputable abbrev Lk(h:Γ)(l0 l1 l2:ε):Heap:=(Lj h l0 l1 l2).push {cls:=.type "tuple",data:=.seq #[.ref h.objs.size,.ref (Lh h l0).objs.size,.ref (Li h l0 l1).objs.size]}
noncomputable abbrev Ll(h:Γ)(l0 l1 l2:ε):Heap:=(Lk h l0 l1 l2).push {cls:=.type "tuple",data:=.seq #[.none,.none,.none]}
noncomputable abbrev w5(h:Γ)(l0 l1 l2:ε):Heap:=(Ll h l0 l1 l2).push {cls:=.type "zip",data:=.fields #[.none,.bool false,.bool false,.ref (Lj h l0 l1 l2).objs.size,.ref (Lk h l0 l1 l2).objs.size]}
theorem BC(l0 l1 l2:ε)(Br Bu Sa:Array ξ):Meets (Builtin.«zip.__new__» {[.type "zip",.ref l0,.ref l1,.ref l2],[]}) (λ_ R s=>s.heap.IsTuple l0 Br/\s.heap.IsTuple l1 Bu/\s.heap.IsTuple l2 Sa/\R (.ok<|.ret<|.ref (Ll s.heap l0 l1 l2).objs.size) {s with heap:=w5 s.heap l0 l1 l2}):=.of_wp λprog w A R s h=>by obtain⟨hp,g,d,tk,os⟩:=s;obtain⟨t0,t1,t2,h⟩:=h;have Y8:=sub_zip;have L0:Heap.IsTuple (Shared.heap ⟨hp,g,d,tk,os⟩) l0 Br:=t0;have L1:Heap.IsTuple (Shared.heap {hp.push {cls:=.type "tuple_iterator",data:=.fields #[.ref l0,.int 0 0]},g,d,tk,os}) l1 Bu:=Heap.IsTuple.push (t1) _;have L2:Heap.IsTuple (Shared.heap {(hp.push {cls:=.type "tuple_iterator",data:=.fields #[.ref l0,.int 0 0]}).push {cls:=.type "tuple_iterator",data:=.fields #[.ref l1,.int 0 0]},g,d,tk,os}) l2 Sa:=Heap.IsTuple.push (Heap.IsTuple.push (t2) _) _;wp_walk using wpAny_pyIter_tuple L0,wpAny_pyIter_tuple L1,wpAny_pyIter_tuple L2;exact{_,rfl,h}
theorem BD(a0 a1 a2:ξ):checkTypeCall "zip" {[a0,a1,a2],[]}=pure ():=by kernel_rfl
theorem BE(a0 a1 a2:ξ):checkBuiltinCall "zip.__new__" {[.type "zip",a0,a1,a2],[]}=pure ():=by kernel_rfl
theorem PY(x a0 a1 a2:ξ):argsOk "object.__init__" {[x,a0,a1,a2],[]}:=by unfold argsOk;rw[signature?_of (id:="object.__init__") (n:=['_','_','t','i','n','i','_','_']) (o:=['t','c','e','j','b','o']) (by kernel_rfl) F.owner_object];kernel_rfl
theorem BF(t0:s.heap.IsTuple l0 Br)(t1:s.heap.IsTuple l1 Bu)(t2:s.heap.IsTuple l2 Sa) (h:∀h',ZS3 s.heap.objs.size l0 l1 l2 0 h'->(∀c o,s.heap.get? c=some o->h'.get? c=some o)->Q (.ref<|s.heap.objs.size+5) {s with heap:=h'}):wpAny (model prog w) A (call (.type "zip") [.ref l0,.ref l1,.ref l2]) Q E s:=by
 refine callType_new F.called_zip (by decide) (BD _ _ _) (BE _ _ _) (λobj=>PY obj _ _ _) F.entry_zip_new (BC l0 l1 l2 Br Bu Sa) {t0,t1,t2,?_};have z1:(Lh s.heap l0).objs.size=s.heap.objs.size+1:=ya ..;have z2:(Li s.heap l0 l1).objs.size=s.heap.objs.size+2:=by rw[ya,z1]
 have z3:(Lj s.heap l0 l1 l2).objs.size=s.heap.objs.size+3:=by rw[ya,z2]
 have z4:(Lk s.heap l0 l1 l2).objs.size=s.heap.objs.size+4:=by rw[ya,z3]
 have z5:(Ll s.heap l0 l1 l2).objs.size=s.heap.objs.size+5:=by rw[ya,z4]
 have z6:(w5 s.heap l0 l1 l2).objs.size=s.heap.objs.size+6:=by rw[ya,z5]
 have g0:(w5 s.heap l0 l1 l2).get? (s.heap).objs.size=some _:=zb _<|zb _<|zb _<|zb _<|zb _<|zi _ rfl;have g1:(w5 s.heap l0 l1 l2).get? (Lh s.heap l0).objs.size=some _:=zb _<|zb _<|zb _<|zb _<|zi _ rfl;have g2:(w5 s.heap l0 l1 l2).get? (Li s.heap l0 l1).objs.size=some _:=zb _<|zb _<|zb _<|zi _ rfl;have g3:(w5 s.heap l0 l1 l2).get? (Lj s.heap l0 l1 l2).objs.size=some _:=zb _<|zb _<|zi _ rfl;have g4:(w5 s.heap l0 l1 l2).get? (Lk s.heap l0 l1 l2).objs.size=some _:=zb _<|zi _ rfl;have g5:(w5 s.heap l0 l1 l2).get? (Ll s.heap l0 l1 l2).objs.size=some _:=zi _ rfl;show _/\_;rw[z3,z4,z5]at g5;rw[z4]at g4;rw[z1,z2,z3]at g3;rw[z1]at g1;rw[z2]at g2;rw[z5];exact{{_,g5,rfl},h _ {g5,g3,!⟨g4⟩,{_,g0,rfl,rfl},{_,g1,rfl,rfl},{_,g2,rfl,rfl}} λc o x=>zb _<|zb _<|zb _<|zb _<|zb _<|zb _ x}
theorem Vals.three(h:Vals [x,y,z] us):∃u v w,us=[u,v,w]/\RelV x u/\RelV y v/\RelV z w:=by cases h with|cons r h=>cases h with|cons q h=>cases h with|cons p h=>cases h;exact{_,_,_,rfl,r,q,p}
section
variable{X:Cx}
def Ln:V->δ V->Hp->VK->Prop:=λx vs H Q=>∃z y,x=.str z/\vs=[.str y]/\Q (.bl<|PySem.Txt.startswith z y) H
theorem rZ:R6 X "str.startswith" Ln:=by intro pins s σ H x vs v us Q I rx rv h;obtain⟨z,y,rfl,rfl,q⟩:=h;obtain⟨t,rfl⟩:=rx;obtain⟨u,rfl,ru⟩:=rv.one;obtain⟨t',rfl⟩:=ru;exact PySem.SC.startswith {.bl _,H,I,rfl,q}
def Y9:V->θ ν->θ ν->Hp->VK->Prop:=λx lo hi H Q=>∃z,x=.str z/\z.length<=sizeLine/\Q (.str<|PySem.Txt.slice z lo hi) H
theorem PZ:T_ X Y9:=by intro pins s σ H x v vl vu lo hi sl Q I rx hs pl pu h;obtain⟨z,rfl,hz,q⟩:=h;obtain⟨t,rfl⟩:=rx;obtain⟨o,e1,e2,e3⟩:=hs;refine{"str",_,F.slot_str_getitem.lookup,typeIs_str _ _ _,?_};have fin:∀k,∀t':Tok,EP X pins σ Q (.str (PySem.Txt.slice z lo hi) t') {s with toks:=k}:=λk t'=>{.str _,H,I.tok k,{_,rfl},q};cases pl with|none=>(cases pu with|none=>exact wpAny_getItem_str_slice (l:=none) (u:=none) (st:=none) ⟨o,e1,e2,e3⟩ rfl (post_val_or_str {zG (Txt.slice_le z _ _) hz,λt' k=>fin k t'})|int j uj=>exact wpAny_getItem_str_slice (l:=none) (u:=some (j,uj)) (st:=none) ⟨o,e1,e2,e3⟩ rfl<|post_val_or_str {zG (Txt.slice_le z _ _) hz,λt' k=>fin k t'})|int i ui=>cases pu with|none=>exact wpAny_getItem_str_slice (l:=some (i,ui)) (u:=none) (st:=none) ⟨o,e1,e2,e3⟩ rfl (post_val_or_str {zG (Txt.slice_le z _ _) hz,λt' k=>fin k t'})|int j uj=>exact wpAny_getItem_str_slice (l:=some (i,ui)) (u:=some (j,uj)) (st:=none) ⟨o,e1,e2,e3⟩ rfl<|post_val_or_str {zG (Txt.slice_le z _ _) hz,λt' k=>fin k t'}
end
end L2
namespace L2
open PySem PySem.Spec PyProof.Rows PySem.SeqAt
end L2
namespace L2
open PySem PySem.Spec PyProof.Rows
theorem uJ(l:ε)(items:Array ξ)(n:π)(b:ε)(p7:Array ξ)(n2:π)(sl:Array<|θ ξ)(Sb:¬(!items.isEmpty&&Builtin.List.listTooLong (items.size+p7.size))=true)(Se:items.size<=sizeLine)(wK:items.size+p7.size<=sizeLine+1): Meets (Builtin.«list.extend» {[.ref l,.ref b],[]}) (λ_ R s=>s.heap.get? l=some {cls:=.type "list",dict:=none,data:=.seq items n,slots:=#[]}/\s.heap.get? b=some {cls:=.type "tuple",dict:=none,data:=.seq p7 n2,slots:=sl}/\R (.ok<|.ret Value.none) {s with heap:=s.heap.update l<|Obj.mapSeq λx=>x++p7,toks:=s.toks}):=.of_wp λprog w A R s h=>by
 obtain⟨hp,g,d,tk,os⟩:=s;obtain⟨hl,hb,h⟩:=h;have f1:=AutoSeq1.idx_int;have f2:=AutoSeq1.sub_tuple_tuple;have f3:=AutoSeq1.sub_list_list;have f4:=AutoSeq1.sub_tuple_list;have f5:=AutoSeq1.sub_list_tuple;have Xa:(items++p7).size<=sizeLine+1:=by rw[Array.size_append];exact wK
 wp_walk using (wpAny_updateSeq hl rfl (hz:=Se) (_hz':=Xa)),AutoSeq1.wpAny_loadPart' hl,AutoSeq1.wpAny_loadPart' hb;exact{_,rfl,h}
section
variable{X:Cx}
def Hx:V->δ V->Hp->VK->Prop:=λx vs H Q=>∃l b xs zs,x=.ref l/\vs=[.ref b]/\H l=some (.lst xs)/\H b=some (.tup zs)/\xs.length+zs.length<=sizeLine/\Q .au (upd H l<|.lst<|xs++zs)
theorem BG:W7 X "list.extend" Hx:=by
 intro pins s σ H x vs v us Q I rx rv h;obtain⟨l,b,xs,zs,rfl,rfl,hH,hB,hz,q⟩:=h;cases rx;obtain⟨u,rfl,ru⟩:=rv.one;cases ru;obtain⟨z,ar,n,r,hl,e⟩:=I.EV hH;obtain⟨z2,uA,r2,⟨c2,d2,dt2,Uy⟩,e2,ec,ed,n2,en⟩:=(show aS X.prog X.w H s.heap b (.tup zs) from I.aI b _ hB);dsimp only at ec ed en;subst ec ed en;have KJ:=r2.length;have hsz:ar.toArray.size+uA.toArray.size<=sizeLine:=by rw[zr,zr];lia
 have UD:¬(!ar.toArray.isEmpty&&Builtin.List.listTooLong (ar.toArray.size+uA.toArray.size))=true:=by rw[G8 hsz,Bool.and_false];exact zd
 refine call_meets F.slot_list_extend {_,e,rfl} F.entry_list_extend (F.args_list_extend_2 _ _) (uJ l ar.toArray n b uA.toArray n2 Uy UD (by rw[zr];lia)<|by lia) {e,e2,?_};refine{.au,_,I.KG (its':=ar++uA) hH e (by simp) (r.append r2) ?_,rfl,q};rw[zA];lia
end
set_option genInjectivity true in
set_option genSizeOfSpec true in
inductive D where
 |au|bl (b:χ)|int (i:ν)|str (x:ρ)|tup (ds:δ D)|jD (ds:δ D)|kt (ds:δ D)|ref (a:ε)|ty (n:String)
def Y_(K:Φ)(a:ε)(xs:δ V):Prop:=∃(o:Obj)(ar:Array ξ)(n:π),K.lookup a=some o/\o.cls=.type "tuple"/\o.data=.seq ar n/\ar.size<=sizeLine/\Vals xs ar.toList
def Nc(K:Φ)(H:Hp)(a:ε)(xs:δ V):Prop:=(∃o,H a=some (.jA o<|.lst xs))\/∃(o:Obj)(ar:Array ξ)(n:π),K.lookup a=some o/\o.cls=.type "list"/\o.dict=none/\o.data=.seq ar n/\ar.size<=sizeLine/\Vals xs ar.toList
theorem Nc.sq{K:Φ}{H:Hp}{a:ε}{xs:δ V}(h:Nc K H a xs):iu K H a xs:=by rcases h with h|h;exact .inl<|.inr h;exact .inr h
structure Kp(K:Φ)(H H':Hp):η where
 t:∀a xs,H a=some (.tup xs)->H' a=some (.tup xs)
 r:∀a xs,Nc K H a xs->Nc K H' a xs
 f:∀a o u,H a=some (.jA o u)->H' a=some (.jA o u)
theorem Kp.refl{K:Φ}(H:Hp):Kp K H H:={λ_ _ h=>h,λ_ _ h=>h,λ_ _ _ h=>h}
theorem Kp.trans{K:Φ}{H H1 H2:Hp}(a:Kp K H H1)(b:Kp K H1 H2):Kp K H H2:={λp xs h=>b.t p xs<|a.t p xs h,λp xs h=>b.r p xs<|a.r p xs h,λp o u h=>b.f p o u<|a.f p o u h}
theorem Kp.of{K:Φ}{H H':Hp}(h:∀b o,H b=some o->H' b=some o\/(∀xs,o≠.tup xs)/\∀u v,o≠.jA u v):Kp K H H' where
 t:=λa xs q=>(h _ _ q).resolve_right λz=>z.1 _ rfl
 r:=λa xs q=>by
  rcases q with⟨o,q⟩|q
  ·exact .inl {o,(h _ _ q).resolve_right λz=>z.2 _ _ rfl}
  ·exact .inr q
 f:=λa o u q=>(h _ _ q).resolve_right λz=>z.2 _ _ rfl
theorem Kp.new{K:Φ}{H:Hp}{a:ε}{o:HO}(h:H a=none):Kp K H (upd H a o):=.of λb u e=>.inl<|by rw[av<|aC e h];exact e
theorem Kp.put{K:Φ}{H:Hp}{a:ε}{o u:HO}(h:H a=some o)(h1:∀xs,o≠.tup xs)(h2:∀u v,o≠.jA u v):Kp K H (upd H a u):=.of λb v e=>by by_cases q:b=a;subst q;rw[h]at e;cases e;exact .inr ⟨h1,h2⟩;exact .inl<|by rw[av q];exact e
mutual
def Rv(K:Φ)(H:Hp):D->V->η|.au,v=>v=.au|.bl b,v=>v=.bl b|.int i,v=>v=.int i|.str z,v=>v=.str z|.tup ds,v=>∃a xs,v=.ref a/\H a=some (.tup xs)/\RvAll K H ds xs|.jD ds,v=>∃a xs,v=.ref a/\Nc K H a xs/\RvAll K H ds xs|.kt ds,v=>∃a xs,v=.ref a/\Y_ K a xs/\RvAll K H ds xs|.ref a,v=>v=.ref a|.ty n,v=>v=.ty n
def RvAll(K:Φ)(H:Hp):δ D->δ V->η|[],xs=>xs=[]|d::ds,xs=>∃y ys,xs=y::ys/\Rv K H d y/\RvAll K H ds ys
end
section
variable{K:Φ}{H H':Hp}
theorem iN:Rv K H .au .au:=by simp only[Rv]
theorem bY(b:χ):Rv K H (.bl b) (.bl b):=by simp only[Rv]
theorem aM(i:ν):Rv K H (.int i) (.int i):=by simp only[Rv]
theorem dI(z:ρ):Rv K H (.str z) (.str z):=by simp only[Rv]
theorem iO(a:ε):Rv K H (.ref a) (.ref a):=by simp only[Rv]
theorem UE(n:String):Rv K H (.ty n) (.ty n):=by simp only[Rv]
theorem Nd(h:Y_ K a xs)(t:RvAll K H ds xs):Rv K H (.kt ds) (.ref a):=by simp only[Rv];exact⟨a,xs,rfl,h,t⟩
theorem mB(h:H a=some (.tup xs))(t:RvAll K H ds xs):Rv K H (.tup ds) (.ref a):=by simp only[Rv];exact⟨a,xs,rfl,h,t⟩
theorem Hy(h:Nc K H a xs)(t:RvAll K H ds xs):Rv K H (.jD ds) (.ref a):=by simp only[Rv];exact⟨a,xs,rfl,h,t⟩
theorem Rv.au(h:Rv K H .au v):v=.au:=by simpa only[Rv]using h
theorem Rv.bl(h:Rv K H (.bl b) v):v=.bl b:=by simpa only[Rv]using h
theorem Rv.int(h:Rv K H (.int i) v):v=.int i:=by simpa only[Rv]using h
theorem Rv.str(h:Rv K H (.str z) v):v=.str z:=by simpa only[Rv]using h
theorem Rv.ref(h:Rv K H (.ref a) v):v=.ref a:=by simpa only[Rv]using h
theorem Rv.ty(h:Rv K H (.ty n) v):v=.ty n:=by simpa only[Rv]using h
theorem Rv.kt(h:Rv K H (.kt ds) v):∃a xs,v=.ref a/\Y_ K a xs/\RvAll K H ds xs:=by simpa only[Rv]using h
theorem Rv.tup(h:Rv K H (.tup ds) v):∃a xs,v=.ref a/\H a=some (.tup xs)/\RvAll K H ds xs:=by simpa only[Rv]using h
theorem Rv.jD(h:Rv K H (.jD ds) v):∃a xs,v=.ref a/\Nc K H a xs/\RvAll K H ds xs:=by simpa only[Rv]using h
theorem bA:RvAll K H [] []:=by simp only[RvAll]
theorem aR(h:Rv K H d x)(t:RvAll K H ds xs):RvAll K H (d::ds) (x::xs):=by simp only[RvAll];exact⟨x,xs,rfl,h,t⟩
theorem RvAll.nil(h:RvAll K H [] xs):xs=[]:=by simpa only[RvAll]using h
theorem RvAll.cons(h:RvAll K H (d::ds) xs):∃y ys,xs=y::ys/\Rv K H d y/\RvAll K H ds ys:=by simpa only[RvAll]using h
mutual
theorem Rv.ts(s:Kp K H H'):∀(d:D){v:V},Rv K H d v->Rv K H' d v|.au,v,h=>by simpa only[Rv]using h|.bl b,v,h=>by simpa only[Rv]using h|.int i,v,h=>by simpa only[Rv]using h|.str z,v,h=>by simpa only[Rv]using h|.tup ds,v,h=>(by obtain⟨a,xs,rfl,e,t⟩:=h.tup;exact mB (s.t _ _ e)<|RvAll.ts s ds t)|.jD ds,v,h=>(by obtain⟨a,xs,rfl,e,t⟩:=h.jD;exact Hy (s.r _ _ e)<|RvAll.ts s ds t)|.kt ds,v,h=>(by obtain⟨a,xs,rfl,e,t⟩:=h.kt;exact Nd e<|RvAll.ts s ds t)|.ref a,v,h=>by simpa only[Rv]using h|.ty n,v,h=>by simpa only[Rv]using h
theorem RvAll.ts(s:Kp K H H'):∀(ds:δ D){xs:δ V},RvAll K H ds xs->RvAll K H' ds xs|[],xs,h=>by rw[h.nil];exact bA|d::ds,xs,h=>by obtain⟨y,ys,rfl,h1,h2⟩:=h.cons;exact aR (Rv.ts s d h1)<|RvAll.ts s ds h2
end
theorem RvAll.len:∀{ds:δ D}{xs:δ V},RvAll K H ds xs->xs.length=ds.length|[],xs,h=>by rw[h.nil];rfl|d::ds,xs,h=>by obtain⟨y,ys,rfl,_,h2⟩:=h.cons;rw[zO,zO,h2.len]
theorem RvAll.get:∀{ds:δ D}{xs:δ V}{i:π}{d:D},RvAll K H ds xs->ds[i]?=some d->∃v,xs[i]?=some v/\Rv K H d v|[],xs,i,d,h,e=>by simp at e|d0::ds,xs,0,d,h,e=>(by obtain⟨y,ys,rfl,h1,h2⟩:=h.cons;simp at e;subst e;exact⟨y,rfl,h1⟩)|d0::ds,xs,i+1,d,h,e=>by obtain⟨y,ys,rfl,h1,h2⟩:=h.cons;obtain⟨v,e1,e2⟩:=h2.get (i:=i) (by simpa using e);exact{v,by simpa using e1,e2}
theorem RvAll.app:∀{ds es:δ D}{xs ys:δ V},RvAll K H ds xs->RvAll K H es ys->RvAll K H (ds++es) (xs++ys)|[],es,xs,ys,h,k=>by rw[h.nil];exact k|d::ds,es,xs,ys,h,k=>by obtain⟨y,zs,rfl,h1,h2⟩:=h.cons;exact aR h1<|h2.app k
theorem RvAll.take:∀{ds:δ D}{xs:δ V}(n:π),RvAll K H ds xs->RvAll K H (ds.take n) (xs.take n)|[],xs,n,h=>by rw[h.nil];simp only[List.take_nil];exact bA|d::ds,xs,0,h=>by simp only[List.take_zero];exact bA|d::ds,xs,n+1,h=>by obtain⟨y,zs,rfl,h1,h2⟩:=h.cons;exact aR h1<|h2.take n
theorem RvAll.drop:∀{ds:δ D}{xs:δ V}(n:π),RvAll K H ds xs->RvAll K H (ds.drop n) (xs.drop n)|[],xs,n,h=>by rw[h.nil];simp only[List.drop_nil];exact bA|d::ds,xs,0,h=>h|d::ds,xs,n+1,h=>by obtain⟨y,zs,rfl,h1,h2⟩:=h.cons;exact h2.drop n
theorem RvAll.set:∀{ds:δ D}{xs:δ V}{d:D}{v:V}(n:π),RvAll K H ds xs->Rv K H d v->RvAll K H (ds.set n d) (xs.set n v)|[],xs,d,v,n,h,r=>by rw[h.nil];exact bA|d0::ds,xs,d,v,0,h,r=>(by obtain⟨y,zs,rfl,h1,h2⟩:=h.cons;exact aR r h2)|d0::ds,xs,d,v,n+1,h,r=>by obtain⟨y,zs,rfl,h1,h2⟩:=h.cons;exact aR h1<|h2.set n r
theorem RvAll.erase:∀{ds:δ D}{xs:δ V}(n:π),RvAll K H ds xs->RvAll K H (ds.eraseIdx n) (xs.eraseIdx n)|[],xs,n,h=>by rw[h.nil];exact bA|d::ds,xs,0,h=>(by obtain⟨y,zs,rfl,h1,h2⟩:=h.cons;exact h2)|d::ds,xs,n+1,h=>by obtain⟨y,zs,rfl,h1,h2⟩:=h.cons;exact aR h1<|h2.erase n
theorem RvAll.dropLast:∀{ds:δ D}{xs:δ V},RvAll K H ds xs->RvAll K H ds.dropLast xs.dropLast|[],xs,h=>by rw[h.nil];exact bA|[d],xs,h=>(by obtain⟨y,zs,rfl,h1,h2⟩:=h.cons;rw[h2.nil];exact bA)|d::e::ds,xs,h=>by obtain⟨y,zs,rfl,h1,h2⟩:=h.cons;obtain⟨y2,zs2,rfl,h3,h4⟩:=id h2.cons;exact aR h1<|RvAll.dropLast h2
theorem RvAll.bools:∀{bs:δ χ}{xs:δ V},RvAll K H (bs.map D.bl) xs->xs=bs.map V.bl|[],xs,h=>h.nil|b::bs,xs,h=>by obtain⟨y,ys,rfl,h1,h2⟩:=h.cons;rw[h1.bl,h2.bools];rfl
theorem RvAll.ints:∀{bs:δ ν}{xs:δ V},RvAll K H (bs.map D.int) xs->xs=bs.map V.int|[],xs,h=>h.nil|b::bs,xs,h=>by obtain⟨y,ys,rfl,h1,h2⟩:=h.cons;rw[h1.int,h2.ints];rfl
theorem RvAll.strs:∀{bs:δ ρ}{xs:δ V},RvAll K H (bs.map D.str) xs->xs=bs.map V.str|[],xs,h=>h.nil|b::bs,xs,h=>by obtain⟨y,ys,rfl,h1,h2⟩:=h.cons;rw[h1.str,h2.strs];rfl
theorem Dj:∀(bs:δ ν),RvAll K H (bs.map D.int) (bs.map V.int)|[]=>bA|b::bs=>aR (aM b)<|Dj bs
theorem uK:∀(bs:δ ρ),RvAll K H (bs.map D.str) (bs.map V.str)|[]=>bA|b::bs=>aR (dI b)<|uK bs
def bR{κ:Type}(K:Φ)(H:Hp):δ (κ×D)->δ (κ×V)->Prop:=Paired λp q=>p.1=q.1/\Rv K H p.2 q.2
theorem bR.ts(s:Kp K H H'):∀{ks:δ (κ×D)}{vs:δ (κ×V)},bR K H ks vs->bR K H' ks vs|_,_,.nil=>.nil|_,_,.cons r t=>.cons {r.1,Rv.ts s _ r.2}<|bR.ts s t
theorem bR.look(h:bR K H ks vs)(f:ρ):(∀d,ks.lookup f=some d->∃v,vs.lookup f=some v/\Rv K H d v)/\(ks.lookup f=none->vs.lookup f=none):=by induction h with|nil=>(exact{λd e=>(by cases e),λ_=>rfl})|@cons a b l m r t ih=>obtain⟨k,d⟩:=a;obtain⟨k',v⟩:=b;obtain⟨rfl,r⟩:=r;simp only[yg];cases q:f==k with|true=>(exact{λd' e=>{v,rfl,(by cases e;exact r)},λe=>(by cases e)})|false=>exact ih
end
set_option genInjectivity true in
set_option genSizeOfSpec true in
inductive Ce where
 |lst (ds:δ D)|bG (kvs:δ<|Key×D)|ins (c:ε) (fs:δ<|ρ×D)|well|exc (c:ε)|tab (q:ρ)|raw (o:HO)
def Dk(H:Hp)(q:ρ)(ps:Array ξ):Prop:=TriplesOk ps.toList/\∀pos cv,codeAmong pos ps.toList=some cv->∃c o vs t,cv=.ref c/\H c=some (.jA o<|.own 0)/\o.data=.fields vs/\vs[1]?=some (.str q t)
abbrev ak:=ε->θ Ce
noncomputable def ak.set(S:ak)(a:ε)(c:Ce):ak:=λb=>if b=a then some c else S b
theorem aa{S:ak}{a:ε}{c:Ce} : S.set a c a=some c:=by unfold ak.set;rw[xL rfl]
theorem ae{S:ak}{a b:ε}{c:Ce}(h:b≠a):S.set a c b=S b:=by unfold ak.set;rw[xz h]
theorem ba{S:ak}{a:ε}{c e:Ce} : (S.set a c).set a e=S.set a e:=by funext b;unfold ak.set;split<;>rfl
theorem gC{S:ak}{a b:ε}{c:Ce}(h:S a=some c)(h':S b=none):a≠b:=by intro e;subst e;rw[h]at h';cases h'
def Rc(K:Φ)(H:Hp)(a:ε):Ce->η|.lst ds=>∃xs,H a=some (.lst xs)/\RvAll K H ds xs|.bG kvs=>∃vs,H a=some (.dK vs)/\bR K H kvs vs|.ins c fs=>∃dx vs,H a=some (.ins c dx vs)/\bR K H fs vs|.well=>∃x y z:ν,H a=some (.lst [.int x,.int y,.int z])|.exc c=>H a=some (Y1 a<|.ref c)|.tab q=>∃ps,H a=some (.oP ps)/\Dk H q ps|.raw o=>H a=some o/\(∀xs,o≠.tup xs)/\∀u v,o≠.jA u v
def Rs(K:Φ)(S:ak)(H:Hp):Prop:=∀a c,S a=some c->Rc K H a c
section
variable{K:Φ}{H H':Hp}{S:ak}{a b:ε}{c:Ce}
theorem Rc.has(h:Rc K H a c):∃o,H a=some o/\(∀xs,o≠.tup xs)/\∀u v,o≠.jA u v:=by cases c with|lst ds=>(obtain⟨xs,e,_⟩:=h;exact{_,e,λ_=>nofun,λ_ _=>nofun})|bG ds=>(obtain⟨xs,e,_⟩:=h;exact{_,e,λ_=>nofun,λ_ _=>nofun})|ins c fs=>(obtain⟨dx,vs,e,_⟩:=h;exact{_,e,λ_=>nofun,λ_ _=>nofun})|well=>(obtain⟨x,y,z,e⟩:=h;exact{_,e,λ_=>nofun,λ_ _=>nofun})|exc c=>exact{_,h,λ_=>nofun,λ_ _=>nofun}|tab q=>(obtain⟨ps,e,_⟩:=h;exact{_,e,λ_=>nofun,λ_ _=>nofun})|raw o=>exact⟨o,h⟩
theorem Rc.keep(h:Rc K H a c)(e:∀o,H a=some o->H' a=some o)(s:Kp K H H'):Rc K H' a c:=by cases c with|lst ds=>(obtain⟨xs,e1,r⟩:=h;exact{xs,e _ e1,RvAll.ts s _ r})|bG ds=>(obtain⟨xs,e1,r⟩:=h;exact{xs,e _ e1,r.ts s})|ins c fs=>(obtain⟨dx,vs,e1,r⟩:=h;exact{dx,vs,e _ e1,r.ts s})|well=>(obtain⟨x,y,z,e1⟩:=h;exact{x,y,z,e _ e1})|exc c=>exact e _ h|tab q=>(obtain⟨ps,e1,r,r2⟩:=h;exact{ps,e _ e1,r,λpos cv z=>by obtain⟨c,o,vs,t,z1,z2,z3⟩:=r2 pos cv z;exact{c,o,vs,t,z1,s.f _ _ _ z2,z3}})|raw o=>exact{e _ h.1,h.2}
theorem Rs.fresh(h:Rs K S H)(e:H a=none):S a=none:=by cases q:S a with|none=>rfl|some c=>obtain⟨o,e1,_⟩:=(h a c q).has;rw[e]at e1;cases e1
theorem Rs.new(h:Rs K S H)(e:H a=none){o:HO}(r:Rc K (upd H a o) a c):Rs K (S.set a c) (upd H a o):=λb x hb=>by by_cases q:b=a;subst q;rw[aa]at hb;cases hb;exact r;rw[ae q]at hb;exact(h b x hb).keep (λo e1=>by rw[av q];exact e1)<|Kp.new e
theorem Rs.grow(h:Rs K S H)(e:H a=none):Rs K S (upd H a o):=λb x hb=>by obtain⟨u,e1,_⟩:=(h b x hb).has;have q:b≠a:=aC e1 e;exact(h b x hb).keep (λo e1=>by rw[av q];exact e1)<|Kp.new e
theorem Rs.gF(h:Rs K S H)(ha:S a=some e):Kp K H (upd H a o):=by obtain⟨u,e1,n1,n2⟩:=(h a e ha).has;exact Kp.put e1 n1 n2
theorem Rs.put(h:Rs K S H){e:Ce}(ha:S a=some e){o:HO}(r:Rc K (upd H a o) a c):Rs K (S.set a c) (upd H a o):=λb x hb=>by by_cases q:b=a;subst q;rw[aa]at hb;cases hb;exact r;rw[ae q]at hb;exact(h b x hb).keep (λo e1=>by rw[av q];exact e1)<|h.gF ha
theorem Rs.lst(h:Rs K S H)(e:S a=some (.lst ds)):∃xs,H a=some (.lst xs)/\RvAll K H ds xs:=h a _ e
theorem Rs.bG(h:Rs K S H)(e:S a=some (.bG ds)):∃xs,H a=some (.dK xs)/\bR K H ds xs:=h a _ e
theorem Rs.ins{c:ε}{fs:δ<|ρ×D}(h:Rs K S H)(e:S a=some (.ins c fs)):∃dx vs,H a=some (.ins c dx vs)/\bR K H fs vs:=h a _ e
end
abbrev KD:=D->ak->η
abbrev KX:=ε->ak->η
abbrev SD:=δ<|θ D
def gG(K:Φ)(H:Hp):SD->St->Prop:=Paired λ(o:θ D)(u:θ V)=>∀d,o=some d->∃v,u=some v/\Rv K H d v
section
variable{K:Φ}{H H':Hp}
theorem gG.ts(s:Kp K H H'):∀{σ:SD}{τ:St},gG K H σ τ->gG K H' σ τ|_,_,.nil=>.nil|_,_,.cons r t=>.cons (λd e=>by obtain⟨v,e1,r1⟩:=r d e;exact{v,e1,Rv.ts s _ r1})<|gG.ts s t
theorem gG.get:∀{σ:SD}{τ:St}{i:π}{d:D},gG K H σ τ->σ[i]?=some (some d)->∃v,τ[i]?=some (some v)/\Rv K H d v|_,_,i,d,.nil,e=>by simp at e|_,_,0,d,.cons r t,e=>(by simp at e;obtain⟨v,e1,r1⟩:=r d e;exact{v,by simp[e1],r1})|_,_,i+1,d,.cons r t,e=>by obtain⟨v,e1,r1⟩:=gG.get (i:=i) t (by simpa using e);exact{v,by simpa using e1,r1}
theorem gG.set:∀{σ:SD}{τ:St}(i:π){d:D}{v:V},gG K H σ τ->Rv K H d v->gG K H (σ.set i<|some d) (τ.set i<|some v)|_,_,i,d,v,.nil,r=>.nil|_,_,0,d,v,.cons r t,q=>(.cons (λd' e=>by cases e;exact⟨v,rfl,q⟩) t)|_,_,i+1,d,v,.cons r t,q=>.cons r<|gG.set i t q
theorem p8:∀(n:π)(τ:St),τ.length=n->gG K H (List.replicate n none) τ|0,[],_=>.nil|n+1,_::τ,h=>.cons (λd e=>by cases e)<|p8 n τ<|by simpa using h
theorem p9:∀{ds:δ D}{vs:δ V},RvAll K H ds vs->gG K H (ds.map some) (vs.map some)|[],vs,h=>by rw[h.nil];exact .nil|d::ds,vs,h=>by obtain⟨y,ys,rfl,h1,h2⟩:=h.cons;exact .cons (λd' e=>by cases e;exact⟨y,rfl,h1⟩)<|p9 h2
theorem gG.app:∀{σ ax:SD}{τ Sf:St},gG K H σ τ->gG K H ax Sf->gG K H (σ++ax) (τ++Sf)|_,_,_,_,.nil,h=>h|_,_,_,_,.cons r t,h=>.cons r<|gG.app t h
end
structure Rdy(Y:Cx)(E:St->XK)(b:χ):η where
 call:∀p2 τ H s e s',Inv Y p2 τ H s->fF Y.prog Y.w Y.mg Y.stack H s (E τ) e s'->Y.xe e s'
 own:b=true->∀p2 τ H s h' a cls args,Inv Y p2 τ H s->Heap.MadeExcOf s.heap h' a cls args->E τ cls none H->Y.xe (.ref a) {s with heap:=h'}
 loop:b=true->PassesOwn (model Y.prog Y.w) Y.A Y.env Y.xe
structure Ev(X:Cx)(b:χ) where
 pn:δ (ε×Obj)
 xe:ξ->ζ->η
 E:St->XK
 ok:Rdy {X with pn:=pn,xe:=xe} E b
noncomputable abbrev Ev.cx{X:Cx}{b:χ}(y:Ev X b):Cx:={X with pn:=y.pn,xe:=y.xe}
def Cn(K:Φ)(H:Hp)(R:KD)(Q:VK):Prop:=∀d S v H',R d S->Rv K H' d v->Rs K S H'->Kp K H H'->Q v H'
def Fe(K:Φ)(H:Hp)(Z:KX)(e:XK):Prop:=∀C S H',Z C S->Rs K S H'->Kp K H H'->e (.ref C) none H'
theorem Cn.kp{K:Φ}{H H1:Hp}{R:KD}{Q:VK}(h:Cn K H R Q)(k:Kp K H H1):Cn K H1 R Q:=λd S v H' r v1 s1 k1=>h d S v H' r v1 s1<|k.trans k1
theorem Fe.kp{K:Φ}{H H1:Hp}{Z:KX}{e:XK}(h:Fe K H Z e)(k:Kp K H H1):Fe K H1 Z e:=λC S H' r s1 k1=>h C S H' r s1<|k.trans k1
abbrev TD:=SD->ak->KD->KX->η
def T(K:Φ)(E:St->XK)(t:TD):TE:=λτ H Q=>∃σ S R Z,gG K H σ τ/\Rs K S H/\t σ S R Z/\Cn K H R Q/\Fe K H Z (E τ)
structure DE(K:Φ)(X:Cx)(e:Δ)(t:TD):η where
 of:∀{b:χ}(y:Ev X b),PE y.cx e<|T K y.E t
abbrev jE:=SD->ak->(χ->ak->η)->KX->η
def Xb(K:Φ)(H:Hp)(R:χ->ak->η)(Q:χ->Hp->η):Prop:=∀b S H',R b S->Rs K S H'->Kp K H H'->Q b H'
theorem Xb.kp{K:Φ}{H H1:Hp}{R:χ->ak->η}{Q:χ->Hp->η}(h:Xb K H R Q)(k:Kp K H H1):Xb K H1 R Q:=λd S H' r s1 k1=>h d S H' r s1<|k.trans k1
def Tt(K:Φ)(E:St->XK)(t:jE):TT:=λτ H Q=>∃σ S R Z,gG K H σ τ/\Rs K S H/\t σ S R Z/\Xb K H R Q/\Fe K H Z (E τ)
structure DT(K:Φ)(X:Cx)(e:Δ)(t:jE):η where
 of:∀{b:χ}(y:Ev X b),PT y.cx e<|Tt K y.E t
abbrev iD:=SD->ak->(δ D->ak->η)->KX->η
def CnA(K:Φ)(H:Hp)(R:δ D->ak->η)(Q:δ V->Hp->η):Prop:=∀ds S vs H',R ds S->RvAll K H' ds vs->Rs K S H'->Kp K H H'->Q vs H'
def Ta(K:Φ)(E:St->XK)(t:iD):TA:=λτ H Q=>∃σ S R Z,gG K H σ τ/\Rs K S H/\t σ S R Z/\CnA K H R Q/\Fe K H Z (E τ)
structure DA(K:Φ)(X:Cx)(es:δ Δ)(t:iD):η where
 of:∀{b:χ}(y:Ev X b),PA y.cx es<|Ta K y.E t
theorem PE.mono{t t':TE}(h:PE X e t)(i:∀τ H Q,t' τ H Q->t τ H Q):PE X e t':=λpins s τ H Q I q=>h pins s τ H Q I<|i τ H Q q
theorem PT.mono{t t':TT}(h:PT X e t)(i:∀τ H Q,t' τ H Q->t τ H Q):PT X e t':=λpins s τ H Q I q=>h pins s τ H Q I<|i τ H Q q
theorem PA.mono{t t':TA}(h:PA X e t)(i:∀τ H Q,t' τ H Q->t τ H Q):PA X e t':=λpos pins s τ H Q I q=>h pos pins s τ H Q I<|i τ H Q q
section
variable{K:Φ}{X:Cx}
inductive UG (i:π) (σ:SD) (S:ak) (R:KD):η where
 |mk (d:D) (h:σ[i]?=some (some d)) (r:R d S)
def UH(i:π):TD:=λσ S R _=>UG i σ S R
inductive Sh (x:D) (S:ak) (R:χ->ak->η):η where
 |mk (b:χ) (h:x=.bl b) (r:R b S)
def dC(d:D):TD:=λ_ S R _=>R d S
theorem dv(i:π)(hN:ψ (X.N[i]?=some x) qQJ)(hv:Ov X.env.scope x:=by first|exact Or.inl rfl|exact Or.inr (Or.inl rfl)|exact Or.inr (Or.inr rfl))(hd:ψ ((x==("__debug__": ρ))=false) qQZ) (rH:ψ ((x==("__classdict__": ρ))=false) qQZ):DE K X (.Name x pos) (UH i):=⟨λy=>(OC (X:=y.cx) hN hv hd rH).mono <| by rintro τ H Q ⟨σ,S,R,Z,aA,hS,⟨d,e,r⟩,hR,_⟩;exact by obtain⟨v,e1,rv⟩:=aA.get e;exact{v,e1,hR d S v H r rv hS<|Kp.refl _}⟩
theorem DE.const(h:∀Y:Cx,Y.env=X.env->Y.mg=X.mg->PE Y e (tC v))(r:∀H,Rv K H d v):DE K X e (dC d):=⟨λy=>(h y.cx rfl rfl).mono <| by rintro τ H Q ⟨σ,S,R,Z,aA,hS,q,hR,_⟩;exact hR d S v H q (r H) hS<|Kp.refl _⟩
theorem di:DE K X (.Constant (.int i) j pos) (dC<|.int i):=.const (λ_ _ _=>OD) λ_=>aM i
theorem ds:DE K X (.Constant (.str i) j pos) (dC<|.str i):=.const (λ_ _ _=>OF) λ_=>dI i
theorem db:DE K X (.Constant (.bool i) j pos) (dC<|.bl i):=.const (λ_ _ _=>MV) λ_=>bY i
theorem dn:DE K X (.Constant .none j pos) (dC .au):=.const (λ_ _ _=>OE) λ_=>iN
theorem dg(hm:X.mg x=some u)(r:RelV v u)(rd:∀H,Rv K H d v)(hg:ψ (Gl X x) qQJ)(hd:ψ ((x==("__debug__": ρ))=false) qQZ):DE K X (.Name x pos) (dC d):=.const (λY e1 e2=>C3 (X:=Y) (u:=u) (show Y.env.kindOf x=_ by rw[e1];exact hg) (by rw[e2];exact hm) r hd) rd
theorem wz(hm:X.mg x=none)(hv:bootBuiltins x=some (.type n))(hg:ψ (Gl X x) qQJ)(hn:ψ (x≠"__name__") qQZ)(hd:ψ ((x==("__debug__": ρ))=false) qQZ):DE K X (.Name x pos) (dC<|.ty n):=.const (λY e1 e2=>Kg (X:=Y) (v:=.ty n) (show Y.env.kindOf x=_ by rw[e1];exact hg) (by rw[e2];exact hm) hv rfl hn hd) λ_=>UE n
def Lo:iD:=λ_ S R _=>R [] S
def Nf(t:TD)(u:iD):iD:=λσ S R Z=>t σ S (λd S1=>u σ S1 (λds S2=>R (d::ds) S2) Z) Z
theorem an:DA K X [] Lo:=⟨λy=>(A7 (X:=y.cx)).mono <| by rintro τ H Q ⟨σ,S,R,Z,aA,hS,q,hR,_⟩;exact hR [] S [] H q bA hS<|Kp.refl _⟩
theorem ac{t:TD}(h:DE K X e t)(hr:DA K X es u)(hp:ψ (isPlain e=true) qQJ):DA K X (e::es) (Nf t u):=
 ⟨λy=>(YX (h.of y) (hr.of y) hp).mono <| by rintro τ H Q ⟨σ,S,R,Z,aA,hS,q,hR,hZ⟩;exact
  ⟨σ,S,_,Z,aA,hS,q,λd S1 x H1 r1 v1 s1 k1=>⟨σ,S1,_,Z,aA.ts k1,s1,r1,λds S2 xs H2 r2 v2 s2 k2=>hR (d::ds) S2 (x::xs) H2 r2 (aR (Rv.ts k2 _ v1) v2) s2<|k1.trans k2,hZ.kp k1⟩,hZ⟩⟩
abbrev uL:=D->D->ak->KD->η
theorem ap{x:ρ}{pos:Pos}(i:π)(hr:DA K X es u)(hN:ψ (X.N[i]?=some x) qQJ)(hv:Ov X.env.scope x:=by first|exact Or.inl rfl|exact Or.inr (Or.inl rfl)|exact Or.inr (Or.inr rfl))(hd:ψ ((x==("__debug__": ρ))=false) qQZ) (rH:ψ ((x==("__classdict__": ρ))=false) qQZ):DA K X (.Name x pos::es) (Nf (UH i) u):=ac (dv i hN hv hd rH) hr rfl
def Lr(K:Φ)(r:uL):R2:=λx y H Q=>∃d e S R,Rv K H d x/\Rv K H e y/\Rs K S H/\r d e S R/\Cn K H R Q
def oZ(K:Φ)(f:ξ->ξ->Sem ξ)(r:uL):Prop:=∀X:Cx,X.K=K->X.A.units+64<cLine->gE X f (Lr K r)
def P0(r:uL)(ta tb:TD):TD:=λσ S R Z=>ta σ S (λx S1=>tb σ S1 (λy S2=>r x y S2 R) Z) Z
theorem T.op(h:T K E (P0 r ta tb) τ H Q):R4 (Lr K r) (T K E ta) (T K E tb) τ H Q:=by obtain⟨σ,S,R,Z,aA,hS,q,hR,hZ⟩:=h;exact{σ,S,_,Z,aA,hS,q,λd S1 x H1 r1 v1 s1 k1=>{σ,S1,_,Z,aA.ts k1,s1,r1,λe S2 y H2 r2 v2 s2 k2=>{d,e,S2,R,Rv.ts k2 _ v1,v2,s2,r2,hR.kp<|k1.trans k2},hZ.kp k1},hZ}
theorem bo(ho:oZ K (binaryOp op) r)(hu:X.A.units+64<cLine)(ha:DE K X a ta)(hb:DE K X b tb)(hK:ψ (X.K=K) qQJ):DE K X (.BinOp a op b pos) (P0 r ta tb):=⟨λy=>(TM (ho y.cx hK hu) (ha.of y)<|hb.of y).mono λ_ _ _ h=>h.op⟩
theorem cm(ho:oZ K (compareOp op) r)(hu:X.A.units+64<cLine)(ha:DE K X a ta)(hb:DE K X b tb)(hm:ψ (behindInMarks op b=false) qQ2)(hK:ψ (X.K=K) qQJ):DE K X (.Compare a [op] [b] pos) (P0 r ta tb):=⟨λy=>(C8 (ho y.cx hK hu) (ha.of y) (hb.of y) hm).mono λ_ _ _ h=>h.op⟩
def dB(t:TD):jE:=λσ S R Z=>t σ S (λx S1=>Sh x S1 R) Z
theorem Tt.b{t:TD}(h:Tt K E (dB t) τ H Q):T K E t τ H λx H'=>∃k,x=.bl k/\Q k H':=by obtain⟨σ,S,R,Z,aA,hS,q,hR,hZ⟩:=h;exact{σ,S,_,Z,aA,hS,q,by rintro d S1 x H1 ⟨b,e,r1⟩ v1 s1 k1;exact by subst e;exact{b,v1.bl,hR b S1 H1 r1 s1 k1},hZ}
theorem Tt.bop(h:Tt K E (dB<|P0 r ta tb) τ H Q):GV (R4 (Lr K r) (T K E ta)<|T K E tb) τ H Q:=h.b.op
theorem aX(ho:oZ K (compareOp op) r)(hu:X.A.units+64<cLine)(ha:DE K X a ta)(hb:DE K X b tb)(hm:ψ (behindInMarks op b=false) qQ2)(hK:ψ (X.K=K) qQJ):DT K X (.Compare a [op] [b] pos) (dB<|P0 r ta tb):=⟨λy=>(Kt (ho y.cx hK hu) (ha.of y) (hb.of y) hm).mono λ_ _ _ h=>h.bop⟩
theorem tv{t:TD}(h:DE K X e t)(he:ψ (∀whole,isTrue e X.env whole=(do let v <-whole;standAt e.pos;holding [v] (truthy v))) qQ0):DT K X e (dB t):=⟨λy=>(OG (X:=y.cx) (h.of y) he).mono λ_ _ _ h=>h.b⟩
def BH(r r':uL)(ta tb tc:TD):TD:=λσ S R Z=>ta σ S (λx S1=>tb σ S1 (λy S2=>r x y S2 λz S3=>Sh z S3 λk S3=>if k=true then tc σ S3 (λw S4=>r' y w S4 R) Z else R (.bl false) S3) Z) Z
theorem T.chain(h:T K E (BH r r' ta tb tc) τ H Q):AY (Lr K r) (Lr K r') (T K E ta) (T K E tb) (T K E tc) τ H Q:=by obtain⟨σ,S,R,Z,aA,hS,q,hR,hZ⟩:=h;refine{σ,S,_,Z,aA,hS,q,λd S1 x H1 r1 v1 s1 k1=>{σ,S1,_,Z,aA.ts k1,s1,r1,λe S2 y H2 r2 v2 s2 k2=>{d,e,S2,_,Rv.ts k2 _ v1,v2,s2,r2,λz S3 v H3 r3 v3 s3 k3=>?_},hZ.kp k1},hZ};obtain⟨k,rfl,r3⟩:=r3;refine{k,v3.bl,?_};cases k with|true=>rw[xL rfl]at r3⊢;exact{σ,S3,_,Z,((aA.ts k1).ts k2).ts k3,s3,r3,λw S4 wv H4 r4 v4 s4 k4=>{e,w,S4,R,Rv.ts (k3.trans k4) _ v2,v4,s4,r4,hR.kp<|((k1.trans k2).trans k3).trans k4},hZ.kp<|(k1.trans k2).trans k3}|false=>rw[xz zd]at r3⊢;exact hR _ S3 _ H3 r3 (bY false) s3<|(k1.trans k2).trans k3
theorem cc(ho:oZ K (compareOp op) r)(wG:oZ K (compareOp EM) r')(hu:X.A.units+64<cLine)(ha:DE K X a ta)(hb:DE K X b tb)(hc:DE K X c tc) (hm:ψ (lastMarks [op,EM] [b,c]=false) qQ2) (hK:ψ (X.K=K) qQJ):DE K X (.Compare a [op,EM] [b,c] pos) (BH r r' ta tb tc):=⟨λy=>(GW (ho y.cx hK hu) (wG y.cx hK hu) (ha.of y) (hb.of y) (hc.of y) hm).mono λ_ _ _ h=>h.chain⟩
theorem Xc(ho:oZ K (compareOp op) r)(wG:oZ K (compareOp EM) r')(hu:X.A.units+64<cLine)(ha:DE K X a ta)(hb:DE K X b tb)(hc:DE K X c tc) (hm:ψ (lastMarks [op,EM] [b,c]=false) qQ2) (hK:ψ (X.K=K) qQJ):DT K X (.Compare a [op,EM] [b,c] pos) (dB<|BH r r' ta tb tc):=⟨λy=>(GX (ho y.cx hK hu) (wG y.cx hK hu) (ha.of y) (hb.of y) (hc.of y) hm).mono λ_ _ _ h=>h.b.chain⟩
def UI(ta tb:TD):TD:=λσ S R Z=>ta σ S (λx S1=>Sh x S1 λc S1=>if c=true then tb σ S1 R Z else R (.bl false) S1) Z
def Za(ta tb:TD):TD:=λσ S R Z=>ta σ S (λx S1=>Sh x S1 λc S1=>if c=true then R (.bl true) S1 else tb σ S1 R Z) Z
def UJ(ta:TD):TD:=λσ S R Z=>ta σ S (λx S1=>Sh x S1 λc S1=>R (.bl<|!c) S1) Z
theorem Hz{t:TD}(h:DE K X a t):DE K X (.BoolOp op [a] pos) t:=⟨λy=>OI<|h.of y⟩
theorem p_{a b:Δ}{rest:δ Δ}{ta tb:TD}{pos:Pos}(ha:DE K X a ta)(hb:DE K X (.BoolOp .And (b::rest) pos) tb):DE K X (.BoolOp .And (a::b::rest) pos) (UI ta tb):=
 ⟨λy=>(OJ (ha.of y)<|hb.of y).mono <| by rintro τ H Q ⟨σ,S,R,Z,aA,hS,q,hR,hZ⟩;exact
  ⟨σ,S,_,Z,aA,hS,q,by
   rintro d S1 x H1 ⟨c,e,r1⟩ v1 s1 k1
   subst e
   refine{c,v1.bl,?_}
   cases c with
   |true=>rw[xL rfl]at r1⊢;exact{σ,S1,R,Z,aA.ts k1,s1,r1,hR.kp k1,hZ.kp k1}
   |false=>rw[xz zd]at r1⊢;exact hR _ S1 _ H1 r1 (bY false) s1 k1,hZ⟩⟩
theorem eor{a b:Δ}{rest:δ Δ}{ta tb:TD}{pos:Pos}(ha:DE K X a ta)(hb:DE K X (.BoolOp .Or (b::rest) pos) tb):DE K X (.BoolOp .Or (a::b::rest) pos) (Za ta tb):=
 ⟨λy=>(Tv (ha.of y)<|hb.of y).mono <| by rintro τ H Q ⟨σ,S,R,Z,aA,hS,q,hR,hZ⟩;exact
  ⟨σ,S,_,Z,aA,hS,q,by
   rintro d S1 x H1 ⟨c,e,r1⟩ v1 s1 k1
   subst e
   refine{c,v1.bl,?_}
   cases c with
   |false=>rw[xz zd]at r1⊢;exact{σ,S1,R,Z,aA.ts k1,s1,r1,hR.kp k1,hZ.kp k1}
   |true=>rw[xL rfl]at r1⊢;exact hR _ S1 _ H1 r1 (bY true) s1 k1,hZ⟩⟩
theorem P1(ha:DE K X a ta):DE K X (.UnaryOp .Not a pos) (UJ ta):=
 ⟨λy=>(OL<|ha.of y).mono <| by rintro τ H Q ⟨σ,S,R,Z,aA,hS,q,hR,hZ⟩;exact
  ⟨σ,S,_,Z,aA,hS,q,by rintro d S1 x H1 ⟨c,e,r1⟩ v1 s1 k1;exact by subst e;exact⟨c,v1.bl,hR _ S1 _ H1 r1 (bY _) s1 k1⟩,hZ⟩⟩
def Zb(t:jE):jE:=λσ S R Z=>t σ S (λc S1=>R (!c) S1) Z
def Zc(t u:jE):jE:=λσ S R Z=>t σ S (λc S1=>if c=true then u σ S1 R Z else R false S1) Z
def dOr(t u:jE):jE:=λσ S R Z=>t σ S (λc S1=>if c=true then R true S1 else u σ S1 R Z) Z
theorem cY{t:jE}(ha:DT K X a t):DT K X (.UnaryOp .Not a pos) (Zb t):=⟨λy=>(OH<|ha.of y).mono <| by rintro τ H Q ⟨σ,S,R,Z,aA,hS,q,hR,hZ⟩;exact{σ,S,_,Z,aA,hS,q,λc S1 H1 r1 s1 k1=>hR _ S1 H1 r1 s1 k1,hZ}⟩
structure DW(K:Φ)(X:Cx)(e:Δ)(t:jE):η where
 of:∀{b:χ}(y:Ev X b),PW y.cx e<|Tt K y.E t
theorem PW.mono{t t':TT}(h:PW X e t)(i:∀τ H Q,t' τ H Q->t τ H Q):PW X e t':=λwh pins s τ H Q I q=>h wh pins s τ H Q I<|i τ H Q q
theorem twd{t:jE}(h:DW K X e t):DT K X e t:=⟨λy=>(h.of y).pt⟩
theorem tw1{t:jE}(h:DT K X a t):DW K X (.BoolOp op [a] pos) t:=⟨λy=>by cases op with|And=>exact pw_and1 (h.of y)|Or=>exact pw_or1<|h.of y⟩
theorem twand{a b:Δ}{rest:δ Δ}{t u:jE}{pos:Pos}(ha:DT K X a t)(hb:DW K X (.BoolOp .And (b::rest) pos) u):DW K X (.BoolOp .And (a::b::rest) pos) (Zc t u):=
 ⟨λy=>(pw_and (ha.of y)<|hb.of y).mono <| by rintro τ H Q ⟨σ,S,R,Z,aA,hS,q,hR,hZ⟩;exact
  ⟨σ,S,_,Z,aA,hS,q,λc S1 H1 r1 s1 k1=>by
   cases c with
   |true=>rw[xL rfl]at r1⊢;exact{σ,S1,R,Z,aA.ts k1,s1,r1,hR.kp k1,hZ.kp k1}
   |false=>rw[xz zd]at r1⊢;exact hR _ S1 H1 r1 s1 k1,hZ⟩⟩
theorem twor{a b:Δ}{rest:δ Δ}{t u:jE}{pos:Pos}(ha:DT K X a t)(hb:DW K X (.BoolOp .Or (b::rest) pos) u):DW K X (.BoolOp .Or (a::b::rest) pos) (dOr t u):=
 ⟨λy=>(pw_or (ha.of y)<|hb.of y).mono <| by rintro τ H Q ⟨σ,S,R,Z,aA,hS,q,hR,hZ⟩;exact
  ⟨σ,S,_,Z,aA,hS,q,λc S1 H1 r1 s1 k1=>by
   cases c with
   |false=>rw[xz zd]at r1⊢;exact{σ,S1,R,Z,aA.ts k1,s1,r1,hR.kp k1,hZ.kp k1}
   |true=>rw[xL rfl]at r1⊢;exact hR _ S1 H1 r1 s1 k1,hZ⟩⟩
def Zd(t:jE)(ta tb:TD):TD:=λσ S R Z=>t σ S (λc S1=>if c=true then ta σ S1 R Z else tb σ S1 R Z) Z
theorem UK{t:jE}(hc:DT K X c t)(ha:DE K X a ta)(hb:DE K X b tb):DE K X (.IfExp c a b pos) (Zd t ta tb):=
 ⟨λy=>(GL (hc.of y) (ha.of y)<|hb.of y).mono <| by rintro τ H Q ⟨σ,S,R,Z,aA,hS,q,hR,hZ⟩;exact
  ⟨σ,S,_,Z,aA,hS,q,λc S1 H1 r1 s1 k1=>by
   cases c with
   |true=>rw[xL rfl]at r1⊢;exact{σ,S1,R,Z,aA.ts k1,s1,r1,hR.kp k1,hZ.kp k1}
   |false=>rw[xz zd]at r1⊢;exact{σ,S1,R,Z,aA.ts k1,s1,r1,hR.kp k1,hZ.kp k1},hZ⟩⟩
def Ze(t:iD):TD:=λσ S R Z=>t σ S (λds S1=>ds.length<=sizeLine/\∀p,S1 p=none->R (.ref p) (S1.set p<|.lst ds)) Z
def Zg(t:iD):TD:=λσ S R Z=>t σ S (λds S1=>ds.length<=sizeLine/\R (.tup ds) S1) Z
theorem b8{t:iD}(h:DA K X es t):DE K X (.List es pos) (Ze t):=
 ⟨λy=>(Pa<|h.of y).mono <| by rintro τ H Q ⟨σ,S,R,Z,aA,hS,q,hR,hZ⟩;exact
  ⟨σ,S,_,Z,aA,hS,q,by rintro ds S1 xs H1 ⟨hl,r1⟩ v1 s1 k1;exact⟨by rw[v1.len];exact hl,λp hp=>hR _ _ _ _ (r1 p<|s1.fresh hp) (iO p) (s1.new hp ⟨xs,aB,RvAll.ts (.new hp) _ v1⟩)<|k1.trans<|.new hp⟩,hZ⟩⟩
theorem b9{t:iD}(h:DA K X es t):DE K X (.Tuple es x1 pos) (Zg t):=
 ⟨λy=>(O_<|h.of y).mono <| by rintro τ H Q ⟨σ,S,R,Z,aA,hS,q,hR,hZ⟩;exact
  ⟨σ,S,_,Z,aA,hS,q,by rintro ds S1 xs H1 ⟨hl,r1⟩ v1 s1 k1;exact⟨by rw[v1.len];exact hl,λp hp=>hR _ _ _ _ r1 (mB aB<|RvAll.ts (.new hp) _ v1) (s1.grow hp)<|k1.trans<|.new hp⟩,hZ⟩⟩
def Zh:TD:=λ_ S R _=>∀p,S p=none->R (.ref p) (S.set p<|.bG [])
theorem UL:DE K X (.Dict [] [] pos) Zh:=⟨λy=>(Hc (X:=y.cx)).mono <| by rintro τ H Q ⟨σ,S,R,Z,aA,hS,q,hR,hZ⟩ p hp;exact hR _ _ _ _ (q p<|hS.fresh hp) (iO p) (hS.new hp {[],aB,.nil})<|.new hp⟩
def Lc(K:Φ)(r:δ D->ak->KD->η):δ V->Hp->VK->Prop:=λxs H Q=>∃ds S R,RvAll K H ds xs/\Rs K S H/\r ds S R/\Cn K H R Q
def ic(K:Φ)(f:ξ)(r:δ D->ak->KD->η):Prop:=∀X:Cx,X.K=K->X.calm=true->eI X f (Lc K r)
def Xd(r:δ D->ak->KD->η)(t:iD):TD:=λσ S R Z=>t σ S (λds S1=>r ds S1 R) Z
theorem T.cb{t:iD}(h:T K E (Xd r t) τ H Q):Yz (Lc K r) (Ta K E t) τ H Q:=by obtain⟨σ,S,R,Z,aA,hS,q,hR,hZ⟩:=h;exact{σ,S,_,Z,aA,hS,q,λds S1 xs H1 r1 v1 s1 k1=>{ds,S1,R,v1,s1,r1,hR.kp k1},hZ}
theorem cb{x:ρ}{id:String}{r:δ D->ak->KD->η}{e:Δ}{es:δ Δ}{t:iD}{p pos:Pos}(hc:ic K (.builtin id) r)(hm:X.mg x=none)(hv:bootBuiltins x=some (.builtin id))(ha:DA K X (e::es) t)(hg:ψ (Gl X x) qQJ) (hn:ψ (x≠"__name__") qQZ) (rR:ψ ((x==("__debug__": ρ))=false) qQZ) (he:ψ (starEach (e::es) X.env=(false,eval e X.env)::starEach es X.env) qQJ) (eJ:ψ ((backTo pos<|starEach es X.env).any (·.1)=false) qQJ) (hK:ψ (X.K=K) qQJ) (hC:ψ (X.calm=true) qQJ): DE K X (.Call (.Name x p) (e::es) [] pos) (Xd r t):=⟨λy=>(wN (X:=y.cx) (hc _ hK hC) hg hm hv (ha.of y) hn rR he eJ).mono λ_ _ _ h=>h.cb⟩
theorem ct{x:ρ}{id:String}{r:δ D->ak->KD->η}{e:Δ}{es:δ Δ}{t:iD}{p pos:Pos}(hc:ic K (.type id) r)(hm:X.mg x=none)(hv:bootBuiltins x=some (.type id))(ha:DA K X (e::es) t)(hg:ψ (Gl X x) qQJ) (hn:ψ (x≠"__name__") qQZ) (rR:ψ ((x==("__debug__": ρ))=false) qQZ) (he:ψ (starEach (e::es) X.env=(false,eval e X.env)::starEach es X.env) qQJ) (eJ:ψ ((backTo pos<|starEach es X.env).any (·.1)=false) qQJ) (hK:ψ (X.K=K) qQJ) (hC:ψ (X.calm=true) qQJ): DE K X (.Call (.Name x p) (e::es) [] pos) (Xd r t):=⟨λy=>(s9 (X:=y.cx) (hc _ hK hC) hg hm hv (ha.of y) hn rR he eJ).mono λ_ _ _ h=>h.cb⟩
end
section
variable{K:Φ}
theorem Cn.now(h:Cn K H R Q)(hS:Rs K S H)(r:R d S)(rv:Rv K H d v):Q v H:=h d S v H r rv hS<|.refl _
theorem Cn.new{H:Hp}{R:KD}{Q:VK}{S:ak}{p:ε}{ds:δ D}{xs:δ V}(h:Cn K H R Q)(hS:Rs K S H)(hp:H p=none)(r:S p=none->R (.ref p) (S.set p<|.lst ds))(rv:RvAll K H ds xs):Q (.ref p) (upd H p<|.lst xs):=h _ _ _ _ (r<|hS.fresh hp) (iO p) (hS.new hp {xs,aB,RvAll.ts (.new hp) _ rv})<|.new hp
theorem Cn.Zi{H:Hp}{R:KD}{Q:VK}{S:ak}{p:ε}{ds:δ D}{xs:δ V}(h:Cn K H R Q)(hS:Rs K S H)(hp:H p=none)(r:R (.tup ds) S)(rv:RvAll K H ds xs):Q (.ref p) (upd H p<|.tup xs):=h _ _ _ _ r (mB aB<|RvAll.ts (.new hp) _ rv) (hS.grow hp)<|.new hp
theorem Cn.put{H:Hp}{R:KD}{Q:VK}{S:ak}{p:ε}{ds es:δ D}{xs:δ V}{d:D}{v:V}(h:Cn K H R Q)(hS:Rs K S H)(hp:S p=some (.lst es))(r:R d<|S.set p<|.lst ds)(rd:Rv K H d v)(rv:RvAll K H ds xs):Q v (upd H p<|.lst xs):=h _ _ _ _ r (Rv.ts (hS.gF hp) _ rd) (hS.put hp {xs,aB,RvAll.ts (hS.gF hp) _ rv})<|hS.gF hp
def o9(S:ak):D->δ D->η|.ref a,ds=>S a=some (.lst ds)|.jD es,ds=>es=ds|_,_=>False
theorem o9.at{H:Hp}{S:ak}{d:D}{ds:δ D}{v:V}(h:o9 S d ds)(hS:Rs K S H)(r:Rv K H d v):∃a xs,v=.ref a/\iu K H a xs/\RvAll K H ds xs:=by cases d with|ref a=>(obtain⟨xs,e,q⟩:=hS.lst h;exact{a,xs,r.ref,.of e,q})|jD es=>(have h:es=ds:=h;subst h;obtain⟨a,xs,e,q,t⟩:=r.jD;exact⟨a,xs,e,q.sq,t⟩)|_=>exact h.elim
def Zj:uL:=λx y S R=>match x,y with|.int i,.int j=>R (.int<|i-j) S|_,_=>False
theorem tH:oZ K (binaryOp .Sub) Zj:=by rintro X hK hu pins s σ H x y v u Q I rx ry ⟨d,e,S,R,r1,r2,hS,h,hR⟩;cases d<;>cases e<;>first|exact False.elim h|exact O0 pins s σ H x y v u Q I rx ry {_,_,r1.int,r2.int,hR.now hS h<|aM _}
def Zk:uL:=λx y S R=>match x,y with|.int i,.int j=>Kr i j/\R (.int<|i*j) S|.str z,.int n=>MulOk z n/\R (.str<|PySem.Txt.mul z n) S|_,_=>False
theorem qd:oZ K (binaryOp .Mult) Zk:=by rintro X hK hu pins s σ H x y v u Q I rx ry ⟨d,e,S,R,r1,r2,hS,h,hR⟩;cases d<;>cases e<;>first|exact False.elim h|exact O3 pins s σ H x y v u Q I rx ry {_,_,r1.int,r2.int,h.1,hR.now hS h.2<|aM _}|exact BA pins s σ H x y v u Q I rx ry {_,_,r1.str,r2.int,h.1,hR.now hS h.2<|dI _}
def Zl:uL:=λx y S R=>match x,y with|.int i,.int j=>0<j/\R (.int<|i%j) S|_,_=>False
theorem bz:oZ K (binaryOp .Mod) Zl:=by rintro X hK hu pins s σ H x y v u Q I rx ry ⟨d,e,S,R,r1,r2,hS,h,hR⟩;cases d<;>cases e<;>first|exact False.elim h|exact O4 pins s σ H x y v u Q I rx ry {_,_,r1.int,r2.int,h.1,hR.now hS h.2<|aM _}
def UM:uL:=λx y S R=>match x,y with|.int i,.int j=>M7 i j/\R (.int<|i/j) S|_,_=>False
theorem bS:oZ K (binaryOp .FloorDiv) UM:=by rintro X hK hu pins s σ H x y v u Q I rx ry ⟨d,e,S,R,r1,r2,hS,h,hR⟩;cases d<;>cases e<;>first|exact False.elim h|exact Hh pins s σ H x y v u Q I rx ry {_,_,r1.int,r2.int,h.1,hR.now hS h.2<|aM _}
def Zm:uL:=λx y S R=>match x,y with|.int i,.int j=>TR i j/\R (.int<|i^j.toNat) S|_,_=>False
theorem kX:oZ K (binaryOp .Pow) Zm:=by rintro X hK hu pins s σ H x y v u Q I rx ry ⟨d,e,S,R,r1,r2,hS,h,hR⟩;cases d<;>cases e<;>first|exact False.elim h|exact O5 pins s σ H x y v u Q I rx ry {_,_,r1.int,r2.int,h.1,hR.now hS h.2<|aM _}
def HA(f:ν->ν->χ)(g:ρ->ρ->χ):uL:=λx y S R=>match x,y with|.int i,.int j=>R (.bl<|f i j) S|.str i,.str j=>R (.bl<|g i j) S|_,_=>False
theorem Dm(h1:∀X:Cx,gE X (compareOp op)<|Ko λi j=>.bl<|f i j) (h2:∀X:Cx,gE X (compareOp op) λx y H Q=>∃i j,x=.str i/\y=.str j/\Q (.bl<|g i j) H):oZ K (compareOp op) (HA f g):=by rintro X hK hu pins s σ H x y v u Q I rx ry ⟨d,e,S,R,r1,r2,hS,h,hR⟩;cases d<;>cases e<;>first|exact False.elim h|exact h1 X pins s σ H x y v u Q I rx ry {_,_,r1.int,r2.int,hR.now hS h<|bY _}|exact h2 X pins s σ H x y v u Q I rx ry {_,_,r1.str,r2.str,hR.now hS h<|bY _}
theorem mC:oZ K (compareOp .Lt) (HA (λi j=>ω<|i<j) λi j=>rJ i j):=Dm (λ_=>TV) λ_=>EK
theorem iP:oZ K (compareOp .LtE) (HA (λi j=>ω<|i<=j) λi j=>Gw i j):=Dm (λ_=>TY) λ_=>E6
theorem mD:oZ K (compareOp .Gt) (HA (λi j=>ω<|j<i) λi j=>rJ j i):=Dm (λ_=>TZ) λ_=>E8
theorem Zn:oZ K (compareOp .GtE) (HA (λi j=>ω<|j<=i) λi j=>Gw j i):=Dm (λ_=>T4) λ_=>E7
noncomputable def ag:D->χ|.au=>true|_=>false
theorem w6(r:Rv K H d v):ω (v=.au)=ag d:=by cases d with|au=>rw[r.au];rfl|bl b=>rw[r.bl];rfl|int b=>rw[r.int];rfl|str b=>rw[r.str];rfl|ref b=>rw[r.ref];rfl|ty b=>rw[r.ty];rfl|tup b=>(obtain⟨a,xs,rfl,_⟩:=r.tup;rfl)|jD b=>(obtain⟨a,xs,rfl,_⟩:=r.jD;rfl)|kt b=>obtain⟨a,xs,rfl,_⟩:=r.kt;rfl
def Zo:uL:=λx y S R=>match y with|.au=>R (.bl<|ag x) S|_=>False
def UN:uL:=λx y S R=>match y with|.au=>R (.bl<|!ag x) S|_=>False
theorem gH:oZ K (compareOp .Is) Zo:=by rintro X hK hu pins s σ H x y v u Q I rx ry ⟨d,e,S,R,r1,r2,hS,h,hR⟩;cases e<;>first|exact False.elim h|exact O7 pins s σ H x y v u Q I rx ry {r2.au,by rw[w6 r1];exact hR.now hS h<|bY _}
theorem mE:oZ K (compareOp .IsNot) UN:=by rintro X hK hu pins s σ H x y v u Q I rx ry ⟨d,e,S,R,r1,r2,hS,h,hR⟩;cases e<;>first|exact False.elim h|exact Ks pins s σ H x y v u Q I rx ry {r2.au,by rw[w6 r1];exact hR.now hS h<|bY _}
mutual
def Dp(S:ak):D->PyData->η|.au,p=>p=.none|.bl b,p=>p=.bool b|.int i,p=>p=.int i|.str z,p=>p=.str z|.tup ds,p=>∃ps,p=.tuple ps/\DpAll S ds ps|.jD ds,p=>∃ps,p=.list ps/\DpAll S ds ps|.kt _,_=>False|.ref _,_=>False|.ty _,_=>False
def DpAll(S:ak):δ D->δ PyData->η|[],ps=>ps=[]|d::ds,ps=>∃q qs,ps=q::qs/\Dp S d q/\DpAll S ds qs
end
mutual
theorem Dp.dt:∀(d:D){p:PyData}{v:V},Dp S d p->Rv K H d v->Dt K H p v|.au,p,v,h,r=>by simp only[Dp]at h;subst h;simp only[Dt];exact r.au|.bl b,p,v,h,r=>by simp only[Dp]at h;subst h;simp only[Dt];exact r.bl|.int b,p,v,h,r=>by simp only[Dp]at h;subst h;simp only[Dt];exact r.int|.str b,p,v,h,r=>by simp only[Dp]at h;subst h;simp only[Dt];exact r.str|.tup ds,p,v,h,r=>(by simp only[Dp]at h;obtain⟨ps,rfl,h⟩:=h;obtain⟨a,xs,rfl,q,t⟩:=r.tup;simp only[Dt];exact{a,xs,rfl,.of q,DpAll.dt ds h t})|.jD ds,p,v,h,r=>(by simp only[Dp]at h;obtain⟨ps,rfl,h⟩:=h;obtain⟨a,xs,rfl,q,t⟩:=r.jD;simp only[Dt];exact{a,xs,rfl,q.sq,DpAll.dt ds h t})|.kt a,p,v,h,r=>by simp only[Dp]at h|.ref a,p,v,h,r=>by simp only[Dp]at h|.ty a,p,v,h,r=>by simp only[Dp]at h
theorem DpAll.dt:∀(ds:δ D){ps:δ PyData}{vs:δ V},DpAll S ds ps->RvAll K H ds vs->DtAll K H ps vs|[],ps,vs,h,r=>by simp only[DpAll]at h;subst h;rw[r.nil];simp only[DtAll]|d::ds,ps,vs,h,r=>by simp only[DpAll]at h;obtain⟨q,qs,rfl,h1,h2⟩:=h;obtain⟨y,ys,rfl,r1,r2⟩:=r.cons;simp only[DtAll];exact{y,ys,rfl,Dp.dt d h1 r1,DpAll.dt ds h2 r2}
end
def Dl(S:ak):D->PyData->η|.ref a,p=>∃ds ps,S a=some (.lst ds)/\p=.list ps/\DpAll S ds ps|d,p=>Dp S d p
theorem Dl.dt(h:Dl S d p)(hS:Rs K S H)(r:Rv K H d v):Dt K H p v:=by cases d with|ref a=>(obtain⟨ds,ps,e,rfl,h⟩:=h;obtain⟨xs,e1,t⟩:=hS.lst e;rw[r.ref];simp only[Dt];exact{a,xs,rfl,.of e1,DpAll.dt ds h t})|_=>exact Dp.dt _ h r
def Gy(neg:χ):uL:=λx y S R=>match x,y with|.int i,.int j=>(R (.bl<|if neg then !decide (i=j) else ω (i=j)) S)|.str i,.str j=>(R (.bl<|if neg then !decide (i=j) else ω (i=j)) S)|x,y=>∃p q,Dl S x p/\Dl S y q/\p.canLay0=true/\q.canLay0=true/\(p.depth<=64\/q.depth<=64)/\R (.bl<|if neg then !PyData.eqv p q else PyData.eqv p q) S
theorem HB(h:Gy neg x y S R):(∃i j,x=.int i/\y=.int j/\R (.bl<|if neg then !decide (i=j) else ω (i=j)) S)\/(∃i j,x=.str i/\y=.str j/\R (.bl<|if neg then !decide (i=j) else ω (i=j)) S)\/∃p q,Dl S x p/\Dl S y q/\p.canLay0=true/\q.canLay0=true/\(p.depth<=64\/q.depth<=64)/\R (.bl<|if neg then !PyData.eqv p q else PyData.eqv p q) S:=by cases x<;>cases y<;>first|exact .inl {_,_,rfl,rfl,h}|exact .inr (.inl {_,_,rfl,rfl,h})|exact .inr (.inr h)
theorem aQ:oZ K (compareOp .Eq) (Gy false):=by
 rintro X hK hu pins s σ H x y v u Q I rx ry ⟨d,e,S,R,r1,r2,hS,h,hR⟩;subst hK;rcases HB h with⟨i,j,rfl,rfl,h⟩|⟨i,j,rfl,rfl,h⟩|⟨p,q,h1,h2,c1,c2,dp,h⟩;cases r1.int;cases r2.int;refine MY pins s σ H _ _ v u Q I rx ry {rfl,?_};have e:ω (V.int i=V.int j)=ω (i=j):=by simp
 rw[e];exact hR.now hS h<|bY _;cases r1.str;cases r2.str;refine MY pins s σ H _ _ v u Q I rx ry {rfl,?_};have e:ω (V.str i=V.str j)=ω (i=j):=by simp
 rw[e];exact hR.now hS h<|bY _;exact PJ hu pins s σ H x y v u Q I rx ry {p,q,h1.dt hS r1,h2.dt hS r2,c1,c2,dp,hR.now hS h<|bY _}
theorem iQ:oZ K (compareOp .NotEq) (Gy true):=by
 rintro X hK hu pins s σ H x y v u Q I rx ry ⟨d,e,S,R,r1,r2,hS,h,hR⟩;subst hK;rcases HB h with⟨i,j,rfl,rfl,h⟩|⟨i,j,rfl,rfl,h⟩|⟨p,q,h1,h2,c1,c2,dp,h⟩;cases r1.int;cases r2.int;refine MZ pins s σ H _ _ v u Q I rx ry {rfl,?_};have e:ω (V.int i=V.int j)=ω (i=j):=by simp
 rw[e];exact hR.now hS h<|bY _;cases r1.str;cases r2.str;refine MZ pins s σ H _ _ v u Q I rx ry {rfl,?_};have e:ω (V.str i=V.str j)=ω (i=j):=by simp
 rw[e];exact hR.now hS h<|bY _;exact PK hu pins s σ H x y v u Q I rx ry {p,q,h1.dt hS r1,h2.dt hS r2,c1,c2,dp,hR.now hS h<|bY _}
noncomputable def bL(kvs:δ<|Key×D)(k:Key):θ D:=(kvs.find? λkv=>ω<|kv.1=k).map (·.2)
noncomputable def dput(kvs:δ<|Key×D)(k:Key)(v:D):δ (Key×D):=if (kvs.any λkv=>ω<|kv.1=k)=true then kvs.map (λkv=>if kv.1=k then (kv.1,v) else kv) else kvs++[(k,v)]
noncomputable def w9(kvs:δ<|Key×D)(k:Key):δ (Key×D):=kvs.filter λkv=>ω<|kv.1≠k
theorem bR.val(h:bR K H ks vs)(k:Key):(∀d,bL ks k=some d->∃v,fE vs k=some v/\Rv K H d v)/\(bL ks k=none->fE vs k=none):=by induction h with|nil=>(exact{λd e=>(by cases e),λ_=>rfl})|@cons a b l m r t ih=>obtain⟨k',d⟩:=a;obtain⟨k'',v⟩:=b;obtain⟨e0,r⟩:=r;dsimp only at e0;subst e0;unfold bL fE;simp only[yd];by_cases q:k'=k;rw[zu q];exact{λd' e=>{v,rfl,(by cases e;exact r)},λe=>(by cases e)};rw[zy q];exact ih
theorem bR.any(h:bR K H ks vs)(k:Key):(ks.any λkv=>ω<|kv.1=k)=(vs.any λkv=>ω<|kv.1=k):=by induction h with|nil=>rfl|cons r t ih=>rw[yP,yP,ih,r.1]
theorem bR.len(h:bR K H ks vs):vs.length=ks.length:=(y0 h).symm
theorem bR.app:∀{ks ls:δ (κ×D)}{vs ws:δ (κ×V)},bR K H ks vs->bR K H ls ws->bR K H (ks++ls) (vs++ws)|_,_,_,_,.nil,h=>h|_,_,_,_,.cons r t,h=>.cons r<|bR.app t h
theorem bR.Pp(h:bR K H ks vs)(k:Key)(rd:Rv K H d v):bR K H (ks.map λkv=>if kv.1=k then (kv.1,d) else kv) (vs.map λkv=>if kv.1=k then (kv.1,v) else kv):=by induction h with|nil=>exact .nil|@cons a b l m r t ih=>refine .cons ?_ ih;dsimp only;by_cases q:b.1=k;rw[xL q,xL<|r.1.trans q];exact⟨r.1,rd⟩;rw[xz q,xz λz=>q<|r.1.symm.trans z];exact r
theorem bR.put(h:bR K H ks vs)(k:Key)(rd:Rv K H d v):bR K H (dput ks k d) (putK vs k v):=by unfold dput putK;rw[h.any k];split;exact h.Pp k rd;exact h.app<|.cons ⟨rfl,rd⟩ .nil
theorem bR.drop(h:bR K H ks vs)(k:Key):bR K H (w9 ks k) (nG vs k):=by unfold w9 nG;induction h with|nil=>exact .nil|@cons a b l m r t ih=>rw[List.filter_cons,List.filter_cons,r.1];by_cases q:b.1=k;rw[xz<|by simp[q],xz<|by simp[q]];exact ih;rw[xL<|by simp[q],xL<|by simp[q]];exact .cons r ih
noncomputable def BI:D->θ Key|.int i=>some (.inl i)|.str z=>some (.inr z)|_=>none
theorem mF(h:BI d=some k)(r:Rv K H d v):v=kV k:=by cases d with|int i=>(cases h;exact r.int)|str i=>(cases h;exact r.str)|_=>cases h
noncomputable def iR:D->χ|.au=>true|.bl _=>true|.int _=>true|.str _=>true|_=>false
noncomputable def jF:D->V|.au=>.au|.bl b=>.bl b|.int i=>.int i|.str z=>.str z|.ref a=>.ref a|.ty n=>.ty n|_=>.au
theorem qf(h:iR d=true)(r:Rv K H d v):v=jF d/\gk v=true:=by cases d with|au=>(cases r.au;exact⟨rfl,rfl⟩)|bl b=>(cases r.bl;exact⟨rfl,rfl⟩)|int b=>(cases r.int;exact⟨rfl,rfl⟩)|str b=>(cases r.str;exact⟨rfl,rfl⟩)|_=>cases h
theorem kY:∀{ds:δ D}{vs:δ V},ds.all iR=true->RvAll K H ds vs->vs=ds.map jF/\vs.all gk=true|[],vs,_,r=>by rw[r.nil];exact⟨rfl,rfl⟩|d::ds,vs,h,r=>by obtain⟨y,ys,rfl,r1,r2⟩:=r.cons;rw[List.all_cons,zJ]at h;obtain⟨e1,f1⟩:=qf h.1 r1;obtain⟨e2,f2⟩:=kY h.2 r2;refine{by rw[e1,e2];rfl,?_};rw[List.all_cons,f1,f2];rfl
def inD(neg:χ):uL:=λx y S R=>match y with|.str j=>(∃i,x=.str i/\R (.bl<|if neg then !(!(Builtin.Str.occurrences j i 0 j.length 1).isEmpty) else !(Builtin.Str.occurrences j i 0 j.length 1).isEmpty) S)|.kt ds=>(iR x=true/\ds.all iR=true/\R (.bl<|if neg then !Bb (jF x) (ds.map jF) else Bb (jF x) (ds.map jF)) S)|.tup ds=>(iR x=true/\ds.all iR=true/\R (.bl<|if neg then !Bb (jF x) (ds.map jF) else Bb (jF x) (ds.map jF)) S)|.ref a=>((∃ds,S a=some (.lst ds)/\iR x=true/\ds.all iR=true/\R (.bl<|if neg then !Bb (jF x) (ds.map jF) else Bb (jF x) (ds.map jF)) S)\/∃kvs k,S a=some (.bG kvs)/\BI x=some k/\R (.bl<|if neg then !(bL kvs k).isSome else (bL kvs k).isSome) S)|_=>False
theorem uM(hS:Rs K S H)(e:S a=some (.bG kvs)):∃o,oy H a (kV k) o/\o.isSome=(bL kvs k).isSome/\∀d,bL kvs k=some d->∃v,o=some v/\Rv K H d v:=by obtain⟨vs,e1,t⟩:=hS.bG e;refine{_,oy.k e1,?_,λd h=>(t.val k).1 d h};cases q:bL kvs k with|none=>rw[(t.val k).2 q];rfl|some d=>obtain⟨v,e2,_⟩:=(t.val k).1 d q;rw[e2];rfl
theorem r9:oZ K (compareOp .In) (inD false):=by rintro X hK hu pins s σ H x y v u Q I rx ry ⟨d,e,S,R,r1,r2,hS,h,hR⟩;subst hK;cases e with|str j=>(obtain⟨i,rfl,h⟩:=h;exact EL pins s σ H x y v u Q I rx ry {i,j,r1.str,r2.str,hR.now hS h<|bY _})|tup ds=>(obtain⟨f1,f2,h⟩:=h;obtain⟨a,xs,rfl,q,t⟩:=r2.tup;obtain⟨e1,g1⟩:=qf f1 r1;obtain⟨e2,g2⟩:=kY f2 t;subst e1 e2;exact mx pins s σ H _ _ v u Q I rx ry {a,_,rfl,.inr<|.of q,g1,g2,hR.now hS h<|bY _})|kt ds=>(obtain⟨f1,f2,h⟩:=h;obtain⟨a,xs,rfl,q,t⟩:=r2.kt;obtain⟨e1,g1⟩:=qf f1 r1;obtain⟨e2,g2⟩:=kY f2 t;subst e1 e2;exact mx pins s σ H _ _ v u Q I rx ry {a,_,rfl,.inr<|.inr q,g1,g2,hR.now hS h<|bY _})|ref a=>(cases r2.ref;rcases h with⟨ds,e,f1,f2,h⟩|⟨kvs,k,e,hk,h⟩;obtain⟨xs,e1,t⟩:=hS.lst e;obtain⟨e2,g1⟩:=qf f1 r1;obtain⟨e3,g2⟩:=kY f2 t;subst e2 e3;exact mx pins s σ H _ _ v u Q I rx ry {a,_,rfl,.inl<|.of e1,g1,g2,hR.now hS h<|bY _};cases mF hk r1;cases ry;obtain⟨o,g,e1,_⟩:=uM (k:=k) hS e;refine YI (by lia) I g rx λs' I'=>{.bl o.isSome,H,I',rfl,?_};rw[e1];exact hR.now hS h<|bY _)|_=>exact h.elim
def IxD(K:Φ)(r:uL):Prop:=∀X:Cx,X.K=K->X.A.units+64<cLine->Ua X (Lr K r)
inductive Xe (ds:δ D) (i:ν) (S:ak) (R:KD):η where
 |mk (d:D) (h:iK ds i=some d) (r:R d S)
inductive Zp (a:ε) (i:ν) (S:ak) (R:KD):η where
 |mk (ds:δ D) (d:D) (e:S a=some (.lst ds)) (h:iK ds i=some d) (r:R d S)
def ixD:uL:=λx y S R=>match x,y with|.tup ds,.int i=>Xe ds i S R|.kt ds,.int i=>Xe ds i S R|.jD ds,.int i=>Xe ds i S R|.str z,.int i=>∃c,z.length<=sizeLine/\iK z.cps.toList i=some c/\R (.str ⟨#[c]⟩) S|.ref a,.int i=>Zp a i S R|.ref a,.str z=>∃kvs d,S a=some (.bG kvs)/\bL kvs (.inr z)=some d/\R d S|_,_=>False
theorem RvAll.at{H:Hp}{ds:δ D}{xs:δ V}{i:ν}{d:D}(h:RvAll K H ds xs)(e:iK ds i=some d):∃v,iK xs i=some v/\Rv K H d v:=by unfold iK at e⊢;rw[h.len];cases q:G4 ds.length i with|none=>(rw[q]at e;cases e)|some j=>rw[q]at e;exact h.get e
theorem Zr:IxD K ixD:=by rintro X hK hu value slice pins s σ H x y v u Q I rx ry ⟨d,e,S,R,r1,r2,hS,h,hR⟩ hs;subst hK;cases d with|tup ds=>(cases e with|int i=>(obtain⟨d,e,h⟩:=h;obtain⟨a,xs,rfl,q,t⟩:=r1.tup;obtain⟨z,e1,r⟩:=t.at e;exact G5 value slice pins s σ H _ _ v u Q I rx ry {a,xs,i,z,rfl,r2.int,.of q,e1,hR.now hS h r} hs)|_=>exact h.elim)|kt ds=>(cases e with|int i=>(obtain⟨d,e,h⟩:=h;obtain⟨a,xs,rfl,q,t⟩:=r1.kt;obtain⟨z,e1,r⟩:=t.at e;exact G5 value slice pins s σ H _ _ v u Q I rx ry {a,xs,i,z,rfl,r2.int,.inr q,e1,hR.now hS h r} hs)|_=>exact h.elim)|jD ds=>(cases e with|int i=>(obtain⟨d,e,h⟩:=h;obtain⟨a,xs,rfl,q,t⟩:=r1.jD;obtain⟨z,e1,r⟩:=t.at e;exact Dc value slice pins s σ H _ _ v u Q I rx ry {a,xs,i,z,rfl,r2.int,q.sq,e1,hR.now hS h r} hs)|_=>exact h.elim)|str w=>(cases e with|int i=>(obtain⟨c,e0,e,h⟩:=h;exact Pd value slice pins s σ H _ _ v u Q I rx ry {w,i,c,r1.str,r2.int,e0,e,hR.now hS h<|dI _} hs)|_=>exact h.elim)|ref a=>(cases e with|int i=>(obtain⟨ds,d,e,e1,h⟩:=h;obtain⟨xs,e2,t⟩:=hS.lst e;obtain⟨z,e3,r⟩:=t.at e1;exact Dc value slice pins s σ H _ _ v u Q I rx ry {a,xs,i,z,r1.ref,r2.int,.of e2,e3,hR.now hS h r} hs)|str w=>(obtain⟨kvs,d,e,e1,h⟩:=h;cases r1.ref;cases r2.str;cases rx;obtain⟨o,g,_,e2⟩:=uM (k:=.inr w) hS e;obtain⟨z,rfl,r⟩:=e2 d e1;exact tail_any (wR I g) PySem.F.slot_dict_getitem.lookup (EX (by lia) I g ry λw' s' I' ou=>{z,H,I',ou,hR.now hS h r}) hs)|_=>exact h.elim)|_=>exact h.elim
theorem ix(hu:X.A.units+64<cLine)(ha:DE K X a ta)(hb:DE K X b tb)(hs:C_ b:=by exact λ_ _=>rfl)(hK:ψ (X.K=K) qQJ):DE K X (.Subscript a b pos) (P0 ixD ta tb):=⟨λy=>(Ub (Zr y.cx hK hu) (ha.of y) (hb.of y) hs).mono λ_ _ _ h=>h.op⟩
end
section
variable{K:Φ}{X:Cx}
abbrev Ng:=SD->ak->(θ ν->ak->η)->KX->η
def To(K:Φ)(E:St->XK)(t:Ng):TO:=λτ H Q=>∃σ S R Z,gG K H σ τ/\Rs K S H/\t σ S R Z/\(∀o S' H',R o S'->Rs K S' H'->Kp K H H'->Q o H')/\Fe K H Z (E τ)
structure DO(K:Φ)(X:Cx)(e:θ Δ)(t:Ng):η where
 of:∀{b:χ}(y:Ev X b),PO y.cx e<|To K y.E t
theorem PO.mono{t t':TO}(h:PO X e t)(i:∀τ H Q,t' τ H Q->t τ H Q):PO X e t':=λpins s τ H Q I q=>h pins s τ H Q I<|i τ H Q q
def UO:Ng:=λ_ S R _=>R none S
inductive UP (d:D) (S:ak) (R:θ ν->ak->η):η where
 |mk (i:ν) (h:d=.int i) (r:R (some i) S)
def UQ(t:TD):Ng:=λσ S R Z=>t σ S (λd S1=>UP d S1 R) Z
theorem o0:DO K X none UO:=⟨λy=>(KA (X:=y.cx)).mono <| by rintro τ H Q ⟨σ,S,R,Z,aA,hS,q,hR,hZ⟩;exact hR _ S H q hS<|.refl _⟩
theorem o1{t:TD}(h:DE K X e t):DO K X (some e) (UQ t):=⟨λy=>(KC<|h.of y).mono <| by rintro τ H Q ⟨σ,S,R,Z,aA,hS,q,hR,hZ⟩;exact{σ,S,_,Z,aA,hS,q,by rintro d S1 x H1 ⟨i,e,r1⟩ v1 s1 k1;exact by subst e;exact{i,v1.int,hR _ S1 H1 r1 s1 k1},hZ}⟩
noncomputable def cN{α:Type}(xs:δ α)(lo hi:θ ν):δ α:=(xs.drop<|HT.sIx xs.length 0 lo).take<|HT.sIx xs.length xs.length hi-HT.sIx xs.length 0 lo
theorem RvAll.cut{H:Hp}{ds:δ D}{xs:δ V}(h:RvAll K H ds xs)(lo hi:θ ν):RvAll K H (cN ds lo hi) (EU xs lo hi):=by unfold cN EU;rw[h.len];exact(h.drop _).take _
def Zs(te:TD):TD:=λσ S R Z=>te σ S (λx S1=>∃i,x=.int i/\R (.int (-i)) S1) Z
theorem Ff(he:DE K X e te):DE K X (.UnaryOp .USub e pos) (Zs te):=⟨λy=>(TN O6<|he.of y).mono <| by rintro τ H Q ⟨σ,S,R,Z,aA,hS,q,hR,hZ⟩;exact{σ,S,_,Z,aA,hS,q,by rintro d S1 x H1 ⟨i,e,r1⟩ v1 s1 k1;exact by subst e;exact{i,v1.int,hR _ S1 _ H1 r1 (aM _) s1 k1},hZ}⟩
def Zt(T:String)(S:ak):D->η|.str _=>T ="str"|.ref a=>T ="list"/\∃ds,S a=some (.lst ds)|.jD _=>T ="list"|_=>False
theorem Nh{H:Hp}{S:ak}{T:String}{d:D}{v:V}(h:Zt T S d)(hS:Rs K S H)(r:Rv K H d v):W6 K T v H:=by cases d with|str z=>rw[r.str];exact h|ref a=>(obtain⟨e,ds,h⟩:=h;obtain⟨xs,e1,_⟩:=hS.lst h;rw[r.ref];exact .inl {e,xs,.of e1})|jD ds=>(obtain⟨a,xs,rfl,q,_⟩:=r.jD;exact .inl ⟨h,xs,q.sq⟩)|_=>exact h.elim
abbrev Gz:=D->δ D->ak->KD->η
def Lm(K:Φ)(r:Gz):V->δ V->Hp->VK->Prop:=λx xs H Q=>∃d ds S R,Rv K H d x/\RvAll K H ds xs/\Rs K S H/\r d ds S R/\Cn K H R Q
def Ni(K:Φ)(id:String)(r:Gz):Prop:=∀X:Cx,X.K=K->R6 X id (Lm K r)
def dBM(T:String)(r:Gz)(to:TD)(t:iD):TD:=λσ S R Z=>to σ S (λx S1=>Zt T S1 x/\t σ S1 (λds S2=>r x ds S2 R) Z) Z
def Zu(T:String)(r:Gz)(to:TD):TD:=λσ S R Z=>to σ S (λx S1=>Zt T S1 x/\r x [] S1 R) Z
theorem bm{o e:Δ}{es:δ Δ}{T id:String}{name:ρ}{r:Gz}{to:TD}{t:iD}{apos aP:Pos}(pa:PlainAttrs T)(slot:Slot T name id)(Pj:typeOf (.builtin id)=pure (.type "method_descriptor"))(hm:Ni K id r)(ho:DE K X o to)(ha:DA K X (e::es) t) (pR:ψ (attributeBase o name X.env (eval o X.env)=eval o X.env) qQJ) (Pk:ψ (((backTo aP<|starEach (e::es) X.env).all (λx=>!x.1)&&(backToKw aP<|keywordEach [] X.env).all (λx=>x.1.isSome)&&ω ((e::es).length+([]:δ Keyword).length+(if ([]:δ Keyword).isEmpty then 0 else 1)<30))=true) qQJ) (pS:ψ ((apos.endLine==aP.line)=true) qQJ) (hs:ψ (starEach (e::es) X.env=(false,eval e X.env)::starEach es X.env) qQJ) (Bc:ψ ((backTo aP<|starEach es X.env).any (·.1)=false) qQJ) (hK:ψ (X.K=K) qQJ): DE K X (.Call (.Attribute o name apos) (e::es) [] aP) (dBM T r to t):=by
 subst hK
 exact⟨λy=>(Ud (X:=y.cx) pa slot Pj (hm _ rfl) (ho.of y) (ha.of y) pR Pk pS hs Bc).mono <| by rintro τ H Q ⟨σ,S,R,Z,aA,hS,q,hR,hZ⟩;exact
  ⟨σ,S,_,Z,aA,hS,q,by rintro d S1 x H1 ⟨h1,r1⟩ v1 s1 k1;exact⟨Nh h1 s1 v1,σ,S1,_,Z,aA.ts k1,s1,r1,λds S2 xs H2 r2 v2 s2 k2=>⟨d,ds,S2,R,Rv.ts k2 _ v1,v2,s2,r2,hR.kp<|k1.trans k2⟩,hZ.kp k1⟩,hZ⟩⟩
theorem bm0{o:Δ}{T id:String}{name:ρ}{r:Gz}{to:TD}{apos aP:Pos}(pa:PlainAttrs T)(slot:Slot T name id)(Pj:typeOf (.builtin id)=pure (.type "method_descriptor"))(hm:Ni K id r)(ho:DE K X o to) (pR:ψ (attributeBase o name X.env (eval o X.env)=eval o X.env) qQJ) (pS:ψ ((apos.endLine==aP.line)=true) qQJ) (hK:ψ (X.K=K) qQJ): DE K X (.Call (.Attribute o name apos) [] [] aP) (Zu T r to):=by
 subst hK
 exact⟨λy=>(Ph (X:=y.cx) pa slot Pj (hm _ rfl) (ho.of y) pR pS).mono <| by rintro τ H Q ⟨σ,S,R,Z,aA,hS,q,hR,hZ⟩;exact
  ⟨σ,S,_,Z,aA,hS,q,by rintro d S1 x H1 ⟨h1,r1⟩ v1 s1 k1;exact⟨Nh h1 s1 v1,d,[],S1,R,v1,bA,s1,r1,hR.kp k1⟩,hZ⟩⟩
theorem RvAll.one(h:RvAll K H [d] xs):∃v,xs=[v]/\Rv K H d v:=by obtain⟨y,ys,rfl,h1,h2⟩:=h.cons;rw[h2.nil];exact⟨y,rfl,h1⟩
inductive UR (x:D) (ds:δ D) (S:ak) (R:KD):η where
 |mk (a:ε) (es:δ D) (d:D) (e1:x=.ref a) (e2:ds=[d]) (e3:S a=some (.lst es)) (e4:es.length<sizeLine) (r:R .au<|S.set a<|.lst<|es++[d])
def Lp:Gz:=λx ds S R=>UR x ds S R
theorem cC:Ni K "list.append" Lp:=by rintro X hK pins s σ H x xs v us Q I rx rs ⟨d,ds,S,R,r1,r2,hS,⟨a,es,y,e1,e2,e3,hl,h⟩,hR⟩;subst e1 e2;obtain⟨w0,rfl,q2⟩:=r2.one;obtain⟨zs,e4,t⟩:=hS.lst e3;exact EW pins s σ H x _ v us Q I rx rs {a,zs,w0,r1.ref,rfl,e4,by rw[t.len];exact hl,hR.put hS e3 h iN<|t.app<|aR q2 bA}
def Zv:Gz:=λx ds S R=>∃a es d,x=.ref a/\ds=[]/\S a=some (.lst es)/\es[es.length-1]?=some d/\R d (S.set a<|.lst es.dropLast)
theorem US:Ni K "list.pop" Zv:=by rintro X hK pins s σ H x xs v us Q I rx rs ⟨d,ds,S,R,r1,r2,hS,⟨a,es,y,e1,e2,e3,hl,h⟩,hR⟩;subst e1 e2;obtain⟨zs,e4,t⟩:=hS.lst e3;obtain⟨w,e5,r⟩:=t.get hl;exact Pl pins s σ H x _ v us Q I rx rs {a,zs,w,r1.ref,r2.nil,e4,by rw[t.len];exact e5,hR.put hS e3 h r t.dropLast}
def P2:Gz:=λx ds S R=>∃a es i k d,x=.ref a/\ds=[.int i]/\S a=some (.lst es)/\-(2^63)<=i/\i<2^63/\seqIndex? i es.length=some k/\es[k]?=some d/\R d (S.set a<|.lst<|es.eraseIdx k)
theorem Ls:Ni K "list.pop" P2:=by rintro X hK pins s σ H x xs v us Q I rx rs ⟨d,ds,S,R,r1,r2,hS,⟨a,es,i,k,y,e1,e2,e3,h1,h2,h3,h4,h⟩,hR⟩;subst e1 e2;obtain⟨w0,rfl,q2⟩:=r2.one;obtain⟨zs,e4,t⟩:=hS.lst e3;obtain⟨w,e5,r⟩:=t.get h4;exact G9 pins s σ H x _ v us Q I rx rs {a,zs,i,k,w,r1.ref,by rw[q2.int],e4,h1,h2,by rw[t.len];exact h3,e5,hR.put hS e3 h r<|t.erase k}
def Lu:Gz:=λx ds S R=>∃(es:δ D)(d:D)(j:π),ds=[d]/\o9 S x es/\iR d=true/\es.all iR=true/\(∃z,es[j]?=some z/\eqV (jF z) (jF d)=true)/\(∀m u,m<j->es[m]?=some u->eqV (jF u) (jF d)=false)/\R (.int j) S
theorem qg:Ni K "list.index" Lu:=by rintro X hK pins s σ H x xs v us Q I rx rs ⟨d,ds,S,R,r1,r2,hS,⟨es,y,j,e2,e3,f1,f2,⟨z,e4,e5⟩,h4,h⟩,hR⟩;subst hK e2;obtain⟨w0,rfl,q2⟩:=r2.one;obtain⟨a,zs,rfl,q,t⟩:=e3.at hS r1;obtain⟨g1,g2⟩:=qf f1 q2;obtain⟨g3,g4⟩:=kY f2 t;subst g1 g3;refine Fd pins s σ H _ _ v us Q I rx rs {a,_,_,jF z,j,rfl,rfl,q,g2,g4,by rw[zp,e4];rfl,e5,λm u hm e=>?_,hR.now hS h<|aM _};rw[zp]at e;cases q2:es[m]? with|none=>(rw[q2]at e;cases e)|some u'=>rw[q2]at e;cases e;exact h4 m u' hm q2
def Lv:Gz:=λx ds S R=>∃z y,x=.str z/\ds=[.str y]/\R (.bl<|PySem.Txt.startswith z y) S
theorem HC:Ni K "str.startswith" Lv:=by rintro X hK pins s σ H x xs v us Q I rx rs ⟨d,ds,S,R,r1,r2,hS,⟨z,y,e1,e2,h⟩,hR⟩;subst e1 e2;obtain⟨w0,rfl,q2⟩:=r2.one;exact rZ pins s σ H _ _ v us Q I rx rs {z,y,r1.str,by rw[q2.str],hR.now hS h<|bY _}
def UT(S:ak)(R:KD):D->η|.str z=>z.length<=sizeLine/\R (.int z.length) S|.tup es=>R (.int es.length) S|.kt es=>R (.int es.length) S|.jD es=>R (.int es.length) S|.ref a=>(∃es,S a=some (.lst es)/\R (.int es.length) S)\/∃kvs,S a=some (.bG kvs)/\R (.int kvs.length) S|_=>False
inductive UU (ds:δ D) (S:ak) (R:KD):η where
 |mk (x:D) (h:ds=[x]) (r:UT S R x)
def Zw:δ D->ak->KD->Prop:=λds S R=>UU ds S R
theorem aZ:ic K (.builtin "len") Zw:=by rintro X hK hc pins s σ H xs us Q I rx ⟨ds,S,R,r,hS,⟨x,e,h⟩,hR⟩;subst hK e;obtain⟨w,rfl,r'⟩:=r.one;cases x with|str z=>(cases r'.str;exact iI pins s σ H _ us Q I rx {_,_,rfl,⟨h.1,rfl⟩,hR.now hS h.2<|aM _})|tup es=>(obtain⟨a,xs,rfl,q,t⟩:=r'.tup;exact iI pins s σ H _ us Q I rx {_,_,rfl,.inr {xs,.of q,t.len.symm},hR.now hS h<|aM _})|kt es=>(obtain⟨a,xs,rfl,q,t⟩:=r'.kt;exact iI pins s σ H _ us Q I rx {_,_,rfl,.inr {xs,.inr q,t.len.symm},hR.now hS h<|aM _})|jD es=>(obtain⟨a,xs,rfl,q,t⟩:=r'.jD;exact iI pins s σ H _ us Q I rx {_,_,rfl,.inl ⟨xs,q.sq,t.len.symm⟩,hR.now hS h<|aM _})|ref a=>(cases r'.ref;rcases h with⟨es,e,h⟩|⟨kvs,e,h⟩;obtain⟨xs,e1,t⟩:=hS.lst e;exact iI pins s σ H _ us Q I rx {_,_,rfl,.inl {xs,.of e1,t.len.symm},hR.now hS h<|aM _};obtain⟨xs,e1,t⟩:=hS.bG e;exact E3 pins s σ H _ us Q I rx {a,xs,rfl,e1,by rw[t.len];exact hR.now hS h<|aM _})|_=>exact h.elim
def UW(S:ak):D->Kd->η|.au,k=>k=.au|.bl _,k=>k=.bl|.int _,k=>k=.int|.str _,k=>k=.str|.ref a,k=>(k=.lst/\∃ds,S a=some (.lst ds))\/(k=.bG/\∃ds,S a=some (.bG ds))|.tup _,k=>k=.tup|_,_=>False
theorem UX(h:UW S d k)(hS:Rs K S H)(r:Rv K H d v):pY H v k:=by cases d with|au=>(cases h;rw[r.au];exact .au)|bl b=>(cases h;rw[r.bl];exact .bl b)|int b=>(cases h;rw[r.int];exact .int b)|str b=>(cases h;rw[r.str];exact .str b)|tup b=>(cases h;obtain⟨a,xs,rfl,q,_⟩:=r.tup;exact .tup q)|ref a=>(rw[r.ref];rcases h with⟨rfl,ds,h⟩|⟨rfl,ds,h⟩;obtain⟨xs,e,_⟩:=hS.lst h;exact .lst e;obtain⟨xs,e,_⟩:=hS.bG h;exact .bG e)|_=>exact h.elim
inductive UY (ds:δ D) (S:ak) (R:KD):η where
 |mk (x:D) (n:String) (k:Kd) (g:Kd->χ) (e:ds=[x,.ty n]) (a:wY n=some g) (b:UW S x k) (r:R (.bl<|g k) S)
def Zx:δ D->ak->KD->Prop:=λds S R=>UY ds S R
theorem RvAll.two(h:RvAll K H [d,e] xs):∃v u,xs=[v,u]/\Rv K H d v/\Rv K H e u:=by obtain⟨y,ys,rfl,h1,h2⟩:=h.cons;obtain⟨u,rfl,h3⟩:=h2.one;exact⟨y,u,rfl,h1,h3⟩
theorem dE:ic K (.builtin "isinstance") Zx:=by rintro X hK hc pins s σ H xs us Q I rx ⟨ds,S,R,r,hS,⟨x,n,k,g,e,h1,h2,h⟩,hR⟩;subst hK e;obtain⟨v,u,rfl,r1,r2⟩:=r.two;rw[r2.ty]at rx;exact Hn pins s σ H _ us Q I rx {v,n,k,g,rfl,h1,UX h2 hS r1,hR.now hS h<|bY _}
inductive UZ (ds:δ D) (S:ak) (f:δ χ->χ) (R:KD):η where
 |mk (x:D) (bs:δ χ) (e:ds=[x]) (h:o9 S x<|bs.map D.bl) (r:R (.bl<|f bs) S)
def U0:δ D->ak->KD->Prop:=λds S R=>UZ ds S (λbs=>bs.all id) R
theorem jP:ic K (.builtin "all") U0:=by rintro X hK hc pins s σ H xs us Q I rx ⟨ds,S,R,r,hS,⟨x,bs,e,h1,h⟩,hR⟩;subst hK e;obtain⟨v,rfl,r1⟩:=r.one;obtain⟨a,zs,rfl,q,t⟩:=h1.at hS r1;rw[t.bools]at q;exact rV hc pins s σ H _ us Q I rx {a,bs,rfl,q,hR.now hS h<|bY _}
def Zy:δ D->ak->KD->Prop:=λds S R=>∃(x:D)(bs:δ χ),ds=[x]/\o9 S x (bs.map D.bl)/\R (.bl<|bs.any id) S
theorem Nj:ic K (.builtin "any") Zy:=by rintro X hK hc pins s σ H xs us Q I rx ⟨ds,S,R,r,hS,⟨x,bs,e,h1,h⟩,hR⟩;subst hK e;obtain⟨v,rfl,r1⟩:=r.one;obtain⟨a,zs,rfl,q,t⟩:=h1.at hS r1;rw[t.bools]at q;exact rW hc pins s σ H _ us Q I rx {a,bs,rfl,q,hR.now hS h<|bY _}
def intD:δ D->ak->KD->Prop:=λds S R=>(∃i,ds=[.int i]/\R (.int i) S)\/∃k,ds=[.bl k]/\R (.int<|if k then 1 else 0) S
theorem HD:ic K (.type "int") intD:=by rintro X hK hc pins s σ H xs us Q I rx ⟨ds,S,R,r,hS,h,hR⟩;rcases h with⟨i,rfl,h⟩|⟨k,rfl,h⟩;obtain⟨v,rfl,r1⟩:=r.one;exact sV pins s σ H _ us Q I rx<|.inl {i,by rw[r1.int],hR.now hS h<|aM _};obtain⟨v,rfl,r1⟩:=r.one;exact sV pins s σ H _ us Q I rx<|.inr {k,by rw[r1.bl],hR.now hS h<|aM _}
def U1:δ D->ak->KD->Prop:=λds S R=>∃x es,ds=[x]/\(o9 S x es\/x=.tup es)/\∀p,S p=none->R (.ref p) (S.set p<|.lst es)
theorem P4:ic K (.type "list") U1:=by rintro X hK hc pins s σ H xs us Q I rx ⟨ds,S,R,r,hS,⟨x,es,e,h1,h⟩,hR⟩;subst hK e;obtain⟨v,rfl,r1⟩:=r.one;rcases h1 with h1|rfl;obtain⟨a,zs,rfl,q,t⟩:=h1.at hS r1;exact kT pins s σ H _ us Q I rx {a,zs,rfl,.inl q,λp hp=>hR.new hS hp (h p) t};obtain⟨a,zs,rfl,q,t⟩:=r1.tup;exact kT pins s σ H _ us Q I rx {a,zs,rfl,.inr<|.of q,λp hp=>hR.new hS hp (h p) t}
inductive U4 (ds:δ D) (S:ak) (R:KD):η where
 |mk (x:D) (es:δ D) (e:ds=[x]) (h:o9 S x es\/x=.tup es) (r:R (.tup es) S)
def P5:δ D->ak->KD->Prop:=λds S R=>U4 ds S R
theorem gI:ic K (.type "tuple") P5:=by rintro X hK hc pins s σ H xs us Q I rx ⟨ds,S,R,r,hS,⟨x,es,e,h1,h⟩,hR⟩;subst hK e;obtain⟨v,rfl,r1⟩:=r.one;rcases h1 with h1|rfl;obtain⟨a,zs,rfl,q,t⟩:=h1.at hS r1;exact jN pins s σ H _ us Q I rx {a,zs,rfl,.inl {q,λp hp=>hR.Zi hS hp h t}};obtain⟨a,zs,rfl,q,t⟩:=r1.tup;exact jN pins s σ H _ us Q I rx {a,zs,rfl,.inr {.of q,hR.now hS h<|mB q t}}
def minD(f:ν->ν->χ):δ D->ak->KD->Prop:=λds S R=>∃i j,ds=[.int i,.int j]/\R (.int<|if f j i then j else i) S
theorem Nk:ic K (.builtin "min") (minD λa b=>ω<|a<b):=by rintro X hK hc pins s σ H xs us Q I rx ⟨ds,S,R,r,hS,⟨i,j,e,h⟩,hR⟩;subst e;obtain⟨v,u,rfl,r1,r2⟩:=r.two;refine EN hc pins s σ H _ us Q I rx {i,j,by rw[r1.int,r2.int],?_};have:=hR.now hS h<|aM _;simpa using this
end
abbrev qh:=δ D->ak->KD->KX->η
def rK(K:Φ)(sp:qh):Sp:=λvs H Q e=>∃ds S R Z,RvAll K H ds vs/\Rs K S H/\sp ds S R Z/\Cn K H R Q/\Fe K H Z e
section
variable{K:Φ}{X:Cx}{k:π}{f C:ε}{fd:FuncData}{ps:δ ρ}{sp:Sp}{ox:δ V}{ds:δ ξ}{x m:ρ}{p pos apos:Pos}{e o:Δ}{es:δ Δ}{b:χ}{y:Ev X b}
theorem uN(F:bK X.prog X.w X.K X.mg X.base (fF X.prog X.w X.mg) k f fd ps sp)(hr:bO k X.A)(hb:Binds X.K fd ps ds)(hd:Vals ox ds) (I:Inv y.cx p2 σ H s) (r:Vals vs us) (h:sp (vs++ox) H Q<|y.E σ):wpAny (model X.prog X.w) X.A (call (.ref f) us) (EP y.cx p2 σ Q) y.xe s:=by
 have r2:Vals (vs++ox) (us++ds):=r.append hd;have hl:(us++ds).length=ps.length:=by rw[<-r2.length];exact F.len _ _ _ _ h
 refine wpAny_call<|yZ (F.run X.A X.stack s H {us,[]} (us++ds) (vs++ox) Q (y.E σ) hr I.T6 (hb s us I.nD hl) r2 h) λres s' hq=>?_;cases res with|error e=>exact y.ok.call p2 σ H s e s' I hq|ok fl=>cases fl with|ret u=>exact I.after hq|next=>exact False.elim hq|brk=>exact False.elim hq|cont=>exact False.elim hq
theorem HE{t:TA}(F:bK X.prog X.w X.K X.mg X.base (fF X.prog X.w X.mg) k f fd ps sp)(hr:bO k X.A)(hg:Gl X x)(hm:X.mg x=some (.ref f))(hk:keepIn X.K (.ref f)=true)(hb:Binds X.K fd ps ds)(hd:Vals ox ds) (ha:PA y.cx (e::es) t) (rR:(x==("__debug__": ρ))=false) (he:starEach (e::es) X.env=(false,eval e X.env)::starEach es X.env) (eJ:(backTo pos<|starEach es X.env).any (·.1)=false): PE y.cx (.Call (.Name x p) (e::es) [] pos) (λσ H Q=>t σ H λvs H1=>sp (vs++ox) H1 Q<|y.E σ):=by intro p2 s σ H Q I h;refine wpAny_Call_Name_kw<|uv I hg hm ?_ rR;refine callWith_K (h₀:=X.base) I.ok.mod.Td hk (bj (ha pos p2 s σ H _ I h) λus s1 ⟨vs,H1,I1,r,q⟩=>{I1.nD,?_}) he eJ;exact uN F hr hb hd I1 r q
theorem HF{pl:Sem χ}{ta:TE}{t:TA}(he:PE y.cx o ta)(c:oV X.K C)(hm:Meth X.K C m f)(F:bK X.prog X.w X.K X.mg X.base (fF X.prog X.w X.mg) k f fd ps sp)(hr:bO k X.A)(hb:Binds X.K fd ps ds)(hd:Vals ox ds)(ha:PA y.cx (e::es) t)
  (wJ:starEach (e::es) X.env=(false,eval e X.env)::starEach es X.env) (eJ:(backTo pos<|starEach es X.env).any (·.1)=false)
  (ht:eval (.Call (.Attribute o m apos) (e::es) [] pos) X.env=(do
   let ov <-eval o X.env
   standAt apos.atName
   let (f,first) <-holding [ov] (getMethod ov m pl)
   callWith pos f first (backTo pos<|starEach (e::es) X.env) (backToKw pos<|keywordEach [] X.env))):
  PE y.cx (.Call (.Attribute o m apos) (e::es) [] pos) (λσ H Q=>ta σ H λx H1=>∃a dx fs,x=.ref a/\H1 a=some (.ins C dx fs)/\fs.lookup m=none/\t σ H1 λvs H2=>sp (x::(vs++ox)) H2 Q<|y.E σ):=by
 intro p2 s σ H Q I h
 refine methodCall_KW (pl:=pl) (bj (he p2 s σ H _ I h) λu s1 ⟨x,H1,I1,rx,a,dx,fs,ex,ea,l,q⟩=>?_) ht
 subst ex
 obtain rfl:u=Value.ref a:=rx
 refine pQ I1 ea c hm l ?_
 refine callWith_K (first:=[.ref a]) (h₀:=X.base) I.ok.mod.Td hm.kp (bj (ha pos p2 s1 σ H1 _ I1 q) λus s2 ⟨vs,H2,I2,r,q2⟩=>{I2.nD,?_}) wJ eJ
 exact uN (us:=.ref a::us) (vs:=.ref a::vs) F hr hb hd I2 (.cons rfl r) q2
theorem Fh(he:PE y.cx o ta)(c:oV X.K C)(hm:Meth X.K C m f)(F:bK X.prog X.w X.K X.mg X.base (fF X.prog X.w X.mg) k f fd ps sp)(hr:bO k X.A)(hb:Binds X.K fd ps ds)(hd:Vals ox ds)
  (ht:eval (.Call (.Attribute o m apos) [] [] pos) X.env=(do
   let ov <-eval o X.env
   standAt apos.atName
   let (f,first) <-holding [ov] (getMethod ov m pl)
   callWith pos f first (backTo pos<|starEach [] X.env) (backToKw pos<|keywordEach [] X.env))):
  PE y.cx (.Call (.Attribute o m apos) [] [] pos) (λσ H Q=>ta σ H λx H1=>∃a dx fs,x=.ref a/\H1 a=some (.ins C dx fs)/\fs.lookup m=none/\sp (x::ox) H1 Q (y.E σ)):=by
 intro p2 s σ H Q I h
 refine methodCall_KW (pl:=pl) (bj (he p2 s σ H _ I h) λu s1 ⟨x,H1,I1,rx,a,dx,fs,ex,ea,l,q⟩=>?_) ht
 subst ex
 obtain rfl:u=Value.ref a:=rx
 refine pQ I1 ea c hm l ?_
 exact PySem.W.callWith_K0 (first:=[.ref a]) I1.nD hm.kp<|uN (us:=[.ref a]) (vs:=[.ref a]) F hr hb hd I1 (.cons rfl .nil) q
theorem Fj(M:Mk X.K C f)(F:bK X.prog X.w X.K X.mg X.base (fF X.prog X.w X.mg) k f fd ps sp)(hr:bO (k+1) X.A)(hb:Binds X.K fd ps ds)(hd:Vals ox ds) (I:Inv y.cx p2 σ H s) (r:Vals vs us) (h:∀x dx,H x=none->H dx=none->dx≠x->sp (.ref x::(vs++ox)) (upd (upd H dx<|.own x) x<|.ins C dx []) (λv H2=>v=.au/\Q (.ref x) H2) (y.E σ)): wpAny (model X.prog X.w) X.A (call (.ref C) us) (EP y.cx p2 σ Q) y.xe s:=by
 have hq:=h (s.heap.objs.size+1) s.heap.objs.size (I.aI.fresh<|y4 _) (I.aI.fresh<|zm _)<|zB<|yK _;have I2:=Inv.made (C:=C) I;have r2:Vals (V.ref (s.heap.objs.size+1)::(vs++ox)) (Value.ref (s.heap.objs.size+1)::(us++ds)):=.cons rfl<|r.append hd;have hl:(Value.ref (s.heap.objs.size+1)::us++ds).length=ps.length:=by have e:=r2.length;rw[F.len _ _ _ _ hq]at e;exact e.symm
 refine wpAny_call<|G1 (f:=f) I.nD M.makes M.init (y3.mp M.fn)<|yZ (F.run _ X.stack _ _ {Value.ref (s.heap.objs.size+1)::us,[]} (Value.ref (s.heap.objs.size+1)::(us++ds)) _ _ (y.E σ) (hr.make C us []) (I2.T6.make C us []) (hb _ (Value.ref (s.heap.objs.size+1)::us) I2.nD hl) r2 hq) λr s' AK=>?_;cases r with|error e=>exact y.ok.call p2 σ _ _ e s' I2 AK|ok fl=>cases fl with|ret u=>(obtain⟨v,H',I3,rv,ev,q3⟩:=I2.after AK;subst ev;exact{rv,{V.ref<|s.heap.objs.size+1,H',I3,rfl,q3}})|next=>exact False.elim AK|brk=>exact False.elim AK|cont=>exact False.elim AK
theorem HG{t:TA}(M:Mk X.K C f)(F:bK X.prog X.w X.K X.mg X.base (fF X.prog X.w X.mg) k f fd ps sp)(hr:bO (k+1) X.A)(hg:Gl X x)(hm:X.mg x=some (.ref C))(hb:Binds X.K fd ps ds)(hd:Vals ox ds) (ha:PA y.cx (e::es) t) (rR:(x==("__debug__": ρ))=false) (he:starEach (e::es) X.env=(false,eval e X.env)::starEach es X.env) (eJ:(backTo pos<|starEach es X.env).any (·.1)=false): PE y.cx (.Call (.Name x p) (e::es) [] pos) (λσ H Q=>t σ H λvs H1=>∀x dx,H1 x=none->H1 dx=none->dx≠x->sp (.ref x::(vs++ox)) (upd (upd H1 dx<|.own x) x<|.ins C dx []) (λv H2=>v=.au/\Q (.ref x) H2) (y.E σ)):=by intro p2 s σ H Q I h;refine wpAny_Call_Name_kw<|uv I hg hm ?_ rR;refine callWith_K (h₀:=X.base) I.ok.mod.Td M.kp (bj (ha pos p2 s σ H _ I h) λus s1 ⟨vs,H1,I1,r,q⟩=>{I1.nD,?_}) he eJ;exact Fj M F hr hb hd I1 r q
end
section
variable{K:Φ}{X:Cx}{k:π}{f C:ε}{fd:FuncData}{ps:δ ρ}{sp:qh}{w_:δ D}{ox:δ V}{ds:δ ξ}{x m:ρ}{p pos apos:Pos}{e o:Δ}{es:δ Δ}
structure Si(K:Φ)(w_:δ D)(ox:δ V)(ds:δ ξ):η where
 v:Vals ox ds
 d:∀H,RvAll K H w_ ox
theorem d0:Si K [] [] []:={.nil,λ_=>bA}
theorem d1:Si K [.au] [.au] [.none]:={.cons rfl .nil,λ_=>aR iN bA}
def Nl(sp:qh)(w_:δ D)(t:iD):TD:=λσ S R Z=>t σ S (λds S1=>sp (ds++w_) S1 R Z) Z
theorem cf{t:iD}(F:bK X.prog X.w K X.mg X.base (fF X.prog X.w X.mg) k f fd ps<|rK K sp)(hr:bO k X.A)(hm:X.mg x=some (.ref f))(hk:keepIn K (.ref f)=true)(hb:Binds K fd ps ds)(hd:Si K w_ ox ds)(ha:DA K X (e::es) t) (hg:ψ (Gl X x) qQJ) (rR:ψ ((x==("__debug__": ρ))=false) qQZ) (he:ψ (starEach (e::es) X.env=(false,eval e X.env)::starEach es X.env) qQJ) (eJ:ψ ((backTo pos<|starEach es X.env).any (·.1)=false) qQJ) (hK:ψ (X.K=K) qQJ): DE K X (.Call (.Name x p) (e::es) [] pos) (Nl sp w_ t):=by
 subst hK
 exact⟨λy=>(HE F hr hg hm hk hb hd.v (ha.of y) rR he eJ).mono <| by rintro τ H Q ⟨σ,S,R,Z,aA,hS,q,hR,hZ⟩;exact
  ⟨σ,S,_,Z,aA,hS,q,λes S1 xs H1 r1 v1 s1 k1=>⟨es++w_,S1,R,Z,v1.app<|hd.d _,s1,r1,hR.kp k1,hZ.kp k1⟩,hZ⟩⟩
inductive MeR (C:ε) (m:ρ) (x:D) (S:ak) (p:η):η where
 |mk (a:ε) (fs:δ<|ρ×D) (e1:x=.ref a) (e2:S a=some (.ins C fs)) (e3:fs.lookup m=none) (r:p)
def Dq(C:ε)(m:ρ)(sp:qh)(w_:δ D)(ta:TD)(t:iD):TD:=λσ S R Z=>ta σ S (λx S1=>MeR C m x S1<|t σ S1 (λds S2=>sp (x::(ds++w_)) S2 R Z) Z) Z
theorem Zz{t:iD}(he:DE K X o ta)(c:oV K C)(hm:Meth K C m f)(F:bK X.prog X.w K X.mg X.base (fF X.prog X.w X.mg) k f fd ps<|rK K sp)(hr:bO k X.A)(hb:Binds K fd ps ds)(hd:Si K w_ ox ds)(ha:DA K X (e::es) t)
  (wJ:ψ (starEach (e::es) X.env=(false,eval e X.env)::starEach es X.env) qQJ) (eJ:ψ ((backTo pos<|starEach es X.env).any (·.1)=false) qQJ)
  (ht:ψ (eval (.Call (.Attribute o m apos) (e::es) [] pos) X.env=(do
   let ov <-eval o X.env
   standAt apos.atName
   let (f,first) <-holding [ov] (getMethod ov m pl)
   callWith pos f first (backTo pos<|starEach (e::es) X.env) (backToKw pos<|keywordEach [] X.env))) qQJ) (hK:ψ (X.K=K) qQJ):
  DE K X (.Call (.Attribute o m apos) (e::es) [] pos) (Dq C m sp w_ ta t):=by
 subst hK
 exact⟨λy=>(HF (he.of y) c hm F hr hb hd.v (ha.of y) wJ eJ ht).mono <| by rintro τ H Q ⟨σ,S,R,Z,aA,hS,q,hR,hZ⟩;exact
  ⟨σ,S,_,Z,aA,hS,q,by
   rintro d S1 x H1 ⟨a,fs,e1,e2,e3,r1⟩ v1 s1 k1
   subst e1
   obtain⟨dx,vs,e4,t4⟩:=s1.ins e2
   exact{a,dx,vs,v1.ref,e4,(t4.look m).2 e3,σ,S1,_,Z,aA.ts k1,s1,r1,λes S2 xs H2 r2 v2 s2 k2=>{_,S2,R,Z,aR (Rv.ts k2 _ v1)<|v2.app<|hd.d _,s2,r2,hR.kp<|k1.trans k2,hZ.kp<|k1.trans k2},hZ.kp k1},hZ⟩⟩
theorem ZA(he:DE K X o ta)(c:oV K C)(hm:Meth K C m f)(F:bK X.prog X.w K X.mg X.base (fF X.prog X.w X.mg) k f fd ps<|rK K sp)(hr:bO k X.A)(hb:Binds K fd ps ds)(hd:Si K w_ ox ds)
  (ht:ψ (eval (.Call (.Attribute o m apos) [] [] pos) X.env=(do
   let ov <-eval o X.env
   standAt apos.atName
   let (f,first) <-holding [ov] (getMethod ov m pl)
   callWith pos f first (backTo pos<|starEach [] X.env) (backToKw pos<|keywordEach [] X.env))) qQJ) (hK:ψ (X.K=K) qQJ):
  DE K X (.Call (.Attribute o m apos) [] [] pos) (Dq C m sp w_ ta Lo):=by
 subst hK
 exact⟨λy=>(Fh (he.of y) c hm F hr hb hd.v ht).mono <| by rintro τ H Q ⟨σ,S,R,Z,aA,hS,q,hR,hZ⟩;exact
  ⟨σ,S,_,Z,aA,hS,q,by
   rintro d S1 x H1 ⟨a,fs,e1,e2,e3,r1⟩ v1 s1 k1
   subst e1
   obtain⟨dx,vs,e4,t4⟩:=s1.ins e2
   exact{a,dx,vs,v1.ref,e4,(t4.look m).2 e3,_,S1,R,Z,aR v1<|hd.d _,s1,r1,hR.kp k1,hZ.kp k1},hZ⟩⟩
def U5(C:ε)(sp:qh)(w_:δ D)(t:iD):TD:=λσ S R Z=>t σ S (λds S1=>∀x,S1 x=none->sp (.ref x::(ds++w_)) (S1.set x<|.ins C []) (λd S2=>d=.au/\R (.ref x) S2) Z) Z
theorem mk{t:iD}(M:Mk K C f)(F:bK X.prog X.w K X.mg X.base (fF X.prog X.w X.mg) k f fd ps<|rK K sp)(hr:bO (k+1) X.A)(hm:X.mg x=some (.ref C))(hb:Binds K fd ps ds)(hd:Si K w_ ox ds)(ha:DA K X (e::es) t) (hg:ψ (Gl X x) qQJ) (rR:ψ ((x==("__debug__": ρ))=false) qQZ) (he:ψ (starEach (e::es) X.env=(false,eval e X.env)::starEach es X.env) qQJ) (eJ:ψ ((backTo pos<|starEach es X.env).any (·.1)=false) qQJ) (hK:ψ (X.K=K) qQJ): DE K X (.Call (.Name x p) (e::es) [] pos) (U5 C sp w_ t):=by
 subst hK
 exact⟨λy=>(HG M F hr hg hm hb hd.v (ha.of y) rR he eJ).mono <| by rintro τ H Q ⟨σ,S,R,Z,aA,hS,q,hR,hZ⟩;exact
  ⟨σ,S,_,Z,aA,hS,q,λes S1 xs H1 r1 v1 s1 k1 x dx hx hdx ne=>by
   have Lw:upd H1 dx (.own x) x=none:=by rw[av ne.symm];exact hx
   have k2:Kp X.K H1 (upd (upd H1 dx<|.own x) x<|.ins C dx []):=(Kp.new hdx).trans<|Kp.new Lw
   exact{_,_,_,Z,aR (iO x)<|RvAll.ts k2 _<|v1.app<|hd.d _,(s1.grow hdx).new (c:=.ins C []) Lw {dx,[],aB,.nil},r1 x<|s1.fresh hx,by rintro d S2 v H2 ⟨e,r2⟩ v2 s2 k3;exact by subst e;exact{v2.au,hR _ _ _ _ r2 (iO x) s2<|(k1.trans k2).trans k3},(hZ.kp k1).kp k2},hZ⟩⟩
inductive FlR (C:ε) (f:ρ) (x:D) (S:ak) (R:KD):η where
 |mk (a:ε) (fs:δ<|ρ×D) (d:D) (e1:x=.ref a) (e2:S a=some (.ins C fs)) (e3:fs.lookup f=some d) (r:R d S)
def ZC(C:ε)(f:ρ)(ta:TD):TD:=λσ S R Z=>ta σ S (λx S1=>FlR C f x S1 R) Z
theorem fl{f:ρ}{ta:TD}(c:oV K C)(n:iJ K C f)(he:DE K X e ta)(hb:ψ (attributeBase e f X.env (eval e X.env)=eval e X.env) qQJ)(hK:ψ (X.K=K) qQJ):DE K X (.Attribute e f pos) (ZC C f ta):=by
 subst hK
 exact⟨λy=>(O8 (X:=y.cx) (he.of y) hb).mono <| by rintro τ H Q ⟨σ,S,R,Z,aA,hS,q,hR,hZ⟩;exact
  ⟨σ,S,_,Z,aA,hS,q,by
   rintro d S1 x H1 ⟨a,fs,y,e1,e2,e3,r1⟩ v1 s1 k1
   subst e1
   obtain⟨dx,vs,e4,t4⟩:=s1.ins e2
   obtain⟨v,e5,r5⟩:=(t4.look f).1 y e3
   exact{a,C,dx,vs,v,v1.ref,e4,c,n,e5,(hR.kp k1).now s1 r1 r5},hZ⟩⟩
end
structure tI where
 nx:SD->ak->η
 rt:KD
 bk:SD->ak->Prop:=λ_ _=>False
 ct:SD->ak->Prop:=λ_ _=>False
abbrev kZ:=tI->SD->ak->(SD->KX)->η
def Nm(K:Φ)(H:Hp)(R:SD->ak->η)(Q:St->Hp->η):Prop:=∀σ S τ H',R σ S->gG K H' σ τ->Rs K S H'->Kp K H H'->Q τ H'
structure Xf(K:Φ)(H:Hp)(De:tI)(Dv:Ends):η where
 nx:Nm K H De.nx Dv.nx
 rt:Cn K H De.rt Dv.rt
 bk:Nm K H De.bk Dv.bk
 ct:Nm K H De.ct Dv.ct
def xa(K:Φ)(H:Hp)(Z:SD->KX)(E:St->XK):Prop:=∀σ τ C S H',Z σ C S->gG K H' σ τ->Rs K S H'->Kp K H H'->E τ (.ref C) none H'
section
variable{K:Φ}{H H1:Hp}{De:tI}{Dv:Ends}{Z:SD->KX}{E:St->XK}{σ:SD}{τ:St}{S:ak}
theorem Nm.kp(h:Nm K H R Q)(k:Kp K H H1):Nm K H1 R Q:=λσ S τ H' r a b c=>h σ S τ H' r a b<|k.trans c
theorem Xf.kp(h:Xf K H De Dv)(k:Kp K H H1):Xf K H1 De Dv:={h.nx.kp k,h.rt.kp k,h.bk.kp k,h.ct.kp k}
theorem xa.kp(h:xa K H Z E)(k:Kp K H H1):xa K H1 Z E:=λσ τ C S H' r a b c=>h σ τ C S H' r a b<|k.trans c
theorem xa.at(h:xa K H Z E)(r:gG K H σ τ):Fe K H (Z σ) (E τ):=λC S H' z s k=>h σ τ C S H' z (r.ts k) s k
theorem xa.on(h:xa K H Z E)(k:Kp K H H1)(r:gG K H1 σ τ):Fe K H1 (Z σ) (E τ):=(h.kp k).at r
end
def Tl(K:Φ)(E:St->XK)(t:kZ):TS:=λDv τ H=>∃σ S De Z,gG K H σ τ/\Rs K S H/\t De σ S Z/\Xf K H De Dv/\xa K H Z E
structure DS(K:Φ)(X:Cx)(b:χ)(st:Stmt)(t:kZ):η where
 of:∀y:Ev X b,PS y.cx st<|Tl K y.E t
structure GA(K:Φ)(X:Cx)(b:χ)(st:δ Stmt)(t:kZ):η where
 of:∀y:Ev X b,CY y.cx st<|Tl K y.E t
theorem PS.mono{t t':TS}(h:PS X e t)(i:∀D τ H,t' D τ H->t D τ H):PS X e t':=λpins s τ H D I q=>h pins s τ H D I<|i D τ H q
theorem CY.mono{t t':TS}(h:CY X e t)(i:∀D τ H,t' D τ H->t D τ H):CY X e t':=λpins s τ H D I q=>h pins s τ H D I<|i D τ H q
section
variable{K:Φ}{X:Cx}{b:χ}{pos:Pos}
def U6:kZ:=λDe σ S _=>De.nx σ S
def ZD(t u:kZ):kZ:=λDe σ S Z=>t {De with nx:=λax S'=>u De ax S' Z} σ S Z
theorem s0:GA K X b [] U6:=⟨λy=>(Kh (X:=y.cx)).mono <| by rintro D τ H ⟨σ,S,De,Z,aA,hS,q,hD,hZ⟩;exact hD.nx _ _ _ _ q aA hS<|.refl _⟩
theorem sc{st:Stmt}{r:δ Stmt}{t u:kZ}(h1:DS K X b st t)(h2:GA K X b r u):GA K X b (st::r) (ZD t u):=
 ⟨λy=>(GN (h1.of y)<|h2.of y).mono <| by rintro D τ H ⟨σ,S,De,Z,aA,hS,q,hD,hZ⟩;exact
  ⟨σ,S,_,Z,aA,hS,q,⟨λwu S1 ZE H1 r1 a b c=>⟨wu,S1,De,Z,a,b,r1,hD.kp c,hZ.kp c⟩,hD.rt,hD.bk,hD.ct⟩,hZ⟩⟩
theorem s1{st:Stmt}{t:kZ}(h:DS K X b st t):GA K X b [st] t:=⟨λy=>Ki<|h.of y⟩
def U7(t:TD):kZ:=λDe σ S Z=>t σ S (λ_ S1=>De.nx σ S1)<|Z σ
theorem se{t:TD}(h:DE K X e t)(hs:ψ (swapsWith e none pos.line X.env=pure false) qQJ):DS K X b (.Expr e pos) (U7 t):=⟨λy=>(Kj (X:=y.cx) (h.of y) hs).mono <| by rintro D τ H ⟨σ,S,De,Z,aA,hS,q,hD,hZ⟩;exact{σ,S,_,_,aA,hS,q,λd S1 v H1 r1 _ s1 k1=>hD.nx _ _ _ _ r1 (aA.ts k1) s1 k1,hZ.at aA}⟩
def ZF(t:TD):kZ:=λDe σ S Z=>t σ S De.rt<|Z σ
theorem sr{t:TD}(h:DE K X e t):DS K X b (.Return (some e) pos) (ZF t):=⟨λy=>(OM<|h.of y).mono <| by rintro D τ H ⟨σ,S,De,Z,aA,hS,q,hD,hZ⟩;exact{σ,S,_,_,aA,hS,q,hD.rt,hZ.at aA}⟩
def dIf(c:jE)(t u:kZ):kZ:=λDe σ S Z=>c σ S (λb S1=>if b=true then t De σ S1 Z else u De σ S1 Z)<|Z σ
theorem si{t u:kZ}(hc:DT K X c tc)(ha:GA K X b a t)(hb:GA K X b a' u):DS K X b (.If c a a' pos) (dIf tc t u):=
 ⟨λy=>(TB (hc.of y) (ha.of y)<|hb.of y).mono <| by rintro D τ H ⟨σ,S,De,Z,aA,hS,q,hD,hZ⟩;exact
  ⟨σ,S,_,_,aA,hS,q,λc S1 H1 r1 s1 k1=>by
   cases c with
   |true=>rw[xL rfl]at r1⊢;exact{σ,S1,De,Z,aA.ts k1,s1,r1,hD.kp k1,hZ.kp k1}
   |false=>rw[xz zd]at r1⊢;exact{σ,S1,De,Z,aA.ts k1,s1,r1,hD.kp k1,hZ.kp k1},hZ.at aA⟩⟩
abbrev xb:=D->SD->ak->(SD->ak->η)->η
def Tg(K:Φ)(g:xb):TG:=λv τ H Q=>∃d σ S R,Rv K H d v/\gG K H σ τ/\Rs K S H/\g d σ S R/\Nm K H R Q
structure DG(K:Φ)(X:Cx)(e:Δ)(g:xb):η where
 of:∀Y:Cx,Y.K=X.K->Y.N=X.N->Y.env=X.env->Y.fn=X.fn->Y.calm=X.calm->PG Y e (Tg K g)
theorem PG.mono{t t':TG}(h:PG X e t)(i:∀v τ H Q,t' v τ H Q->t v τ H Q):PG X e t':=λpins s τ H v u Q I r q=>h pins s τ H v u Q I r<|i v τ H Q q
def Sj(i:π):xb:=λd σ S R=>R (σ.set i<|some d) S
theorem gn(hN:X.N.Nodup)(hi:ψ (X.N[i]?=some x) qQJ)(hx:ψ (Loc X.env.scope x) qJ1)(hf:ψ (X.fn x=true\/X.env.scope.names.lookup x=some .local) qJQ):DG K X (.Name x pos) (Sj i):=⟨λY _ e2 e3 e4 _=>(oR (X:=Y) (by rw[e2];exact hN) (by rw[e2];exact hi) (by rw[e3];exact hx)<|by rw[e3,e4];exact hf).mono <| by rintro v τ H Q ⟨d,σ,S,R,rv,aA,hS,q,hR⟩;exact hR _ S _ H q (aA.set i rv) hS<|.refl _⟩
abbrev Fl:=δ D->SD->ak->(SD->ak->η)->η
def Tgs(K:Φ)(g:Fl):MW:=λvs τ H Q=>∃ds σ S R,RvAll K H ds vs/\gG K H σ τ/\Rs K S H/\g ds σ S R/\Nm K H R Q
structure Xg(K:Φ)(X:Cx)(es:δ Δ)(g:Fl):η where
 of:∀Y:Cx,Y.K=X.K->Y.N=X.N->Y.env=X.env->Y.fn=X.fn->Y.calm=X.calm->MX Y es (Tgs K g)
theorem MX.mono{t t':MW}(h:MX X e t)(i:∀v τ H Q,t' v τ H Q->t v τ H Q):MX X e t':=λpins s τ H v u Q I r q=>h pins s τ H v u Q I r<|i v τ H Q q
def Nn:Fl:=λds σ S R=>ds=[]/\R σ S
def BJ(g:xb)(u:Fl):Fl:=λds σ S R=>∃d r,ds=d::r/\g d σ S λwu S1=>u r wu S1 R
theorem g0:Xg K X [] Nn:=⟨λY _ _ _ _ _=>(C4 (X:=Y)).mono <| by rintro vs τ H Q ⟨ds,σ,S,R,rv,aA,hS,⟨e,q⟩,hR⟩;exact by subst e;exact{rv.nil,hR _ _ _ _ q aA hS<|.refl _}⟩
theorem gc(h1:DG K X e g)(h2:Xg K X es u)(hs:ψ (∀env:Env,(assignEach (e::es) env).map (·.2)=assign e env::(assignEach es env).map (·.2)) qQ0):Xg K X (e::es) (BJ g u):=⟨λY a b c d f=>(pL (h1.of Y a b c d f) (h2.of Y a b c d f)<|hs _).mono <| by rintro vs τ H Q ⟨ds,σ,S,R,rv,aA,hS,⟨d,r,e,q⟩,hR⟩;subst e;obtain⟨y,ys,e1,r1,r2⟩:=rv.cons;exact{y,ys,e1,d,σ,S,_,r1,aA,hS,q,λwu S1 ZE H1 q1 a b c=>{r,wu,S1,R,RvAll.ts c _ r2,a,b,q1,hR.kp c}}⟩
def Np(n:π)(g:Fl):xb:=λd σ S R=>∃ds,d=.tup ds/\ds.length=n/\g ds σ S R
theorem gt(h:Xg K X es g)(hn:ψ (∀env:Env,(assignEach es env).length=n) qQ0)(wJ:ψ (∀env:Env,(assignEach es env).findIdx? (·.1)=none) qQ0)(hK:ψ (X.K=K) qQJ)(hc:ψ (X.calm=true) qQJ):DG K X (.Tuple es j pos) (Np n g):=⟨λY a b c d f=>(GO (X:=Y) (by rw[f];exact hc) (h.of Y a b c d f) (hn _)<|wJ _).mono <| by rintro v τ H Q ⟨d,σ,S,R,rv,aA,hS,⟨ds,e,hl,q⟩,hR⟩;subst e;obtain⟨p,xs,e1,e2,t⟩:=rv.tup;exact{p,xs,e1,.of e2,by rw[t.len];exact hl,ds,σ,S,R,t,aA,hS,q,hR}⟩
def P6(i:π)(t:TD):kZ:=λDe σ S Z=>t σ S (λd S1=>De.nx (σ.set i<|some d) S1)<|Z σ
theorem bW{t:TD}(hN:X.N.Nodup)(h:DE K X e t)(hi:ψ (X.N[i]?=some x) qQJ)(hx:ψ (Loc X.env.scope x) qJ1)(hs:ψ (swapsWith e (some<|.Name x pos') pos.line X.env=pure false) qQJ) (hf:ψ (X.fn x=true\/X.env.scope.names.lookup x=some .local) qJQ):DS K X b (.Assign [.Name x pos'] e pos) (P6 i t):=⟨λy=>(OQ (X:=y.cx) (i:=i) hN hi hx (h.of y) hs hf).mono <| by rintro D τ H ⟨σ,S,De,Z,aA,hS,q,hD,hZ⟩;exact{σ,S,_,_,aA,hS,q,λd S1 v H1 r1 v1 s1 k1=>hD.nx _ _ _ _ r1 ((aA.ts k1).set i v1) s1 k1,hZ.at aA}⟩
def ZG(t:TD)(g:xb):kZ:=λDe σ S Z=>t σ S (λd S1=>g d σ S1 De.nx)<|Z σ
theorem sa{t:TD}(h:DE K X e t)(hg:DG K X tg g)(hs:ψ (swapsWithSole [tg] e pos.line X.env=pure false) qQJ)(hw:ψ (swappedStores [tg] e X.env=pure none) qQJ)(h1:ψ ((assignEach [tg] X.env).map (·.2)=[assign tg X.env]) qQJ): DS K X b (.Assign [tg] e pos) (ZG t g):=⟨λy=>(GP (X:=y.cx) (h.of y) (hg.of _ rfl rfl rfl rfl rfl) hs hw h1).mono <| by rintro D τ H ⟨σ,S,De,Z,aA,hS,q,hD,hZ⟩;exact{σ,S,_,_,aA,hS,q,λd S1 v H1 r1 v1 s1 k1=>{d,σ,S1,_,v1,aA.ts k1,s1,r1,hD.nx.kp k1},hZ.at aA}⟩
def ZH(td ty tv:TD):kZ:=λDe σ S Z=>tv σ S (λv S1=>td σ S1 (λx S2=>ty σ S2 (λy S3=>∃a kvs k,x=.ref a/\S3 a=some (.bG kvs)/\BI y=some k/\kvs.length<sizeLine/\De.nx σ (S3.set a<|.bG<|dput kvs k v))<|Z σ)<|Z σ)<|Z σ
theorem sd{o i value:Δ}{td ty tv:TD}{pos':Pos}(hu:X.A.units+64<cLine)(ho:DE K X o td)(hi:DE K X i ty)(hv:DE K X value tv)(hs:ψ (swapsWith value (some<|.Subscript o i pos') pos.line X.env=pure false) qQJ):DS K X b (.Assign [.Subscript o i pos'] value pos) (ZH td ty tv):=
 ⟨λy=>(KL (X:=y.cx) (by show X.A.units+1<cLine;lia) (ho.of y) (hi.of y) (hv.of y) hs).mono <| by rintro D τ H ⟨σ,S,De,Z,aA,hS,q,hD,hZ⟩;exact
  ⟨σ,S,_,_,aA,hS,q,λv S1 vv H1 r1 v1 s1 k1=>⟨σ,S1,_,_,aA.ts k1,s1,r1,λx S2 xv H2 r2 v2 s2 k2=>⟨σ,S2,_,_,aA.ts<|k1.trans k2,s2,r2,by
   rintro y S3 yv H3 ⟨a,kvs,k,e1,e2,e3,hl,r3⟩ v3 s3 k3
   subst e1
   obtain⟨vs,e4,t⟩:=s3.bG e2
   have kk:=s3.gF (o:=.dK<|putK vs k vv) e2
   refine{a,_,(Rv.ts k3 _ v2).ref,by rw[mF e3 v3];exact Ha.k e4<|by rw[t.len];exact hl,?_}
   exact hD.nx _ _ _ _ r3 (aA.ts<|((k1.trans k2).trans k3).trans kk) (s3.put (c:=.bG _) e2 {_,aB,(t.put k<|Rv.ts (k2.trans k3) _ v1).ts kk})<|((k1.trans k2).trans k3).trans kk,hZ.on (k1.trans k2)<|aA.ts<|k1.trans k2⟩,hZ.on k1<|aA.ts k1⟩,hZ.at aA⟩⟩
end
section
variable{X:Cx}{pins:δ (ε×Obj)}{σ:St}{H:Hp}{s:ζ}{A:ϕ}{E:ξ->ζ->η}{a:ε}{kvs:δ (Key×V)}{k:Key}{u:ξ}
theorem P7(I:Inv X pins σ H s)(e:H a=some (.dK kvs))(ry:RelV (kV k) u)(rz:RelV z r)(hl:kvs.length<sizeLine) (h1:∀v w' s',fE kvs k=some v->Inv X pins σ H s'->RelV v w'->Q w' s') (h2:fE kvs k=none->∀s',Inv X pins σ (upd H a<|.dK<|putK kvs k z) s'->Q r s'): wpAny (model X.prog X.w) A (call (.builtin "dict.setdefault") [.ref a,u,r]) Q E s:=by
 obtain⟨zz,hd,vs,rel,dd⟩:=Df I.aI e;have hp:=nH kvs k z;refine call_meetsIn PySem.F.slot_dict_setdefault dd.typeIs PySem.F.entry_dict_setdefault (PySem.F.args_dict_setdefault_3 _ _ _) (PySem.kt_meets_setdefault (aw X.prog X.w) a (jO ry) hd r) {vs,dd,by rw[<-rel.length];exact zz,λw' hw=>?_,λhn h' M6 hs=>?_};cases q:fE kvs k with|none=>(have:=fB.none_of (o:=valueAt vs k) (by rw[<-q];exact rel.val k);rw[this]at hw;cases hw)|some v=>obtain⟨w2,U8,rw2⟩:=fB.some_of (v:=v) (o:=valueAt vs k) (by rw[<-q];exact rel.val k);rw[U8]at hw;cases hw;exact h1 v _ _ q (I.tok _) rw2
 cases q:fE kvs k with|some v=>(obtain⟨w2,U8,rw2⟩:=fB.some_of (v:=v) (o:=valueAt vs k) (by rw[<-q];exact rel.val k);rw[U8]at hn;cases hn)|none=>have he:∃q,h'.get? a=some q:=(by obtain⟨q,_,_,hq,_⟩:=M6;exact⟨q,hq⟩);exact h2 q _<|uC I (by rw[e];exact True.intro) hs he<|Bf (by lia) hd (rel.put k rz) M6
end
section
variable{X:Cx}{o e f:Δ}{apos aP:Pos}{td ty tx:TE}
def U9(td ty tx:TE):TE:=λσ H Q=>td σ H λx H1=>∃a,x=.ref a/\R7 H1 a/\ty σ H1 λy H2=>tx σ H2 λz H3=>∃kvs k,H3 a=some (.dK kvs)/\y=kV k/\kvs.length<sizeLine/\(∀v,fE kvs k=some v->Q v H3)/\(fE kvs k=none->Q z (upd H3 a<|.dK<|putK kvs k z))
theorem HH(ho:PE X o td)(he:PE X e ty)(hf:PE X f tx)(m:M2 X o "setdefault" apos e f aP):PE X (.Call (.Attribute o "setdefault" apos) [e,f] [] aP) (U9 td ty tx):=by intro pins s σ H Q I h;refine wpAny_Call_method m.base m.Gv m.line PySem.F.plainAttrs_dict PySem.F.slot_dict_setdefault PySem.F.type_dict_setdefault<|bj (ho pins s σ H _ I h) λu s1 ⟨x,H1,I1,rx,a,ex,d,q1⟩=>?_;subst ex;obtain rfl:u=Value.ref a:=rx;obtain⟨t1,t2,_⟩:=uD I1 d;refine{t1,t2,?_};rw[m.trees];refine Calls.callWith_builtin rfl<|Calls.evalArgs_plain<|yL<|bj (he pins s1 σ H1 _ I1 q1) λiv s2 ⟨y,H2,I2,ry,q2⟩=>yL<|bj (hf pins s2 σ H2 _ I2 q2) λfv s3 ⟨z,H3,I3,rz,kvs,k,ea,ey,hl,q3,q4⟩=>Calls.spliced_nil ?_;subst ey;exact P7 I3 ea ry rz hl (λv w' s4 l I4 ou=>{v,H3,I4,ou,q3 v l}) λl s4 I4=>{z,_,I4,rz,q4 l}
end
section
variable{K:Φ}{X:Cx}{b:χ}{o e f:Δ}{apos aP pos:Pos}{td ty tx:TD}
theorem uO(hS:Rs K S H)(e:S a=some (.bG kvs)):R7 H a:=by obtain⟨vs,e1,_⟩:=hS.bG e;exact .inl {vs,.inl e1}
def U_(td ty:TD):TD:=λσ S R Z=>td σ S (λx S1=>∃a kvs,x=.ref a/\S1 a=some (.bG kvs)/\ty σ S1 (λy S2=>∃kvs k,S2 a=some (.bG kvs)/\BI y=some k/\R ((bL kvs k).getD .au) S2) Z) Z
theorem HI(hS:Rs K S H)(e:S a=some (.bG kvs))(r:Rv K H d v):∃o,oy H a (kV k) o/\Rv K H ((bL kvs k).getD d) (o.getD v):=by obtain⟨o,g,h1,h2⟩:=uM (k:=k) hS e;refine{o,g,?_};cases q:bL kvs k with|none=>(rw[q]at h1;cases o with|none=>exact r|some _=>cases h1)|some d'=>obtain⟨v',rfl,r'⟩:=h2 d' q;exact r'
theorem mg1(hu:X.A.units+64<cLine)(ho:DE K X o td)(he:DE K X e ty)(m:ψ (M1 X o "get" apos e aP) qQ4):DE K X (.Call (.Attribute o "get" apos) [e] [] aP) (U_ td ty):=
 ⟨λy=>(He (X:=y.cx) (by show X.A.units+1<cLine;lia) (ho.of y) (he.of y) ⟨m.base,m.Gv,m.line,m.trees⟩).mono <| by rintro τ H Q ⟨σ,S,R,Z,aA,hS,q,hR,hZ⟩;exact
  ⟨σ,S,_,Z,aA,hS,q,by
   rintro x S1 xv H1 ⟨a,kvs,e1,e2,r1⟩ v1 s1 k1
   subst e1
   exact⟨a,v1.ref,uO s1 e2,σ,S1,_,Z,aA.ts k1,s1,r1,by
    rintro y S2 yv H2 ⟨kvs,k,e3,e4,r2⟩ v2 s2 k2
    obtain⟨o,g,r⟩:=HI (k:=k) s2 e3 iN
    exact{o,by rw[mF e4 v2];exact g,(hR.kp<|k1.trans k2).now s2 r2 r},hZ.kp k1⟩,hZ⟩⟩
def Va(td ty tx:TD):TD:=λσ S R Z=>td σ S (λx S1=>∃a kvs,x=.ref a/\S1 a=some (.bG kvs)/\ty σ S1 (λy S2=>tx σ S2 (λz S3=>∃kvs k,S3 a=some (.bG kvs)/\BI y=some k/\R ((bL kvs k).getD z) S3) Z) Z) Z
theorem mg2(hu:X.A.units+64<cLine)(ho:DE K X o td)(he:DE K X e ty)(hf:DE K X f tx)(m:ψ (M2 X o "get" apos e f aP) qQ4):DE K X (.Call (.Attribute o "get" apos) [e,f] [] aP) (Va td ty tx):=
 ⟨λy=>(Hf (X:=y.cx) (by show X.A.units+1<cLine;lia) (ho.of y) (he.of y) (hf.of y) ⟨m.base,m.Gv,m.line,m.trees⟩).mono <| by rintro τ H Q ⟨σ,S,R,Z,aA,hS,q,hR,hZ⟩;exact
  ⟨σ,S,_,Z,aA,hS,q,by
   rintro x S1 xv H1 ⟨a,kvs,e1,e2,r1⟩ v1 s1 k1
   subst e1
   exact⟨a,v1.ref,uO s1 e2,σ,S1,_,Z,aA.ts k1,s1,r1,λy S2 yv H2 r2 v2 s2 k2=>⟨σ,S2,_,Z,aA.ts<|k1.trans k2,s2,r2,by
    rintro z S3 zv H3 ⟨kvs,k,e3,e4,r3⟩ v3 s3 k3
    obtain⟨o,g,r⟩:=HI (k:=k) s3 e3 v3
    exact{o,by rw[mF e4 v2];exact g,(hR.kp<|(k1.trans k2).trans k3).now s3 r3 r},hZ.kp<|k1.trans k2⟩,hZ.kp k1⟩,hZ⟩⟩
def Vb(td ty:TD):TD:=λσ S R Z=>td σ S (λx S1=>∃a kvs,x=.ref a/\S1 a=some (.bG kvs)/\ty σ S1 (λy S2=>∃kvs k d,S2 a=some (.bG kvs)/\BI y=some k/\bL kvs k=some d/\R d (S2.set a<|.bG<|w9 kvs k)) Z) Z
theorem mp1(ho:DE K X o td)(he:DE K X e ty)(m:ψ (M1 X o "pop" apos e aP) qQ4):DE K X (.Call (.Attribute o "pop" apos) [e] [] aP) (Vb td ty):=
 ⟨λy=>(Hg (X:=y.cx) (ho.of y) (he.of y) ⟨m.base,m.Gv,m.line,m.trees⟩).mono <| by rintro τ H Q ⟨σ,S,R,Z,aA,hS,q,hR,hZ⟩;exact
  ⟨σ,S,_,Z,aA,hS,q,by
   rintro x S1 xv H1 ⟨a,kvs,e1,e2,r1⟩ v1 s1 k1
   subst e1
   exact⟨a,v1.ref,uO s1 e2,σ,S1,_,Z,aA.ts k1,s1,r1,by
    rintro y S2 yv H2 ⟨kvs,k,d,e3,e4,e5,r2⟩ v2 s2 k2
    obtain⟨vs,e6,t⟩:=s2.bG e3
    obtain⟨v,e7,r7⟩:=(t.val k).1 d e5
    have kk:=s2.gF (o:=.dK<|nG vs k) e3
    exact{vs,k,v,e6,mF e4 v2,e7,hR _ _ _ _ r2 (Rv.ts kk _ r7) (s2.put (c:=.bG _) e3 {_,aB,(t.drop k).ts kk})<|(k1.trans k2).trans kk},hZ.kp k1⟩,hZ⟩⟩
def Vc(td ty tx:TD):TD:=λσ S R Z=>td σ S (λx S1=>∃a kvs,x=.ref a/\S1 a=some (.bG kvs)/\ty σ S1 (λy S2=>tx σ S2 (λz S3=>∃kvs k,S3 a=some (.bG kvs)/\BI y=some k/\kvs.length<sizeLine/\(∀d,bL kvs k=some d->R d S3)/\(bL kvs k=none->R z (S3.set a<|.bG<|dput kvs k z))) Z) Z) Z
theorem ms2(ho:DE K X o td)(he:DE K X e ty)(hf:DE K X f tx)(m:ψ (M2 X o "setdefault" apos e f aP) qQ4):DE K X (.Call (.Attribute o "setdefault" apos) [e,f] [] aP) (Vc td ty tx):=
 ⟨λy=>(HH (X:=y.cx) (ho.of y) (he.of y) (hf.of y) ⟨m.base,m.Gv,m.line,m.trees⟩).mono <| by rintro τ H Q ⟨σ,S,R,Z,aA,hS,q,hR,hZ⟩;exact
  ⟨σ,S,_,Z,aA,hS,q,by
   rintro x S1 xv H1 ⟨a,kvs,e1,e2,r1⟩ v1 s1 k1
   subst e1
   exact⟨a,v1.ref,uO s1 e2,σ,S1,_,Z,aA.ts k1,s1,r1,λy S2 yv H2 r2 v2 s2 k2=>⟨σ,S2,_,Z,aA.ts<|k1.trans k2,s2,r2,by
    rintro z S3 zv H3 ⟨kvs,k,e3,e4,hl,r3,r4⟩ v3 s3 k3
    obtain⟨vs,e6,t⟩:=s3.bG e3
    have kk:=s3.gF (o:=.dK<|putK vs k zv) e3
    have hR3:=hR.kp<|(k1.trans k2).trans k3
    refine{vs,k,e6,mF e4<|Rv.ts k3 _ v2,by rw[t.len];exact hl,λv hv=>?_,λhn=>?_}
    ·cases q:bL kvs k with
     |none=>rw[(t.val k).2 q]at hv;cases hv
     |some d =>
      obtain⟨v',e7,r7⟩:=(t.val k).1 d q
      rw[e7]at hv;cases hv
      exact hR3.now s3 (r3 d q) r7
    ·cases q:bL kvs k with
     |some d=>obtain⟨v',e7,r7⟩:=(t.val k).1 d q;rw[e7]at hn;cases hn
     |none=>exact hR3 _ _ _ _ (r4 q) (Rv.ts kk _ v3) (s3.put (c:=.bG _) e3 {_,aB,(t.put k v3).ts kk}) kk,hZ.kp<|k1.trans k2⟩,hZ.kp k1⟩,hZ⟩⟩
noncomputable def BK(f:ρ)(d:D):δ (ρ×D)->δ (ρ×D)|[]=>[(f,d)]| (g,x)::r=>if g=f then (g,d)::r else (g,x)::BK f d r
theorem bR.BK{H:Hp}{f:ρ}{d:D}{v:V}(rd:Rv K H d v):∀{ks:δ (ρ×D)}{vs:δ (ρ×V)},bR K H ks vs->bR K H (BK f d ks) (putF f v vs)|_,_,.nil=>.cons ⟨rfl,rd⟩ .nil| (g,x)::r,(g',y)::r',.cons h t=>by obtain⟨e,h⟩:=h;dsimp only at e;subst e;show bR K H (if g=f then (g,d)::r else (g,x)::L2.BK f d r) (if g=f then (g,v)::r' else (g,y)::putF f v r');by_cases q:g=f;rw[xL q,xL q];exact .cons ⟨rfl,rd⟩ t;rw[xz q,xz q];exact .cons ⟨rfl,h⟩<|bR.BK rd t
def Vd(C:ε)(f:ρ)(ta tv:TD):kZ:=λDe σ S Z=>tv σ S (λy S1=>ta σ S1 (λx S2=>∃a fs,x=.ref a/\S2 a=some (.ins C fs)/\fs.length<1000/\De.nx σ (S2.set a<|.ins C<|BK f y fs))<|Z σ)<|Z σ
theorem sf{C:ε}{f:ρ}{value:Δ}{ta tv:TD}{pos':Pos}(c:oV K C)(n:iJ K C f)(ha:DE K X o ta)(hv:DE K X value tv)(hs:ψ (swapsWith value (some<|.Attribute o f pos') pos.line X.env=pure false) qQJ)(hK:ψ (X.K=K) qQJ): DS K X b (.Assign [.Attribute o f pos'] value pos) (Vd C f ta tv):=by
 subst hK
 exact⟨λy=>(O9 (X:=y.cx) (ha.of y) (hv.of y) hs).mono <| by rintro D τ H ⟨σ,S,De,Z,aA,hS,q,hD,hZ⟩;exact
  ⟨σ,S,_,_,aA,hS,q,λy S1 yv H1 r1 v1 s1 k1=>⟨σ,S1,_,_,aA.ts k1,s1,r1,by
   rintro x S2 xv H2 ⟨a,fs,e1,e2,hl,r2⟩ v2 s2 k2
   subst e1
   obtain⟨dx,vs,e4,t4⟩:=s2.ins e2
   have kk:=s2.gF (o:=.ins C dx<|putF f yv vs) e2
   exact{a,C,dx,vs,v2.ref,e4,c,n,by rw[t4.len];exact hl,hD.nx _ _ _ _ r2 (aA.ts<|(k1.trans k2).trans kk) (s2.put (c:=.ins C _) e2 {dx,_,aB,(bR.BK (Rv.ts k2 _ v1) t4).ts kk})<|(k1.trans k2).trans kk},hZ.on k1<|aA.ts k1⟩,hZ.at aA⟩⟩
end
structure ke where
 xs:δ D
 ok:ak->η
def Ve(K:Φ)(H0:Hp)(J:It)(I:ke):Prop:=∀i S H,Kp K H0 H->Rs K S H->I.ok S->(∀d,I.xs[i]?=some d->J.go i H/\∀x H',J.TF i H x H'->Rv K H' d x/\Kp K H H'/\Rs K S H')/\(I.xs.length<=i->J.stop i H)
abbrev wA:=SD->ak->(ke->ak->η)->KX->η
def Ti(K:Φ)(E:St->XK)(t:wA):TI:=λτ H R=>∃σ S RI Z,gG K H σ τ/\Rs K S H/\t σ S RI Z/\(∀I S' J H',RI I S'->Ve K H' J I->Rs K S' H'->Kp K H H'->R J H')/\Fe K H Z (E τ)
structure DI(K:Φ)(X:Cx)(tg it:Δ)(t:wA):η where
 of:∀{b:χ}(y:Ev X b),PI y.cx tg it<|Ti K y.E t
theorem PI.mono{t t':TI}(h:PI X tg it t)(i:∀τ H R,t' τ H R->t τ H R):PI X tg it t':=λpins s τ H R I q=>h pins s τ H R I<|i τ H R q
section
variable{K:Φ}{X:Cx}{tg l:Δ}
def ZI(t:TD):wA:=λσ S R Z=>t σ S (λx S1=>∃ds,o9 S1 x ds/\R {ds,λS=>o9 S x ds} S1) Z
theorem il{t:TD}(h:DE K X l t)(hK:ψ (X.K=K) qQJ):DI K X tg l (ZI t):=by subst hK;exact⟨λy=>(Km (X:=y.cx)<|h.of y).mono <| by rintro τ H R ⟨σ,S,RI,Z,aA,hS,q,hR,hZ⟩;exact{σ,S,_,Z,aA,hS,q,by rintro x S1 v H1 ⟨ds,h1,r1⟩ v1 s1 k1;obtain⟨a,xs,rfl,hq,t⟩:=h1.at s1 v1;refine{a,rfl,⟨xs,hq⟩,hR _ S1 _ H1 r1 (λi S2 H2 k2 s2 Sk=>?_) s1 k1};obtain⟨a',P8,e',AK,t'⟩:=o9.at Sk s2<|Rv.ts k2 _ v1;cases e';refine{λd hd=>?_,λhl=>{P8,AK,by rw[t'.len];exact hl}};obtain⟨v,e1,r⟩:=t'.get hd;refine{⟨P8,v,AK,e1⟩,λx' H' ⟨e2,e3⟩=>?_};subst e2;have:=e3 P8 AK;rw[e1]at this;cases this;exact{r,.refl _,s2},hZ}⟩
def Vf(t:TD):wA:=λσ S R Z=>t σ S (λx S1=>∃ds,(x=.tup ds\/x=.kt ds)/\R {ds,λ_=>True} S1) Z
theorem P9{H:Hp}{x:D}{ds:δ D}{v:V}(h:x=.tup ds\/x=.kt ds)(r:Rv K H x v):∃a xs,v=.ref a/\(∀H',Kp K H H'->hW K H' a xs)/\RvAll K H ds xs:=by rcases h with rfl|rfl;obtain⟨a,xs,rfl,q,t⟩:=r.tup;exact{a,xs,rfl,λH' k=>.of<|k.t _ _ q,t};obtain⟨a,xs,rfl,q,t⟩:=r.kt;exact{a,xs,rfl,λH' k=>.inr q,t}
theorem GB{t:TD}(h:DE K X l t)(hK:ψ (X.K=K) qQJ):DI K X tg l (Vf t):=by subst hK;exact⟨λy=>(OV (X:=y.cx)<|h.of y).mono <| by rintro τ H R ⟨σ,S,RI,Z,aA,hS,q,hR,hZ⟩;exact{σ,S,_,Z,aA,hS,q,by rintro x S1 v H1 ⟨ds,h1,r1⟩ v1 s1 k1;obtain⟨a,xs,rfl,hq,t⟩:=P9 h1 v1;refine{a,rfl,{xs,hq _<|.refl _},hR _ S1 _ H1 r1 (λi S2 H2 k2 s2 _=>?_) s1 k1};have Sl:=hq H2 k2;refine{λd hd=>?_,λhl=>{xs,Sl,by rw[t.len];exact hl}};obtain⟨v,e1,r⟩:=(RvAll.ts k2 _ t).get hd;refine{⟨xs,v,Sl,e1⟩,λx' H' ⟨e2,e3⟩=>?_};subst e2;have:=e3 xs Sl;rw[e1]at this;cases this;exact{r,.refl _,s2},hZ}⟩
noncomputable def dJ(lo:ν)(n:π):δ D:=(List.range n).map λi=>D.int<|lo+(i:π)
theorem cq{lo:ν}{n:π} : (dJ lo n).length=n:=by unfold dJ;rw[za,List.length_range]
theorem cQ{lo:ν}{n i:π}{d:D}(h:(dJ lo n)[i]?=some d):i<n/\d=.int (lo+i):=by unfold dJ at h;rw[zp]at h;by_cases q:i<n;rw[List.getElem?_range q]at h;exact{q,(zS h).symm};rw[List.getElem?_eq_none<|by rw[List.length_range];omega]at h;cases h
theorem P_{H0:Hp}{lo:ν}{n:π} : Ve K H0 (W2 lo n) {dJ lo n,λ_=>True}:=λi S H k s _=>{λd hd=>by obtain⟨h1,rfl⟩:=cQ hd;exact{h1,by rintro x H' ⟨e1,e2⟩;exact by subst e1 e2;exact{aM _,.refl _,s}},λhl=>by rw[cq]at hl;exact hl}
def ZJ(t:iD):wA:=λσ S R Z=>t σ S (λds S1=>∃j:ν,ds=[.int j]/\-(2^62)<=j/\j<2^62/\R {dJ 0 j.toNat,λ_=>True} S1) Z
theorem Nq{t:iD}(hm:X.mg "range"= none)(ha:DA K X [a] t)(hg:ψ (Gl X "range") qQJ)(hs:ψ (starEach [a] X.env=[(false,eval a X.env)]) qQJ):DI K X tg (.Call (.Name "range" p) [a] [] pos) (ZJ t):=⟨λy=>(EI (X:=y.cx) hg hm (ha.of y) hs).mono <| by rintro τ H R ⟨σ,S,RI,Z,aA,hS,q,hR,hZ⟩;exact{σ,S,_,Z,aA,hS,q,by rintro ds S1 vs H1 ⟨j,e,h1,h2,r1⟩ v1 s1 k1;subst e;obtain⟨v,rfl,r⟩:=v1.one;exact{j,by rw[r.int],h1,h2,hR _ S1 _ H1 r1 P_ s1 k1},hZ}⟩
end
section
variable{K:Φ}{X:Cx}{tg iter:Δ}{pos:Pos}
def ZK(ti:wA)(g:xb)(tb:kZ):kZ:=λDe σ S Z=>ti σ S (λI S1=>∃P:π->SD->ak->η,P 0 σ S1/\(∀i σ S,P i σ S->I.ok S)/\(∀i d σ S,I.xs[i]?=some d->P i σ S->g d σ S λoS S2=>tb {De with nx:=P<|i+1,ct:=P<|i+1,bk:=De.nx} oS S2 Z)/\∀σ S,P I.xs.length σ S->De.nx σ S)<|Z σ
theorem HJ(hi:DI K X tg iter ti)(hg:DG K X tg g)(hb:GA K X true body tb)(hs:ψ (∀x,foldedSetIterable iter X.env x=pure x) qQ0)(hc:ψ (X.calm=true) qQJ):DS K X true (.For tg iter body [] pos) (ZK ti g tb):=
 ⟨λy=>(OW (X:=y.cx) (y.ok.loop rfl) hc (hi.of y) (hg.of _ rfl rfl rfl rfl rfl) (hb.of y) hs).mono <| by rintro D τ H ⟨σ,S,De,Z,aA,hS,q,hD,hZ⟩;exact
  ⟨σ,S,_,_,aA,hS,q,by
   rintro I S1 J H1 ⟨P,p0,ZL,ZM,pend⟩ hJ s1 k1
   refine{λi m τ H=>m=I.xs.length-i/\i<=I.xs.length/\∃σ S,gG K H σ τ/\Rs K S H/\P i σ S/\Kp K H1 H,!{zY _,σ,S1,aA.ts k1,s1,p0,.refl _},?_}
   rintro i m τ2 H2 ⟨rfl,Vh,oS,S2,a2,s2,p2,k2⟩
   have ok:=hJ i S2 H2 k2 s2<|ZL _ _ _ p2
   by_cases dr:i<I.xs.length
   ·obtain⟨go,yl⟩:=ok.1 _ (zf dr)
    refine .inr {go,λSf H'=>i+1<=I.xs.length/\∃σ S,gG K H' σ Sf/\Rs K S H'/\P (i+1) σ S/\Kp K H1 H',λax H' h'=>{_,by omega,rfl,h'},λx H' hy=>?_}
    obtain⟨rx,k3,s3⟩:=yl x H' hy
    refine{_,oS,S2,_,rx,a2.ts k3,s3,ZM i _ oS S2 (zf dr) p2,λXh S4 τ4 H4 r4 a4 s4 k4=>?_}
    have kk:=(k2.trans k3).trans k4
    exact{Xh,S4,_,Z,a4,s4,r4,{λQa S5 ZO H5 r5 a5 s5 k5=>{dr,Qa,S5,a5,s5,r5,kk.trans k5},hD.rt.kp<|k1.trans kk,(hD.nx.kp<|k1.trans kk),λQa S5 ZO H5 r5 a5 s5 k5=>{dr,Qa,S5,a5,s5,r5,kk.trans k5}},hZ.kp<|k1.trans kk}
   ·have e:i=I.xs.length:=by omega
    subst e
    exact .inl {ok.2<|zm _,hD.nx _ _ _ _ (pend _ _ p2) a2 s2<|k1.trans k2},hZ.at aA⟩⟩
end
noncomputable def k7(σ:SD)(src:δ<|θ π):SD:=src.map λo=>match o with|some j=>(σ[j]?).join|none=>none
theorem gG.pick{K:Φ}{H:Hp}{σ:SD}{τ:St}(h:gG K H σ τ):∀src:δ (θ π),gG K H (k7 σ src) (pick τ src)|[]=>.nil|o::r=>.cons (λd e=>by cases o with|none=>(cases e)|some j=>dsimp only at e⊢;cases q:σ[j]? with|none=>(rw[q]at e;cases e)|some o'=>rw[q]at e;obtain rfl:o'=some d:=e;obtain⟨v,e1,r1⟩:=h.get q;exact{v,by rw[e1];rfl,r1})<|gG.pick h r
def Zf:KX:=λ_ _=>False
def xc(σ:SD)(src:δ<|θ π)(g:xb)(tc:jE)(te:TD)(R:KD)(I:ke)(S1:ak):Prop:=∃P:π->δ D->ak->η,P 0 [] S1/\(∀i out S,P i out S->I.ok S)/\(∀i d out S,I.xs[i]?=some d->P i out S->out.length<sizeLine/\g d (k7 σ src) S λfC S3=>tc fC S3 (λb S4=>if b=true then te fC S4 (λv S5=>P (i+1) (out++[v]) S5) Zf else P (i+1) out S4) Zf)/\∀out S2,P I.xs.length out S2->∀p,S2 p=none->R (.ref p) (S2.set p<|.lst out)
def tJ(ti:wA)(src:δ<|θ π)(g:xb)(tc:jE)(te:TD):TD:=λσ S R Z=>ti σ S (λI S1=>xc σ src g tc te R I S1) Z
theorem Fe.f{K:Φ}{H:Hp}{e:XK} : Fe K H Zf e:=λ_ _ _ z=>z.elim
theorem T.comp{K:Φ}{E E':St->XK}{ti:wA}{src:δ<|θ π}{g:TG}{gd:xb}{tc:jE}{te:TD}{τ:St}{H:Hp}{Q:VK}(hg:∀v τ H Q,Tg K gd v τ H Q->g v τ H Q) (h:T K E (tJ ti src gd tc te) τ H Q):Hi (Ti K E ti) src g (Tt K E' tc) (T K E' te) τ H Q:=by
 obtain⟨σ,S,R,Z,aA,hS,q,hR,hZ⟩:=h;refine{σ,S,_,Z,aA,hS,q,λI S1 J H1 ⟨P,p0,ZL,ZM,pend⟩ hJ s1 k1=>?_,hZ};refine{λi m out H=>m=I.xs.length-i/\i<=I.xs.length/\∃ds S,RvAll K H ds out/\Rs K S H/\P i ds S/\Kp K H1 H,!{zY _,[],S1,bA,s1,p0,.refl _},?_};rintro i m out H2 ⟨rfl,Vh,ds,S2,v2,s2,p2,k2⟩;have ok:=hJ i S2 H2 k2 s2<|ZL _ _ _ p2;by_cases dr:i<I.xs.length;obtain⟨go,yl⟩:=ok.1 _<|zf dr;obtain⟨hz,st⟩:=ZM i _ ds S2 (zf dr) p2;refine .inr {go,by rw[v2.len];exact hz,λx H' hy=>?_};obtain⟨rx,k3,s3⟩:=yl x H' hy;refine hg _ _ _ _ {_,_,S2,_,rx,(((aA.ts k1).ts k2).ts k3).pick src,s3,st,λXh S4 τ4 H4 r4 a4 s4 k4=>?_};refine{Xh,S4,_,Zf,a4,s4,r4,λc S5 H5 r5 s5 k5=>?_,.f};cases c with|true=>rw[xL rfl]at r5⊢;exact{Xh,S5,_,Zf,a4.ts k5,s5,r5,λd S6 v H6 r6 v6 s6 k6=>{_,by omega,rfl,dr,ds++[d],S6,(RvAll.ts (((k3.trans k4).trans k5).trans k6) _ v2).app<|aR v6 bA,s6,r6,(((k2.trans k3).trans k4).trans k5).trans k6},.f}|false=>rw[xz zd]at r5⊢;exact{_,by omega,rfl,dr,ds,S5,RvAll.ts ((k3.trans k4).trans k5) _ v2,s5,r5,((k2.trans k3).trans k4).trans k5}
 have e:i=I.xs.length:=by omega
 subst e;exact .inl {ok.2<|zm _,λp hp=>(hR.kp<|k1.trans k2).new s2 hp (pend _ _ p2 p) v2}
noncomputable def Ev.none(X:Cx)(h:X.xe=λ_ _=>False):Ev X false:={X.pn,X.xe,λ_=>E0,{by rintro p2 τ H s e s' _ ⟨_,_,_,_,_,_,_,_,_,z⟩;exact z.elim,λe=>(by cases e),λe=>(by cases e)}}
section
variable{K:Φ}{X:Cx}{b:χ}{N:δ ρ}{src:δ (θ π)}{scope:Scope}{tg iter elt:Δ}{ifs:δ Δ}{pos:Pos}{ti:wA}{g:TG}{gd:xb}{tc:jE}{te:TD}
structure Sm(K:Φ)(X:Cx)(ifs:δ Δ)(t:jE):η where
 of:∀{b:χ}(y:Ev X b),R8 y.cx ifs<|Tt K y.E t
def k8:jE:=λ_ S R _=>R true S
theorem nK:Sm K X [] k8:=⟨λy pins s τ H Q I ⟨σ,S,R,Z,aA,hS,q,hR,hZ⟩=>KQ pins s τ H Q I<|hR true S H q hS<|.refl _⟩
theorem if1{t:jE}(h:DT K X c t):Sm K X [c] t:=⟨λy=>KR<|h.of y⟩
theorem Vi(S:a_ X N src scope)(hit:DI K X tg iter ti)(hg:∀C s H ex pn,PG (fK X N scope C s H ex pn) tg g)(hx:Bh g src)(ZP:∀v τ H Q,Tg K gd v τ H Q->g v τ H Q) (hi:∀C s H ex pn,Sm K (fK X N scope C s H ex pn) ifs tc) (he:∀C s H ex pn,DE K (fK X N scope C s H ex pn) elt te) (hs:ψ (∀x,foldedSetIterable iter X.env x=pure x) qQ0) (hc:ψ (X.calm=true) qQJ):DE K X (.ListComp elt [{tg,iter,ifs,0}] scope pos) (tJ ti src gd tc te):=⟨λy=>(KZ (X:=y.cx) (tc:=Tt K (λ_=>E0) tc) (te:=T K (λ_=>E0) te) ⟨S.kind,S.fW,S.loc,S.AI,S.len,S.src⟩ hc (hit.of y) hg hx (λC s H ex pn=>(hi C s H ex pn).of<|.none _ rfl) (λC s H ex pn=>(he C s H ex pn).of<|.none _ rfl) hs).mono λ_ _ _ h=>h.comp ZP⟩
theorem stc(hN:X.N.Nodup)(S:a_ X N src scope)(hit:DI K X tg iter ti)(hg:∀C s H ex pn,PG (fK X N scope C s H ex pn) tg g)(hx:Bh g src)(ZP:∀v τ H Q,Tg K gd v τ H Q->g v τ H Q) (hi:∀C s H ex pn,Sm K (fK X N scope C s H ex pn) ifs tc) (he:∀C s H ex pn,DE K (fK X N scope C s H ex pn) elt te) (Ur:ψ (X.N[i]?=some x) qQJ) (Bk:ψ (X.env.scope.names.lookup x=some .local) qQJ) (Us:ψ (swapsWith (.ListComp elt [{tg,iter,ifs,0}] scope pos) (some<|.Name x pos') E9.line X.env=pure true) qQJ) (hs:ψ (∀x,foldedSetIterable iter X.env x=pure x) qQ0) (hc:ψ (X.calm=true) qQJ):DS K X b (.Assign [.Name x pos'] (.ListComp elt [{tg,iter,ifs,0}] scope pos) E9) (P6 i<|tJ ti src gd tc te):=⟨λy=>(Bj (X:=y.cx) (i:=i) (tc:=Tt K (λ_=>E0) tc) (te:=T K (λ_=>E0) te) hN Ur Bk ⟨S.kind,S.fW,S.loc,S.AI,S.len,S.src⟩ hc (hit.of y) hg hx (λC s H ex pn=>(hi C s H ex pn).of<|.none _ rfl) (λC s H ex pn=>(he C s H ex pn).of<|.none _ rfl) Us hs).mono <| by rintro D τ H ⟨σ,S,De,Z,aA,hS,q,hD,hZ⟩;exact T.comp ZP {σ,S,_,_,aA,hS,q,λd S1 v H1 r1 v1 s1 k1=>hD.nx _ _ _ _ r1 ((aA.ts k1).set i v1) s1 k1,hZ.at aA}⟩
theorem Ds:∀v τ H Q,Tg K (Sj i) v τ H Q->h_ i v τ H Q:=by rintro v τ H Q ⟨d,σ,S,R,rv,aA,hS,q,hR⟩;exact hR _ S _ H q (aA.set i rv) hS<|.refl _
end
structure uP(K:Φ)(x qual:ρ)(st:Stmt)(f:ε)(fd:FuncData):η where
 ex:∃(oc:ξ)(od:θ ε)(dV kV doc pm:ξ)(an:θ ε)(fJ ct:ξ)(Pc:Array (θ ξ)),
  fd=fnOf x qual (bF st) (bw st) (ai st) dV kV doc pm an fJ ct/\K.lookup f=some {oc,od,.func fd,Pc}/\codeIn K fJ qual=true
noncomputable def iS(N:δ ρ)(ds:δ D):SD:=ds.map some++List.replicate (N.length-ds.length) none
section
variable{i:π}{P:Ψ}{w:Ω}{K:Φ}{mg:ρ->θ ξ}{base:Γ}
theorem uP.okD{x qual:ρ}{st:Stmt}{f:ε}{fd:FuncData}{N ps:δ ρ}{k:π}{sp:qh}(F:uP K x qual st f fd)(S:fI N ps<|ai st)(len:∀ds S R Z,sp ds S R Z->ds.length=ps.length) (kQ:∀(fJ:ξ)(A:ϕ)(outer:δ Env)(s:ζ)(H:Hp)(E:XK)(ds:δ D)(S:ak)(R:KD)(Z:KX),bO k (A.deeper<|envOfC qual (ai st) s.heap.objs.size f fJ)->sp ds S R Z->∃t,GA K (jB (fF P w mg) P w K mg base N qual (ai st) f fJ A outer s H E) true (bw st) t/\t {nx:=λ_ S'=>R .au S',rt:=R} (iS N ds) S λ_=>Z):bK P w K mg base (fF P w mg) (k+1) f fd ps (rK K sp):=by
 obtain⟨oc,od,dV,kV,doc,pm,an,fJ,ct,Pc,rfl,lk,rH⟩:=F.ex;have eJ:ps.length<=N.length:=by have:=congrArg List.length S.pre;rw[yn]at this;lia
 refine M4 lk rH S (by rintro vs H Q E ⟨ds,S',R,Z,v,_,h,_⟩;exact by rw[v.len];exact len _ _ _ _ h) λA outer s H vs Q E hr ⟨ds,S',R,Z,v,hS,h,hR,hZ⟩=>?_;obtain⟨t,ht,q⟩:=kQ fJ A outer s H E ds S' R Z hr h;have L:cM (jB (fF P w mg) P w K mg base N qual (ai st) f fJ A outer s H E) E:=tG;let y:Ev (jB (fF P w mg) P w K mg base N qual (ai st) f fJ A outer s H E) true:={_,(jB (fF P w mg) P w K mg base N qual (ai st) f fJ A outer s H E).xe,λ_=>E,{λp2 τ H1 s1 e s' I h=>Na L p2 τ H1 s1 e s' I h,λ_ p2 τ H1 s1 h' a cls args I hx he=>nJ L I hx he,λ_=>PassesOwn.leaving}};refine{Tl K (λ_=>E) t,ht.of y,iS N ds,S',_,λ_=>Z,?_,hS,q,{λσ S1 τ H1 r a b c=>hR.kp c |>.now b r iN,hR,λ_ _ _ _ z=>z.elim,λ_ _ _ _ z=>z.elim},λσ τ C S1 H1 z a b c=>hZ C S1 H1 z b c};unfold iS start;refine(p9 v).app ?_;rw[v.len];exact p8 _ _<|by rw[List.length_replicate]
theorem bK.Qb(F:bK P w K mg base (fF P w mg) k f fd ps<|rK K sp)(h:∀ds S R Z,W5 ds S R Z->sp ds S R Z):bK P w K mg base (fF P w mg) k f fd ps (rK K W5):=F.imp <| by rintro vs H Q E ⟨ds,S,R,Z,a,b,c,d⟩;exact{ds,S,R,Z,a,b,h _ _ _ _ c,d}
theorem bK.calm(F:bK P w K mg base (fF P w mg) k f fd ps sp):bK P w K mg base W8 k f fd ps λvs H Q _=>sp vs H Q E0:=by refine{λvs H Q E h=>F.len vs H Q E0 h,λA outer s H args us vs Q E hr e0 hb r h=>yZ (F.run A outer s H args us vs Q E0 hr e0 hb r h) λres s' q=>?_};cases res with|error e=>(obtain⟨_,_,_,_,_,_,_,_,_,z⟩:=q;exact z.elim)|ok fl=>cases fl<;>exact q
noncomputable def tI.less(De:tI)(i:π):tI:={nx:=λσ S=>De.nx (σ.set i none) S,rt:=De.rt,bk:=λσ S=>De.bk (σ.set i none) S,ct:=λσ S=>De.ct (σ.set i none) S}
end
theorem tK{P:Ψ}{w:Ω} : ∀{ss:δ ρ}{vs:δ ξ},vs.length=ss.length->(∀(j:π)(v:ξ),vs[j]?=some v->∃x,ss[j]?=some x/\keyIs (.inr x) v=true)->StrsAre vs ss|[],[],_,_=>.nil|[],_::_,h,_=>by simp at h|_::_,[],h,_=>by simp at h|x::ss,v::vs,h,k=>by obtain⟨x',e,q⟩:=k 0 v rfl;cases e;rcases bh q with⟨i,t,e,_⟩|⟨y,t,e,rfl⟩;cases e;cases e;exact .cons x t<|tK (P:=P) (w:=w) (by simpa using h) λj v e=>k (j+1) v<|by simpa using e
theorem tL:∀{vs:δ ξ}{ss:δ ρ},StrsAre vs ss->Vals (ss.map V.str) vs|_,_,.nil=>.nil|_,_,.cons y t h=>.cons ⟨t,rfl⟩<|tL h
theorem KV.ZQ{κ:Type}{kvs:δ<|κ×V}{vs:δ<|κ×ξ}(h:KV kvs vs):vs.map (·.1)=kvs.map (·.1):=by unfold KV at h;induction h with|nil=>rfl|cons r t ih=>rw[zw,zw,ih,r.1]
theorem HK{prog:Ψ}{w:Ω}{A:ϕ}{E:ξ->ζ->η}{s:ζ}{T:String}{r d:ε}{n:π}{P:π->ξ->η}{OK:Γ->η}{R:δ ξ->ζ->η}(K:PySem.W.KdlSrc prog w T r d n P OK)(hh:A.handled=none)(aI:OK s.heap)(hn:n<=sizeLine) (h:∀(h':Γ) (tk:π) (acc:Array ξ),(∀b o,s.heap.get? b=some o->h'.get? b=some o)->s.heap.objs.size<=h'.objs.size->ItemsOf P acc n->R acc.toList {s with heap:=h',toks:=tk}): wpAny (model prog w) A (collect<|.ref r) R E s:=by have dr:=K.there _ aI;unfold collect;refine zc<|wpAny_runValue<|yT entry_proto_collect' ?_;rw[Around.under_plainId PySem.F.plain_proto_collect _];show wpAny _ A.in1 (newList [] >>=λl=>again<|.builtin "list.__iadd__" {[l,.ref r],[]}) _ _ s;refine zc<|yH ?_;refine zo {plainId_quiet PySem.F.plain_list_iadd _,yT entry_list_iadd' ?_};rw[Around.under_plainId PySem.F.plain_list_iadd _];have Vj:(s.heap.push {cls:=.type "list",data:=.seq ([]:δ ξ).toArray}).get? s.heap.objs.size=some {cls:=.type "list",data:=.seq #[]}:=zi _ rfl;show wpAny _ A.in1 (Builtin.List.listExtendWith (.ref s.heap.objs.size) (.ref r)<|.ref s.heap.objs.size) _ _ _;have key:=PySem.W.kdl_extend (A:=A) (s:={s with heap:=s.heap.push {cls:=.type "list",data:=.seq ([]:δ ξ).toArray}}) (R:=λ(q:Result) (s':ζ)=>∃(h':Γ) (tk:π) (xf:Array ξ) (c':π),q=.ok (.ret<|.ref s.heap.objs.size)/\s'={s with heap:=h',toks:=tk}/\(∀b o,s.heap.get? b=some o->h'.get? b=some o)/\h'.get? s.heap.objs.size=some {cls:=.type "list",dict:=none,data:=.seq xf c',slots:=#[]}/\ItemsOf P xf n) K hh (K.keep _ _ aI λb _ o e=>zb _ e) s.heap.objs.size (yA dr.1) (yA dr.2) (.ref s.heap.objs.size) 0 Vj (λh' tk xf c' hk o_ pX=>{h',tk,xf,c',rfl,rfl,λb o e=>hk b o (zB<|zx e)<|zb _ e,o_,pX}) hn;refine yM key (λfin s' x=>?_) λe s' x=>?_;{cases fin with|done f=>(obtain⟨h',tk,xf,c',e,rfl,hk,o_,pX⟩:=x;cases e;show wpAny _ A (load s.heap.objs.size >>=_) _ _ _;exact zc<|wpAny_load o_<|zo<|h h' tk xf hk (yO<|zx o_) pX)|again c₁=>refine{x.1,yZ x.2 λq bN y=>?_};obtain⟨h',tk,xf,c',rfl,rfl,hk,o_,pX⟩:=y;show wpAny _ A (load s.heap.objs.size >>=_) _ _ _;exact zc<|wpAny_load o_<|zo<|h h' tk xf hk (yO<|zx o_) pX};obtain⟨_,_,_,_,e',_⟩:=x;cases e'
theorem uQ{X:Cx}(hc:X.calm=true):eI X (.builtin "sorted") (λxs H Q=>∃(a:ε)(kvs:δ (Key×V))(ss:δ ρ),xs=[.ref a]/\H a=some (.dK kvs)/\kvs.map (·.1)=ss.map Sum.inr/\kvs.length<64/\∀jQ,jQ.Perm ss->sortedS jQ=true->∀l,H l=none->Q (.ref l) (upd H l<|.lst<|jQ.map V.str)):=by
 intro pins s σ H xs us Q I r h;obtain⟨a,kvs,ss,rfl,e,hk,hl,q⟩:=h;obtain⟨u,rfl,ru⟩:=vals1 r;cases ru;obtain⟨z,hd,vs,rel,dd⟩:=Df I.aI e;obtain⟨ep,Xi⟩:=dd.dictAt;have hlen:vs.length<64:=by rw[<-rel.length];exact hl
 have hh:=I.ok.hd hc;refine PySem.Calls.call_function_entry kind_sorted plain_sorted entry_sorted (args_sorted1 _) ?_;unfold Builtin.«sorted»;refine zc (m:=checkCount "sorted" 1 1 _)<|zo ?_;refine zc<|HK (A:=X.A.in1) (PySem.W.kdl_dict (knd:=aw X.prog X.w) (kvs:=vs) (ep:=ep) hd) hh Xi (by rw[yj];omega) λh' tk acc Vk hB pX=>?_;have KJ:acc.toList.length=vs.length:=by rw[zT];exact pX.1
 refine zc<|wpAny_newList ?_ (by rw[KJ,yj];omega);have hS:StrsAre acc.toList ss:=by have hkv:=rel.ZQ;refine tK (P:=X.prog) (w:=X.w) (by rw[KJ,<-rel.length];have:=congrArg List.length hk;simpa using this) λj v ev=>?_;obtain⟨k,x,e1,e2⟩:=pX.2 j v (by rw[<-yr];exact ev);have e3:(vs.map (·.1))[j]?=some k:=(by rw[zp,e1];rfl);rw[hkv,hk,zp]at e3;cases q2:ss[j]? with|none=>(rw[q2]at e3;cases e3)|some y=>rw[q2]at e3;cases e3;exact⟨y,rfl,e2⟩
 have Gs:(h'.push<|seqObj "list" acc.toList.toArray 0).get? h'.objs.size=some (seqObj "list" acc.toList.toArray 0):=zi _ rfl;show wpAny _ _ _ _ _ {s with heap:=h'.push<|seqObj "list" acc.toList.toArray 0,toks:=tk};refine zc<|yD<|yQ slot_list_sort {_,Gs,rfl} entry_list_sort (list_sort_treeK (s:={s with heap:=h'.push<|seqObj "list" acc.toList.toArray 0,toks:=tk}) strKind_oneLt Gs hS.keysOf (λmG mH rest e=>keyKind_strs<|by rw[<-e];exact hS) (by rw[KJ];exact hlen) λdH hp hs=>!⟨?_⟩)<|args_list_sort _;refine zo !⟨?_⟩;obtain⟨jQ,h1,h2,h3⟩:=sorted_out_str hS hp hs;obtain⟨e1,he1⟩:=sortedHeap_at (vs:=acc.toList) (n:=0) (out:=(arrOf dH).map (·.2)) Gs;have Vl:jQ.length<=sizeLine:=by rw[h2.length_eq,yj];have:=congrArg List.length hk;rw[za,za]at this;omega
 refine{.ref h'.objs.size,_,I.laid (a:=h'.objs.size) (o:=.lst<|jQ.map V.str) (λb u hb=>?_) hB {by rw[za];exact Vl,_,e1,tL h1,he1},rfl,q jQ h2 h3 _<|I.aI.fresh hB};have dr:=zx<|Vk b u hb;rw[sortedHeap_old (zB dr)<|by rw[ya];exact Nat.lt_succ_of_lt dr,zb _<|Vk b u hb]
section
variable{K:Φ}
def Lx:δ D->ak->KD->Prop:=λds S R=>∃(a:ε)(kvs:δ (Key×D))(ss:δ ρ),ds=[.ref a]/\S a=some (.bG kvs)/\kvs.map (·.1)=ss.map Sum.inr/\kvs.length<64/\∀jQ,jQ.Perm ss->sortedS jQ=true->∀p,S p=none->R (.ref p) (S.set p<|.lst<|jQ.map D.str)
theorem bR.keys{κ:Type}{H:Hp}{ks:δ<|κ×D}{vs:δ<|κ×V}(h:bR K H ks vs):vs.map (·.1)=ks.map (·.1):=by unfold bR at h;induction h with|nil=>rfl|cons r t ih=>rw[zw,zw,ih,r.1]
theorem xg:ic K (.builtin "sorted") Lx:=by rintro X hK hc pins s σ H xs us Q I rx ⟨ds,S,R,r,hS,⟨a,kvs,ss,e,e1,hk,hl,h⟩,hR⟩;subst e;obtain⟨v,rfl,r1⟩:=r.one;obtain⟨vs,e2,t⟩:=hS.bG e1;exact uQ hc pins s σ H _ us Q I rx {a,vs,ss,by rw[r1.ref],e2,by rw[t.keys];exact hk,by rw[t.len];exact hl,λjQ p1 p2 l hl=>hR.new hS hl (h jQ p1 p2 l)<|uK jQ}
end
def Nr(K:Φ)(a:ε)(n:π):It:={λi H=>∃xs x,iu K H a xs/\xs.length=n/\i<n/\xs[n-1-i]?=some x,λi H x H'=>H'=H/\∀xs,iu K H a xs->xs.length=n->xs[n-1-i]?=some x,λi _=>n<=i}
theorem HL{P:Ψ}{w:Ω}{K:Φ}{tg:Δ}(a it:ε)(n:π):Turn P w K tg (Nr K a n) [it] it (λi h=>i<=n/\h.IsRevIter it a ((n:ν)-1-(i:ν))) where
 mem:=by simp
 obj:=λi h st b hb=>by
  have e:b=it:=by simpa using hb
  subst e
  obtain⟨_,o,e,c,d⟩:=st
  exact{o,e,λv z=>by rw[d]at z;cases z}
 keep:=λi h h' st k=>{st.1,st.2.at λo e=>k it (by simp) o e}
 item:=by
  intro X hP hw hK hc i pins s σ H E I hf st hg
  subst hP hw hK
  obtain⟨xs,x,hq,hn,hi,hx⟩:=hg
  obtain⟨ar,rv,p,hz⟩:=I.list hq
  obtain⟨u,hu,ru⟩:=rv.get hx
  obtain⟨f0,f1,f2,f3,f4,f5⟩:=hf it<|by simp
  have e:(n:ν)-1-(i:ν)=((n-1-i:π):ν):=by lia
  have hit:=st.2
  rw[e]at hit
  refine wpAny_pyNext_rev_item hit p.isList (x:=u) (by simpa using hu) λh' dH sb=>?_
  have I1:Inv X pins σ H {s with heap:=h'}:=I.turned (t':=s.toks) (λb o hb e=>(sb.2 b hb).trans e) f0 f1 f3 f4 f5
  obtain⟨o,e1,c,d⟩:=id dH
  refine{u,rfl,pM (s:={s with heap:=h'}) e1 c d (by decide) {x,H,I1,ru,{rfl,λys hy _=>by rw[I.wI hy hq];exact hx},{hi,?_},λb hb=>(hf b hb).1}}
  have e2:(n:ν)-1-((i+1:π):ν)=((n-1-i:π):ν)-1:=by lia
  rw[e2];exact dH
 done:=by
  intro X hP hw hK hc i pins s σ H E I hf st hg
  subst hP hw hK
  obtain⟨f0,f1,f2,f3,f4,f5⟩:=hf it<|by simp
  have hg:n<=i:=hg
  have e:(n:ν)-1-(i:ν) = -1:=by have:=st.1;lia
  have hit:=st.2
  rw[e]at hit
  exact wpAny_pyNext_rev_end (I.ok.hd hc) hit λh' eb=>{rfl,I.turned (t':=s.toks) (λb o hb e=>eb b o hb e) f0 f1 f3 f4 f5}
 self:=λ_ _ _ _ _ st h=>wpAny_pyIter_revIter st.2 h
def ZR(K:Φ)(ta:TA):TI:=λσ H R=>ta σ H λvs H1=>∃a xs,vs=[.ref a]/\iu K H1 a xs/\R (Nr K a xs.length) H1
theorem Qc{X:Cx}{tg a:Δ}{ta:TA}{p pos:Pos}(hg:Gl X "reversed")(hm:X.mg "reversed"= none)(ha:PA X [a] ta)(hs:starEach [a] X.env=[(false,eval a X.env)]):PI X tg (.Call (.Name "reversed" p) [a] [] pos) (ZR X.K ta):=by
 intro pins s σ H R I h;refine Call_<|fU I hg hm boot_reversed<|PyProof.Rows.callWith_type1 (bj (ha pos pins s σ H _ I h) λus s1 ⟨vs,H1,I1,r1,q1⟩=>?_) hs rfl;obtain⟨l,xs,e,q,hR⟩:=q1;subst e;obtain⟨u,rfl,ru⟩:=vals1 r1;cases ru;obtain⟨ar,rv,pl,hz⟩:=I1.list q;have hn:ar.toArray.size=xs.length:=by rw[zr,rv.length]
 refine call_reversed_list pl.isList ?_;rw[hn];have st:(s1.heap.push<|revObj l<|(xs.length:ν)-1).IsRevIter s1.heap.objs.size l ((xs.length:ν)-1-((0:π):ν)):={_,zi _ rfl,rfl,by show Data.fields _=Data.fields _;simp};have I2:Inv X pins σ H1 {s1 with heap:=s1.heap.push<|revObj l<|(xs.length:ν)-1}:=I1.kept (t':=s1.toks) λb o e=>zb _ e;refine wpAny_pyIter_revIter st {_,_,_,_,H1,rfl,I2,HL l s1.heap.objs.size xs.length,{zY _,st},λb hb=>?_,hR};have hb:b=s1.heap.objs.size:=by simpa using hb
 subst hb;exact I1.mr (zm _)<|I1.aI.fresh<|zm _
section
variable{K:Φ}{X:Cx}{tg:Δ}
def Vm(t:iD):wA:=λσ S R Z=>t σ S (λds S1=>∃x es,ds=[x]/\o9 S1 x es/\R {es.reverse,λS=>o9 S x es} S1) Z
theorem irv{t:iD}(hm:X.mg "reversed"= none)(ha:DA K X [a] t)(hg:ψ (Gl X "reversed") qQJ)(hs:ψ (starEach [a] X.env=[(false,eval a X.env)]) qQJ)(hK:ψ (X.K=K) qQJ):DI K X tg (.Call (.Name "reversed" p) [a] [] pos) (Vm t):=by subst hK;exact⟨λy=>(Qc (X:=y.cx) hg hm (ha.of y) hs).mono <| by rintro τ H R ⟨σ,S,RI,Z,aA,hS,q,hR,hZ⟩;exact{σ,S,_,Z,aA,hS,q,by rintro ds S1 vs H1 ⟨x,es,e,h1,r1⟩ v1 s1 k1;subst e;obtain⟨v,rfl,r⟩:=v1.one;obtain⟨a,xs,rfl,hq,t⟩:=h1.at s1 r;refine{a,xs,rfl,hq,hR _ S1 _ H1 r1 (λi S2 H2 k2 s2 Sk=>?_) s1 k1};obtain⟨a',P8,e',AK,t'⟩:=o9.at Sk s2<|Rv.ts k2 _ r;cases e';have hl:xs.length=es.length:=t.len;have hl':P8.length=es.length:=t'.len;refine{λd hd=>?_,λh=>by rw[yI]at h;show xs.length<=i;lia};have hi:i<es.length:=(by have:=(ze.mp hd).1;rwa [yI]at this);rw[List.getElem?_reverse hi]at hd;obtain⟨v,e1,r⟩:=t'.get hd;rw[<-hl]at e1;refine{{P8,v,AK,by lia,by lia,e1},λx' H' ⟨e2,e3⟩=>?_};subst e2;have:=e3 P8 AK (by lia);rw[e1]at this;cases this;exact{r,.refl _,s2},hZ}⟩
noncomputable def gJ(xs ys:δ D):δ D:=List.zipWith (λa b=>D.tup [a,b]) xs ys
def Vn(t:iD):wA:=λσ S R Z=>t σ S (λds S1=>∃xs ys,ds=[.tup xs,.tup ys]/\xs.length=ys.length/\R {gJ xs ys,λ_=>True} S1) Z
theorem pd:∀v τ H Q,Tg K (Np 2<|BJ (Sj i)<|BJ (Sj j) Nn) v τ H Q->Kl K 2 (pK (h_ i)<|pK (h_ j) Kk) v τ H Q:=by rintro v τ H Q ⟨d,σ,S,R,rv,aA,hS,⟨ds,e,hl,a,r,e1,b,r',e2,e3,q⟩,hR⟩;subst e e1 e2 e3;obtain⟨p,xs,rfl,hp,t⟩:=rv.tup;obtain⟨v1,v2,rfl,r1,r2⟩:=t.two;exact{p,_,rfl,.of hp,rfl,v1,[v2],rfl,v2,[],rfl,rfl,hR _ S _ H q ((aA.set i r1).set j r2) hS<|.refl _}
end
section
variable{K:Φ}{X:Cx}{b:χ}{pos:Pos}
def Vo(tl ti tv:TD):kZ:=λDe σ S Z=>tv σ S (λv S1=>tl σ S1 (λx S2=>ti σ S2 (λy S3=>∃a es i j,x=.ref a/\y=.int i/\S3 a=some (.lst es)/\G4 es.length i=some j/\De.nx σ (S3.set a<|.lst<|es.set j v))<|Z σ)<|Z σ)<|Z σ
theorem sls{o i value:Δ}{tl ti tv:TD}{pos':Pos}(ho:DE K X o tl)(hi:DE K X i ti)(hv:DE K X value tv)
  (ha:ψ (∀v,assign (.Subscript o i pos') X.env v=(do
   let ov <-holding [v] (eval o X.env)
   let iv <-holding [v,ov] (eval i X.env)
   standAt pos'
   holding [v,ov,iv] (setItem ov iv v)
   release [v,ov,iv] [])) qQ0)
  (hs:ψ (swapsWithSole [.Subscript o i pos'] value pos.line X.env=pure false) qQJ) (hw:ψ (swappedStores [.Subscript o i pos'] value X.env=pure none) qQJ) (h1:ψ ((assignEach [.Subscript o i pos'] X.env).map (·.2)=[assign (.Subscript o i pos') X.env]) qQJ):
  DS K X b (.Assign [.Subscript o i pos'] value pos) (Vo tl ti tv):=
 ⟨λy=>(GP (X:=y.cx) (hv.of y) (OO (ho.of y) (hi.of y) set_list ha) hs hw h1).mono <| by rintro D τ H ⟨σ,S,De,Z,aA,hS,q,hD,hZ⟩;exact
  ⟨σ,S,_,_,aA,hS,q,λv S1 vv H1 r1 v1 s1 k1=>⟨σ,S1,_,_,aA.ts k1,s1,r1,λx S2 xv H2 r2 v2 s2 k2=>⟨σ,S2,_,_,aA.ts<|k1.trans k2,s2,r2,by
   rintro y S3 yv H3 ⟨a,es,i,j,e1,e2,e3,e4,r3⟩ v3 s3 k3
   subst e1 e2
   obtain⟨xs,e5,t⟩:=s3.lst e3
   have kk:=s3.gF (o:=.lst<|xs.set j vv) e3
   refine{a,xs,i,j,(Rv.ts k3 _ v2).ref,v3.int,e5,by rw[t.len];exact e4,?_}
   exact hD.nx _ _ _ _ r3 (aA.ts<|((k1.trans k2).trans k3).trans kk) (s3.put (c:=.lst _) e3 {_,aB,RvAll.ts kk _<|t.set j<|Rv.ts (k2.trans k3) _ v1})<|((k1.trans k2).trans k3).trans kk,hZ.on (k1.trans k2)<|aA.ts<|k1.trans k2⟩,hZ.on k1<|aA.ts k1⟩,hZ.at aA⟩⟩
noncomputable def eW(z:ρ):δ D:=z.cps.toList.map λc=>D.str ⟨#[c]⟩
def Nt(t:TD):wA:=λσ S R Z=>t σ S (λx S1=>∃z,x=.str z/\R {eW z,λ_=>True} S1) Z
theorem Qd{t:TD}(h:DE K X l t):DI K X tg l (Nt t):=⟨λy=>(PB (X:=y.cx)<|h.of y).mono <| by rintro τ H R ⟨σ,S,RI,Z,aA,hS,q,hR,hZ⟩;exact⟨σ,S,_,Z,aA,hS,q,by
 rintro x S1 v H1 ⟨z,e,r1⟩ v1 s1 k1;subst e;refine{z,v1.str,hR _ S1 _ H1 r1 (λi S2 H2 k2 s2 _=>{λd hd=>?_,λhl=>?_}) s1 k1};unfold eW at hd;rw[zp,yr]at hd;cases q:z.cps[i]? with|none=>(rw[q]at hd;cases hd)|some c=>rw[q]at hd;cases hd;refine{(Array.getElem?_eq_some_iff.mp q).1,λx' H' ⟨e1,c',e2,e3⟩=>?_};rw[q]at e2;cases e2;subst e1 e3;exact{dI _,.refl _,s2}
 unfold eW at hl;rw[za,zT]at hl;exact hl,hZ⟩⟩
end
theorem eR:bootBuiltins "sorted"= some (.builtin "sorted"):=by trivial
def Sub(S S':ak):Prop:=∀b c,S b=some c->S' b=some c
theorem Sub.refl(S:ak):Sub S S:=λ_ _ h=>h
theorem Sub.trans(a:Sub S S1)(b:Sub S1 S2):Sub S S2:=λp c h=>b p c<|a p c h
theorem Sub.new(h:S p=none):Sub S (S.set p c):=λb c' hb=>by rw[ae<|gC hb h];exact hb
theorem Rs.sub{K:Φ}{S S':ak}{H:Hp}(h:Rs K S' H)(s:Sub S S'):Rs K S H:=λa c e=>h a c<|s a c e
inductive Fo (S':ak) (p:ak->η):η where
 |mk (S:ak) (h:Sub S S') (r:p S):Fo S' p
theorem fo(h:p S):Fo S p:={S,.refl S,h}
section
variable{P:Ψ}{w:Ω}{K:Φ}{mg:ρ->θ ξ}{base:Γ}
theorem uP.ok{x qual:ρ}{st:Stmt}{f:ε}{fd:FuncData}{N ps:δ ρ}{k:π}{sp:qh}(F:uP K x qual st f fd)(S:fI N ps<|ai st)(len:∀ds S R Z,sp ds S R Z->ds.length=ps.length) (kQ:∀(fJ:ξ)(A:ϕ)(outer:δ Env)(s:ζ)(H:Hp)(E:XK)(ds:δ D)(S:ak)(R:KD)(Z:KX),bO k (A.deeper<|envOfC qual (ai st) s.heap.objs.size f fJ)->sp ds S R Z->∃t,GA K (jB (fF P w mg) P w K mg base N qual (ai st) f fJ A outer s H E) true (bw st) t/\t {nx:=λ_ S'=>Fo S'<|R .au,rt:=λd S'=>Fo S'<|R d} (iS N ds) S λ_ C S'=>Fo S'<|Z C):bK P w K mg base (fF P w mg) (k+1) f fd ps (rK K sp):=by
 have F2:bK P w K mg base (fF P w mg) (k+1) f fd ps (rK K λds S R' Z'=>∃R Z,sp ds S R Z/\R'=(λd S'=>Fo S'<|R d)/\Z'=λC S'=>Fo S'<|Z C):=by refine F.okD S (by rintro ds S R Z ⟨R0,Z0,h,_⟩;exact len _ _ _ _ h) λfJ A outer s H E ds S R Z hr ⟨R0,Z0,h,e1,e2⟩=>?_;subst e1 e2;exact kQ fJ A outer s H E ds S R0 Z0 hr h
 refine F2.imp <| by rintro vs H Q E ⟨ds,S,R,Z,v,hS,h,hR,hZ⟩;exact{ds,S,_,_,v,hS,⟨R,Z,h,rfl,rfl⟩,by rintro d S' u H' ⟨S2,sb,r⟩ rv rs kp;exact hR d S2 u H' r rv (rs.sub sb) kp,by rintro C S' H' ⟨S2,sb,r⟩ rs kp;exact hZ C S2 H' r (rs.sub sb) kp}
end
section
variable{K:Φ}{X:Cx}{b:χ}
def Vp(t:kZ):kZ:=λDe σ S Z=>∃P:SD->ak->η,t {De with nx:=λax S'=>Fo S'<|P ax} σ S Z/\∀ax S',P ax S'->De.nx ax S'
theorem nL{st:Stmt}{t:kZ}(h:DS K X b st t):DS K X b st (Vp t):=⟨λy=>(h.of y).mono <| by rintro D τ H ⟨σ,S,De,Z,aA,hS,⟨P,q,hP⟩,hD,hZ⟩;exact{σ,S,_,Z,aA,hS,q,{by rintro wu S1 ZE H1 ⟨S2,sb,r1⟩ a b c;exact hD.nx _ _ _ _ (hP _ _ r1) a (b.sub sb) c,hD.rt,hD.bk,hD.ct},hZ}⟩
def dFo(t:TD):TD:=λσ S R Z=>t σ S (λd S'=>Fo S'<|R d) Z
theorem wB{t:TD}(h:DE K X e t):DE K X e (dFo t):=⟨λy=>(h.of y).mono <| by rintro τ H Q ⟨σ,S,R,Z,aA,hS,q,hR,hZ⟩;exact{σ,S,_,Z,aA,hS,q,by rintro d S' v H' ⟨S2,sb,r⟩ rv rs kp;exact hR d S2 v H' r rv (rs.sub sb) kp,hZ}⟩
theorem cg1(nd:N.Nodup)(h0:ψ (N[0]?=some a) qQJ)(hx:ψ (∀C s H ex pn,Loc (fK X N scope C s H ex pn).env.scope a/\(fK X N scope C s H ex pn).env.scope.names.lookup a=some .local) qJX): ∀C s H ex pn,PG (fK X N scope C s H ex pn) (.Name a p) (h_ 0):=λC s H ex pn=>oR (i:=0) nd h0 (hx C s H ex pn).1<|.inr (hx C s H ex pn).2
theorem Xj(nd:N.Nodup)(h0:ψ (N[0]?=some a) qQJ)(h1:ψ (N[1]?=some c) qQJ) (hx:ψ (∀C s H ex pn,Loc (fK X N scope C s H ex pn).env.scope a/\(fK X N scope C s H ex pn).env.scope.names.lookup a=some .local) qJX) (hy:ψ (∀C s H ex pn,Loc (fK X N scope C s H ex pn).env.scope c/\(fK X N scope C s H ex pn).env.scope.names.lookup c=some .local) qJX) (hl:∀env:Env,(assignEach [.Name a p,.Name c p'] env).length=2/\(assignEach [.Name a p,.Name c p'] env).findIdx? (·.1)=none/\(assignEach [.Name a p,.Name c p'] env).map (·.2)=assign (.Name a p) env::(assignEach [.Name c p'] env).map (·.2)/\(assignEach [.Name c p'] env).map (·.2)=assign (.Name c p') env::(assignEach [] env).map (·.2):=by intro _;exact⟨rfl,rfl,rfl,rfl⟩) (hK:ψ (X.K=K) qQJ) (hc:ψ (X.calm=true) qQJ): ∀C s H ex pn,PG (fK X N scope C s H ex pn) (.Tuple [.Name a p,.Name c p'] j p2) (Kl K 2<|pK (h_ 0)<|pK (h_ 1) Kk):=λC s H ex pn=>by subst hK;have e:=hl (fK X N scope C s H ex pn).env;exact GO (X:=fK X N scope C s H ex pn) hc (pL (oR (i:=0) nd h0 (hx C s H ex pn).1<|.inr (hx C s H ex pn).2) (pL (oR (i:=1) nd h1 (hy C s H ex pn).1<|.inr (hy C s H ex pn).2) C4 e.2.2.2) e.2.2.1) e.1 e.2.1
end
theorem qi:∀{ss:δ ρ}{ar:δ ξ},Vals (ss.map V.str) ar->StrsAre ar ss|[],_,.nil=>.nil|z::ss,_,.cons r t=>by obtain⟨tk,rfl⟩:=r;exact .cons z tk<|qi t
end L2
namespace HT
open PySem PySem.Spec PyProof.Rows
end HT
namespace L2
open PySem PySem.Spec PyProof.Rows
inductive HM (S:ak):δ D->δ PyData->η where
 |nil:HM S [] []
 |cons {d:D}{p:PyData}{ds:δ D}{ps:δ PyData} : Dl S d p->HM S ds ps->HM S (d::ds) (p::ps)
section
variable{K:Φ}
noncomputable def qj(p:ρ×D):D:=.tup [.str p.1,p.2]
noncomputable def eX(l:δ<|ρ×D):δ (Key×D):=l.foldl (λc p=>dput c (.inr p.1) p.2) []
theorem Du:∀{kvs:δ (ρ×D)}{ys:δ V},RvAll K H (kvs.map qj) ys->∃kv:δ (ρ×V),Prs H ys kv/\∀c c',bR K H c c'->bR K H (kvs.foldl (λc p=>dput c (.inr p.1) p.2) c) (kv.foldl (λc p=>putK c (.inr p.1) p.2) c')|[],ys,h=>(by rw[h.nil];exact{[],{rfl,λi x p e=>(by cases i<;>cases e)},λc c' h=>h})|p::kvs,ys,h=>by obtain⟨y,ys,rfl,r1,r2⟩:=h.cons;obtain⟨b,zs,rfl,hb,tz⟩:=Rv.tup<|show Rv K H (.tup [.str p.1,p.2]) y from r1;obtain⟨v,u,rfl,rv,ru⟩:=tz.two;have ev:=rv.str;subst ev;obtain⟨kv,⟨hl,hp⟩,hf⟩:=Du r2;refine{(p.1,u)::kv,{by rw[zO,zO,hl],λi x q e1 e2=>?_},λc c' h=>hf _ _<|h.put (.inr p.1) ru};cases i with|zero=>(cases e1;cases e2;exact⟨b,rfl,hb⟩)|succ i=>exact hp i x q e1 e2
theorem qk(kvs:δ<|Key×D)(k k':Key)(d:D):bL (dput kvs k d) k'=if k'=k then some d else bL kvs k':=by
 unfold dput;by_cases hk:(kvs.any λkv=>ω<|kv.1=k)=true;rw[xL hk];unfold bL;induction kvs with|nil=>(cases hk)|cons r kvs ih=>rw[zw,yd,yd];by_cases e:r.1=k;rw[xL e];by_cases e2:k'=k;rw[xL e2,show ω (r.1=k')=true from zu (e.trans e2.symm)];rfl;rw[xz e2,show ω (r.1=k')=false from zy λq=>e2<|q.symm.trans e];by_cases c_:(kvs.any λkv=>ω<|kv.1=k)=true;have:=ih c_;rw[xz e2]at this;exact this;have em:kvs.map (λkv=>if kv.1=k then (kv.1,d) else kv)=kvs:=(by(conv=>rhs;rw[<-List.map_id kvs]);refine zW λx hx=>?_;rw[xz λq=>c_<|yx.mpr {x,hx,zu q}];rfl);rw[em];rw[xz e];have c_:(kvs.any λkv=>ω<|kv.1=k)=true:=(by rw[yP,zy e,y1]at hk;exact hk);by_cases e3:r.1=k';rw[zu e3,xz λq=>e<|e3.trans q];rw[zy e3];exact ih c_
 rw[xz hk];unfold bL;rw[List.find?_append];have hn:∀x∈kvs,x.1≠k:=λx hx q=>hk<|yx.mpr {x,hx,zu q};by_cases e:k'=k;subst e;rw[xL rfl,List.find?_eq_none.mpr λx hx=>by simp[hn x hx]];simp;rw[xz e];have:([(k,d)].find? λkv=>ω<|kv.1=k')=none:=by rw[yd,show ω (k=k')=false from zy λq=>e q.symm];rfl
 rw[this,Option.or_none]
theorem tM(l:δ<|ρ×D)(z:ρ):(bL (eX l)<|.inr z).isSome=l.any λp=>ω (p.1=z):=by
 have all:∀(l:δ (ρ×D))(c:δ (Key×D)),(bL (l.foldl (λc p=>dput c (.inr p.1) p.2) c)<|.inr z).isSome=((bL c<|.inr z).isSome||l.any λp=>ω<|p.1=z):=by intro l;induction l with|nil=>intro c;simp|cons p l ih=>intro c;rw[List.foldl_cons,ih,qk,yP];by_cases e:p.1=z;rw[xL<|by rw[e],zu e];simp;rw[xz λq=>e (yN q).symm,zy e];simp
 exact(all l []).trans<|by rfl
def Vq(a:ε)(kvs:δ<|ρ×V):uL:=λx y S R=>∃z,x=.str z/\y=.ref a/\R (.bl (kvs.lookup z).isSome) S
theorem cmk{X:Cx}{a b:Δ}{ta tb:TD}{pos:Pos}{w:Ω}{ad:ε}{kvs:δ<|ρ×V}(d:Le w K ad kvs)(ha:DE K X a ta)(hb:DE K X b tb)(hw:ψ (X.w=w) qQJ)(hm:ψ (behindInMarks .In b=false) qQ2)(hK:ψ (X.K=K) qQJ): DE K X (.Compare a [.In] [b] pos) (P0 (Vq ad kvs) ta tb):=by refine⟨λy=>(C8 (X:=y.cx) (r:=Lr K<|Vq ad kvs) ?_ (ha.of y) (hb.of y) hm).mono λ_ _ _ h=>h.op⟩;rintro pins s σ H x y' v u Q I rx ry ⟨d',e,S,R,r1,r2,hS,⟨z,e1,e2,h⟩,hR⟩;subst e1 e2;exact Hu (X:=y.cx) hw hK pins s σ H x y' v u Q I rx ry {z,ad,kvs,r1.str,r2.ref,d,hR.now hS h<|bY _}
end
structure Vr(k:π)(A:ϕ):η where
 dp:A.depth+3*k+5<recursionLimit
 un:A.units+16*k+200<cLine
structure FnH(P:Ψ)(w:Ω)(K:Φ)(mg:ρ->θ ξ)(base:Γ)(k:π)(f:ε)(fd:FuncData)(ps:δ ρ)(sp:qh):η where
 len:∀ds S R Z,sp ds S R Z->ds.length=ps.length
 run:∀(A:ϕ)(outer:δ Env)(s:ζ)(H:Hp)(args:Args)(us:δ ξ)(vs:δ V)(Q:VK),Vr k A->wL P w K mg base A outer s H->BindsTo s fd args (ps.zip us)->Vals vs us->rK K sp vs H Q E0 ->
  codeAny (model P w) A (.call (.ref f) args) (CR (fF P w mg) outer P w H s Q E0) s
def PEg(pre:π)(X:Cx)(e:Δ)(t:TE):Prop:=∀(pins:δ (ε×Obj))(s:ζ)(σ:St)(H:Hp)(Q:VK),Inv X pins σ H s->pre<=s.toks->t σ H Q->wpAny (model X.prog X.w) X.A (eval e X.env) (λu s'=>EP X pins σ Q u s'/\1<=s'.toks) X.xe s
structure DEg(pre:π)(K:Φ)(X:Cx)(e:Δ)(t:TD):η where
 of:∀{b:χ}(y:Ev X b),PEg pre y.cx e<|T K y.E t
theorem ZS{a b:ρ}(h:a.cps.toList=b.cps.toList):a=b:=by obtain⟨⟨x⟩⟩:=a;obtain⟨⟨y⟩⟩:=b;cases h;rfl
end L2
namespace HT
open PySem PySem.Spec PyProof.Rows
end HT
namespace L2
open PySem PySem.Spec PyProof.Rows
section
variable{K:Φ}{X:Cx}
def Vs:Gz:=λx ds S R=>∃a es fs,x=.ref a/\ds=[.tup fs]/\S a=some (.lst es)/\es.length+fs.length<=sizeLine/\R .au (S.set a<|.lst<|es++fs)
theorem Fm:Ni K "list.extend" Vs:=by rintro X hK pins s σ H x xs v us Q I rx rs ⟨d,ds,S,R,r1,r2,hS,⟨a,es,fs,e1,e2,e3,hl,h⟩,hR⟩;subst e1 e2;obtain⟨w0,rfl,q2⟩:=r2.one;obtain⟨zs,e5,t⟩:=hS.lst e3;obtain⟨p,ys,rfl,q,t2⟩:=q2.tup;exact BG pins s σ H x _ v us Q I rx rs {a,p,zs,ys,r1.ref,rfl,e5,q,by rw[t.len,t2.len];exact hl,hR.put hS e3 h iN<|t.app t2}
end
section
variable{K:Φ}{X:Cx}{E:XK}
structure DEx(K:Φ)(X:Cx)(E:XK)(e:Δ)(t:TD):η where
 of:∀(y:Ev X true),y.E=(λ_=>E)->cM y.cx E->PE y.cx e (T K y.E t)
structure DAx(K:Φ)(X:Cx)(E:XK)(es:δ Δ)(t:iD):η where
 of:∀(y:Ev X true),y.E=(λ_=>E)->cM y.cx E->PA y.cx es (Ta K y.E t)
structure DSx(K:Φ)(X:Cx)(E:XK)(b:δ Stmt)(t:kZ):η where
 of:∀(y:Ev X true),y.E=(λ_=>E)->cM y.cx E->CY y.cx b (Tl K y.E t)
variable{N:δ ρ}{src:δ (θ π)}{scope:Scope}{tg iter elt:Δ}{ifs:δ Δ}{ti:wA}{g:TG}{gd:xb}{tc:jE}{te:TD}
end
open PySem.Builtin PySem.Builtin.Str
structure M3(X:Cx)(o:Δ)(m:ρ)(apos:Pos)(e f g:Δ)(aP:Pos):η where
 base:attributeBase o m X.env (eval o X.env)=eval o X.env
 Gv:((backTo aP<|starEach [e,f,g] X.env).all (λx=>!x.1)&&(backToKw aP<|keywordEach [] X.env).all (λx=>x.1.isSome)
  && ω (([e,f,g]:δ Δ).length+([]:δ Keyword).length+(if ([]:δ Keyword).isEmpty then 0 else 1)<30))=true
 line:(apos.endLine==aP.line)=true
 trees:backTo aP (starEach [e,f,g] X.env)=[(false,eval e X.env),(false,eval f X.env),(false,eval g X.env)]
section
variable{X:Cx}{t:TE}
def PAg(pre:π)(X:Cx)(es:δ Δ)(t:TA):Prop:=∀(pos:Pos)(pins:δ (ε×Obj))(s:ζ)(σ:St)(H:Hp)(Q:δ V->Hp->η),Inv X pins σ H s->pre<=s.toks->t σ H Q->wpAny (model X.prog X.w) X.A (spliced<|backTo pos<|starEach es X.env) (AP X pins σ Q) X.xe s
end
section
variable{K:Φ}{X:Cx}
structure DAg(pre:π)(K:Φ)(X:Cx)(es:δ Δ)(t:iD):η where
 of:∀{b:χ}(y:Ev X b),PAg pre y.cx es<|Ta K y.E t
end
structure Gh(a₀:Array Keyed)(g:π->π)(xs:Array Keyed):η where
 at_:∀k,k<a₀.size->xs[k]?=a₀[g k]?
 lt:∀k,k<a₀.size->g k<a₀.size
 inj:∀i j,i<a₀.size->j<a₀.size->g i=g j->i=j
def Log(κ:KeyKind)(a₀:Array Keyed)(i j:π):Prop:=κ.klt (KK κ a₀ i) (KK κ a₀ j)\/(KK κ a₀ i=KK κ a₀ j/\i<j)
def BL(κ:KeyKind)(a₀:Array Keyed)(g:π->π)(k:π):Prop:=∀i j,i<j->j<k->Log κ a₀ (g i) (g j)
def Xk(κ:KeyKind)(a₀:Array Keyed)(g:π->π)(k:π):Prop:=∀i j,i<j->j<k->Log κ a₀ (g j) (g i)
def Fn(g:π->π)(m n:π):Prop:=∀k,m<=k->k<n->g k=k
noncomputable def HN(g:π->π)(i j k:π):Nat:=if i<=k/\k<j then g (i+j-1-k) else g k
noncomputable def Lz(g:π->π)(src l k:π):Nat:=if k=l then g src else if l<k/\k<=src then g (k-1) else g k
section
variable{κ:KeyKind}{a₀ xs:Array Keyed}{g:π->π}
theorem Log.kle(h:Log κ a₀ i j):κ.kle (KK κ a₀ i) (KK κ a₀ j):=by rcases h with h|⟨h,_⟩;exact KeyOrd.kle_of_klt h;rw[h];exact KeyOrd.kle_refl _
theorem Nu(h:κ.kle (KK κ a₀ i)<|KK κ a₀ j)(hl:i<j):Log κ a₀ i j:=by cases q:κ.blt (KK κ a₀ i) (KK κ a₀ j) with|true=>exact .inl q|false=>exact .inr {KeyOrd.kle_antisymm h q,hl}
theorem Gh.low(h:Gh a₀ g xs)(t:Fn g m a₀.size)(hm:m<=a₀.size)(hi:i<m):g i<m:=by refine Nat.lt_of_not_le λq=>?_;have h1:=h.lt i (by lia);have h2:=h.inj (g i) i h1 (by lia)<|t (g i) q h1;lia
theorem Gh.key(h:Gh a₀ g xs)(hk:k<a₀.size):KK κ xs k=KK κ a₀ (g k):=KK_congr<|h.at_ k hk
theorem Gh.mirror(h:Gh a₀ g xs)(hs:xs.size=a₀.size)(hj:j<=a₀.size):Gh a₀ (HN g i j) (mirror xs i j<|(j-i)/2) where
 at_:=λk hk=>by
  rw[getElem?_mirror_all<|by lia]
  unfold HN
  by_cases q:i<=k/\k<j
  ·rw[xL q,xL q];exact h.at_ _<|by lia
  ·rw[xz q,xz q];exact h.at_ _ hk
 lt:=λk hk=>by
  unfold HN
  by_cases q:i<=k/\k<j
  ·rw[xL q];exact h.lt _<|by lia
  ·rw[xz q];exact h.lt _ hk
 inj:=λa b ha hb e=>by
  unfold HN at e
  by_cases q:i<=a/\a<j<;>by_cases r:i<=b/\b<j
  ·rw[xL q,xL r]at e;have:=h.inj _ _ (by lia) (by lia) e;lia
  ·rw[xL q,xz r]at e;have:=h.inj _ _ (by lia) (by lia) e;lia
  ·rw[xz q,xL r]at e;have:=h.inj _ _ (by lia) (by lia) e;lia
  ·rw[xz q,xz r]at e;exact h.inj _ _ ha hb e
theorem Gh.bubble(h:Gh a₀ g xs)(hs:xs.size=a₀.size)(hl:l<=src)(hj:src<a₀.size):Gh a₀ (Lz g src l) (bubble xs src<|src-l) where
 at_:=λk hk=>by
  rw[getElem?_bubble (by lia) _<|by lia,show src-(src-l)=l by lia]
  unfold Lz
  by_cases q:k=l
  ·rw[xL q,xL q];exact h.at_ _ hj
  ·rw[xz q,xz q]
   by_cases r:l<k/\k<=src
   ·rw[xL r,xL r];exact h.at_ _<|by lia
   ·rw[xz r,xz r];exact h.at_ _ hk
 lt:=λk hk=>by
  unfold Lz
  by_cases q:k=l
  ·rw[xL q];exact h.lt _ hj
  ·rw[xz q]
   by_cases r:l<k/\k<=src
   ·rw[xL r];exact h.lt _<|by lia
   ·rw[xz r];exact h.lt _ hk
 inj:=λa b ha hb e=>by
  unfold Lz at e
  repeat' split at e
  all_goals (have:=h.inj _ _ (by lia) (by lia) e;lia)
theorem gL(h:i<=k/\k<j):HN g i j k=g (i+j-1-k):=by unfold HN;rw[xL h]
theorem fL(h:¬(i<=k/\k<j)):HN g i j k=g k:=by unfold HN;rw[xz h]
end
section
variable{prog:Ψ}{w:Ω}{A:ϕ}{E:ξ->ζ->η}{s:ζ}{a₀:Array Keyed}{κ:KeyKind}
theorem Nv{st:SortSt}{g:π->π}{a top:π}{Q:AscSt->SortSt->η}(hO:κ.OneLt)(h0:KeysOf κ a₀)(ht:top<=a₀.size)(h1:1<=a)(h2:a<=top)(B:SBase a₀ st)(G:Gh a₀ g<|arrOf st)(T:Fn g a a₀.size)(U:BL κ a₀ g a) (h:∀n,a<=n->n<=top->BL κ a₀ g n->(n=top\/κ.klt (KK κ a₀<|g n) (KK κ a₀<|g<|n-1))->Q (none,n) st):wpS (model prog w) A E s (ascLoop a top) Q st:=by
 unfold ascLoop;refine wpS_forRange (I:=λx c t=>t=st/\c=(none,x)/\BL κ a₀ g x) ?_ ?_ ⟨rfl,rfl,U⟩;rintro x c t GC Lw ⟨rfl,rfl,V⟩;dsimp only;refine wpS_bind<|wpS_ltKK hO B h0 (by lia) (by lia) ?_;rw[G.key<|by lia,G.key<|by lia];cases q:κ.blt (KK κ a₀<|g x) (KK κ a₀<|g<|x-1) with|true=>exact wpS_pure (h x GC (by lia) V<|.inr q)|false=>refine wpS_pure {rfl,rfl,λi j iw hj=>?_};rcases Nat.lt_or_ge j x with z|z;exact V i j iw z;obtain rfl:j=x:=(by lia);have lw:=G.low (m:=j) (λk hk c_=>T k (by lia) c_) (by lia) iw;rw[T j GC<|by lia]at q⊢;refine Nu ?_ lw;rcases Nat.lt_or_ge i (j-1) with y|y;exact KeyOrd.kle_trans (V i (j-1) y<|by lia).kle q;obtain rfl:i=j-1:=(by lia);exact q
 rintro c t ⟨rfl,rfl,V⟩;rw[show max a top=top by lia]at V⊢;exact h top h2 (zm _) V<|.inl rfl
theorem HP{st:SortSt}{g:π->π}{n top:π}{Q:θ π->SortSt->η}(hO:κ.OneLt)(h0:KeysOf κ a₀)(ht:top<=a₀.size)(h1:1<=n)(h2:n<=top)(B:SBase a₀ st)(G:Gh a₀ g<|arrOf st)(T:Fn g n a₀.size)(D:Xk κ a₀ g n) (h:∀m g' dH,SBase a₀ dH->Gh a₀ g' (arrOf dH)->Fn g' m a₀.size->1<=m->m<=top->BL κ a₀ g' m->Q (some m) dH):wpS (model prog w) A E s (tail3 n top) Q st:=by
 unfold tail3;refine wpS_bind<|wpS_reverse ?_;have B':SBase a₀ (setArr st<|mirror (arrOf st) 0 n<|(n-0)/2):=B.setArr<|mirror_perm _ _ _ _;have G':Gh a₀ (HN g 0 n) (arrOf<|setArr st<|mirror (arrOf st) 0 n<|(n-0)/2):=G.mirror B.size (by lia);have T':Fn (HN g 0 n) n a₀.size:=λk hk c_=>by rw[fL<|by lia];exact T k hk c_
 refine wpS_bind<|Nv hO h0 ht h1 h2 B' G' T' (λi j iw hj=>?_) λm hm1 Sn V _=>wpS_pure<|h m _ _ B' G' (λk hk c_=>T' k (by lia) c_) (by lia) Sn V;rw[gL<|by lia,gL<|by lia];exact D _ _ (by lia)<|by lia
structure J1(κ:KeyKind)(a₀:Array Keyed)(g:π->π)(x q:π):η where
 le:q+1<=x
 tl:Fn g (x-(q+1)) a₀.size
 dn:∀i j,i<j->j<x->i<x-(q+1)->Log κ a₀ (g j) (g i)
 eq:∀i,x-(q+1)<=i->i<x->KK κ a₀ (g i)=KK κ a₀ (g<|x-1)
theorem J1.full(F:J1 κ a₀ g x q)(hx:x<=a₀.size):Xk κ a₀ (HN g (x-(q+1)) x) x:=λi j iw hj=>by have le:=F.le;by_cases hi:i<x-(q+1);rw[fL (k:=i)<|by lia];by_cases Xl:j<x-(q+1);rw[fL<|by lia];exact F.dn i j iw hj hi;rw[gL<|by lia];exact F.dn i _ (by lia) (by lia) hi;rw[gL<|by lia,gL<|by lia];refine .inr {(F.eq _ (by lia)<|by lia).trans (F.eq _ (by lia)<|by lia).symm,?_};rw[F.tl _ (by lia)<|by lia,F.tl _ (by lia)<|by lia];lia
theorem J1.Nx(F:J1 κ a₀ g x 0):Xk κ a₀ g x:=λi j iw hj=>F.dn i j iw hj<|by lia
theorem J1.next(D:Xk κ a₀ g x)(T:Fn g x a₀.size)(hx:x<a₀.size)(h1:1<=x)(hl:κ.klt (KK κ a₀<|g x)<|KK κ a₀<|g<|x-1):J1 κ a₀ g (x+1) 0 where
 le:=by lia
 tl:=λk hk c_=>T k (by lia) c_
 dn:=λi j iw hj hi=>by
  by_cases Xl:j<x
  ·exact D i j iw Xl
  ·obtain rfl:j=x:=by lia
   refine .inl ?_
   by_cases q:i=j-1
   ·rw[q];exact hl
   ·exact KeyOrd.klt_of_klt_of_kle hl (D i (j-1) (by lia)<|by lia).kle
 eq:=λi hi hj=>by rw[show i=x+1-1 by lia]
theorem Qe{st:SortSt}{g:π->π}{n top:π}{Q:DescSt->SortSt->η}(hO:κ.OneLt)(h0:KeysOf κ a₀)(ht:top<=a₀.size)(h1:1<=n)(h2:n<=top)(B:SBase a₀ st)(G:Gh a₀ g<|arrOf st)(F:J1 κ a₀ g n 0) (h:∀m q g' dH,SBase a₀ dH->Gh a₀ g' (arrOf dH)->n<=m->m<=top->J1 κ a₀ g' m q->Q (none,m,q) dH):wpS (model prog w) A E s (descLoop n top) Q st:=by
 unfold descLoop;refine wpS_forRange (I:=λx c t=>∃q g',c=(none,x,q)/\SBase a₀ t/\Gh a₀ g' (arrOf t)/\J1 κ a₀ g' x q) ?_ ?_ {0,g,rfl,B,G,F};rintro x c t GC Lw ⟨q,g',rfl,B',G',F'⟩;have le:=F'.le;dsimp only;refine wpS_bind<|wpS_ltKK hO B' h0 (by lia) (by lia) ?_;rw[G'.key<|by lia,G'.key<|by lia];cases hl:κ.blt (KK κ a₀<|g' x) (KK κ a₀<|g'<|x-1) with|true=>(simp only[if_true];by_cases hq:q>0;rw[xL hq];refine wpS_bind<|wpS_reverse<|wpS_pure {0,_,rfl,B'.setArr<|mirror_perm _ _ _ _,G'.mirror B'.size<|by lia,?_};refine .next (F'.full<|by lia) (λk hk c_=>?_) (by lia) (by lia) ?_;rw[fL<|by lia];exact F'.tl k (by lia) c_;rw[fL<|by lia,gL<|by lia,F'.eq (x-(q+1)+x-1-(x-1)) (by lia)<|by lia];exact hl;rw[xz hq];obtain rfl:q=0:=(by lia);exact wpS_pure {0,g',rfl,B',G',.next F'.Nx (λk hk c_=>F'.tl k (by lia) c_) (by lia) (by lia) hl})|false=>simp only[yo,if_false];refine wpS_bind<|wpS_ltKK hO B' h0 (by lia) (by lia) ?_;rw[G'.key<|by lia,G'.key<|by lia];cases hg:κ.blt (KK κ a₀<|g'<|x-1) (KK κ a₀<|g' x) with|true=>exact wpS_pure (h x q g' t B' G' GC (by lia) F')|false=>have e:KK κ a₀ (g' x)=KK κ a₀ (g'<|x-1):=KeyOrd.kle_antisymm hg hl;refine wpS_pure {q+1,g',rfl,B',G',{by lia,λk hk c_=>F'.tl k (by lia) c_,λi j iw hj hi=>?_,λi hi hj=>?_}};by_cases Xl:j<x;exact F'.dn i j iw Xl (by lia);obtain rfl:j=x:=(by lia);have:=F'.dn i (j-1) (by lia) (by lia) (by lia);rcases this with z|⟨_,z⟩;exact .inl (by rw[e];exact z);rw[F'.tl (j-1) (by lia)<|by lia]at z;have:=G'.low (m:=j-(q+1)) F'.tl (by lia) (i:=i) (by lia);lia;rw[show x+1-1=x by lia];by_cases Vh:i=x;rw[Vh];rw[e];exact F'.eq i (by lia)<|by lia
 rintro c t ⟨q,g',rfl,B',G',F'⟩;rw[show max n top=top by lia]at F'⊢;exact h top q g' t B' G' h2 (zm _) F'
theorem HQ{st:SortSt}{g:π->π}{n top:π}{Q:θ π->SortSt->η}(hO:κ.OneLt)(h0:KeysOf κ a₀)(ht:top<=a₀.size)(h2:n+1<=top)(B:SBase a₀ st)(G:Gh a₀ g<|arrOf st)(F:J1 κ a₀ g (n+1) 0) (h:∀m g' dH,SBase a₀ dH->Gh a₀ g' (arrOf dH)->Fn g' m a₀.size->1<=m->m<=top->BL κ a₀ g' m->Q (some m) dH):wpS (model prog w) A E s (descPart n top) Q st:=by
 unfold descPart;refine wpS_bind<|wpS_lift<|yW {rfl,?_};refine wpS_bind<|Qe hO h0 ht (by lia) h2 B G F λm q g' dH B' G' hm1 Sn F'=>?_;have le:=F'.le;dsimp only;by_cases hq:q>0;rw[xL hq];refine wpS_bind<|wpS_reverse<|HP hO h0 ht (by lia) Sn (B'.setArr<|mirror_perm _ _ _ _) (G'.mirror B'.size<|by lia) (λk hk c_=>?_) (F'.full<|by lia) h;rw[fL<|by lia];exact F'.tl k (by lia) c_;rw[xz hq];obtain rfl:q=0:=by lia
 exact HP hO h0 ht (by lia) Sn B' G' (λk hk c_=>F'.tl k (by lia) c_) F'.Nx h
theorem Vt{st:SortSt}{g:π->π}{top:π}{Q:θ π->SortSt->η}(hO:κ.OneLt)(h0:KeysOf κ a₀)(ht:top<=a₀.size)(h1:1<=top)(B:SBase a₀ st)(G:Gh a₀ g<|arrOf st)(T:Fn g 0 a₀.size) (h:∀m g' dH,SBase a₀ dH->Gh a₀ g' (arrOf dH)->Fn g' m a₀.size->1<=m->m<=top->BL κ a₀ g' m->Q (some m) dH):wpS (model prog w) A E s (countRun' 0 top) Q st:=by
 rw[countRun0_eq];refine wpS_bind<|Nv hO h0 ht (zm 1) h1 B G (λk hk c_=>T k (by lia) c_) (λi j iw hj=>by lia) λn HR G0 U hor=>?_;dsimp only;have Tn:∀m,Fn g m a₀.size:=λm k hk c_=>T k (by lia) c_;by_cases Ny:n=top;rw[xL<|by simpa using Ny];exact wpS_pure<|h n g st B G (Tn n) HR G0 U;rw[xz<|by simpa using Ny];have dr:=hor.resolve_left Ny;by_cases Xm:n>1;rw[xL Xm];refine wpS_bind<|wpS_ltKK hO B h0 (by lia) (by lia) ?_;rw[G.key<|by lia,G.key<|by lia];cases hr:κ.blt (KK κ a₀<|g 0) (KK κ a₀<|g<|n-1) with|true=>exact wpS_pure (h n g st B G (Tn n) HR G0 U)|false=>simp only[yo,if_false];have all:∀k,k<n->KK κ a₀ (g k)=KK κ a₀ (g<|n-1):=λk hk=>(by have a1:κ.kle (KK κ a₀<|g 0) (KK κ a₀<|g k):=(by by_cases z:k=0;rw[z];exact KeyOrd.kle_refl _;exact(U 0 k (by lia) hk).kle);have a2:κ.kle (KK κ a₀<|g k) (KK κ a₀<|g<|n-1):=(by by_cases z:k=n-1;rw[z];exact KeyOrd.kle_refl _;exact(U k (n-1) (by lia)<|by lia).kle);exact KeyOrd.kle_antisymm a2<|KeyOrd.kle_trans hr a1);refine wpS_bind<|wpS_reverse<|HQ hO h0 ht (by lia) (B.setArr<|mirror_perm _ _ _ _) (G.mirror B.size<|by lia) ?_ h;refine .next (λi j iw hj=>?_) (λk hk c_=>by rw[fL<|by lia];exact T k (by lia) c_) (by lia) (by lia) ?_;rw[gL<|by lia,gL<|by lia];refine .inr {(all _<|by lia).trans (all _<|by lia).symm,?_};rw[T _ (by lia)<|by lia,T _ (by lia)<|by lia];lia;rw[fL<|by lia,gL<|by lia,all (0+n-1-(n-1))<|by lia];exact dr
 rw[xz Xm];obtain rfl:n=1:=by lia
 exact HQ hO h0 ht (by lia) B G (.next (λi j iw hj=>by lia) (Tn 1) (by lia) (by lia) dr) h
theorem Vu{st:SortSt}{g:π->π}{n ok:π}{Q:χ->SortSt->η}(hO:κ.OneLt)(h0:KeysOf κ a₀)(hn:n<=a₀.size)(aI:ok<=n)(B:SBase a₀ st)(G:Gh a₀ g<|arrOf st)(T:Fn g ok a₀.size)(U:BL κ a₀ g ok) (h:∀g' dH,SBase a₀ dH->Gh a₀ g' (arrOf dH)->BL κ a₀ g' n->Q true dH):wpS (model prog w) A E s (binarySort' 0 n ok) Q st:=by
 rw[binarySort'_eq];simp only[y6];refine wpS_bind<|wpS_mono (wpS_forRange (I:=λk c t=>c=(none,())/\∃g',SBase a₀ t/\Gh a₀ g' (arrOf t)/\Fn g' k a₀.size/\BL κ a₀ g' (min k n)) (Q:=λc t=>c=(none,())/\∃g',SBase a₀ t/\Gh a₀ g' (arrOf t)/\BL κ a₀ g' n) ?_ ?_ ?_) ?_;rintro k c t Vv c_ ⟨rfl,g',B',G',T',V⟩;rw[show min k n=k by lia]at V;have hk:k<a₀.size:=by lia
 refine wpS_bind<|wpS_mono (wpS_forRange (I:=λx c t2=>t2=t/\∃l r,c=(none,l,r)/\l<=r/\r<=k/\r-l<=k-x/\(∀i,i<l->κ.kle (KK κ a₀<|g' i) (KK κ a₀<|g' k))/\(∀i,r<=i->i<k->κ.klt (KK κ a₀<|g' k) (KK κ a₀<|g' i))) (Q:=λc t2=>t2=t/\∃l r,c=(none,l,r)/\l<=k/\(∀i,i<l->κ.kle (KK κ a₀<|g' i) (KK κ a₀<|g' k))/\(∀i,l<=i->i<k->κ.klt (KK κ a₀<|g' k) (KK κ a₀<|g' i))) ?_ ?_ ?_) ?_;rintro x c t2 _ hxk ⟨rfl,l,r,rfl,rL,So,hm,lo,hi⟩;dsimp only;by_cases Xn:l>=r;rw[xL Xn];obtain rfl:l=r:=by lia
 exact wpS_pure ⟨rfl,l,l,rfl,So,lo,hi⟩;rw[xz Xn];refine wpS_bind<|wpS_ltKK hO B' h0 hk (by lia) ?_;rw[G'.key hk,G'.key<|by lia];cases hl:κ.blt (KK κ a₀<|g' k) (KK κ a₀<|g'<|(l+r)/2) with|true=>refine wpS_pure {rfl,l,(l+r)/2,rfl,by lia,by lia,by lia,lo,λi a b=>?_};by_cases z:i=(l+r)/2;rw[z];exact hl;exact KeyOrd.klt_of_klt_of_kle hl (V _ _ (by lia) b).kle|false=>refine wpS_pure {rfl,(l+r)/2+1,r,rfl,by lia,by lia,by lia,λi a=>?_,hi};by_cases z:i=(l+r)/2;rw[z];exact hl;exact KeyOrd.kle_trans (V i ((l+r)/2) (by lia)<|by lia).kle hl
 rintro c t2 ⟨rfl,l,r,rfl,rL,So,hm,lo,hi⟩;obtain rfl:l=r:=by lia
 exact⟨rfl,l,l,rfl,So,lo,hi⟩;exact{rfl,0,k,rfl,by lia,by lia,by lia,λi hi=>by lia,λi a b=>by lia};rintro c t2 ⟨rfl,l,r,rfl,LA,lo,hi⟩;show wpS _ _ _ _ (do moveDown' k l;pure (ForInStep.yield (none,()))) _ _;rw[moveDown'_eq];refine wpS_bind<|wpS_modify<|wpS_pure {rfl,_,B'.setArr<|bubble_perm _ _ _,G'.bubble B'.size LA hk,λx GC Lw=>?_,?_};show Lz g' k l x=x;unfold Lz;rw[xz<|by lia,xz<|by lia];exact T' x (by lia) Lw;rw[show min (k+1) n=k+1 by lia];have lw:∀i,i<k->g' i<k:=λi q=>G'.low T' (by lia) q;have ek:=T' k (zm _) hk;intro i j iw hj;show Log κ a₀ (Lz g' k l i) (Lz g' k l j);unfold Lz;by_cases i1:i=l;rw[xL i1,xz<|by lia,xL<|by lia];exact .inl<|hi _ (by lia) (by lia);rw[xz i1];by_cases j1:j=l;rw[xL j1,xz<|by lia];have h1:=lo i (by lia);have h2:=lw i (by lia);rw[ek]at h1⊢;exact Nu h1 h2;rw[xz j1];by_cases i2:l<i/\i<=k<;>by_cases j2:l<j/\j<=k;rw[xL i2,xL j2];exact V _ _ (by lia) (by lia);lia;rw[xz i2,xL j2];exact V _ _ (by lia) (by lia);rw[xz i2,xz j2];exact V _ _ (by lia) (by lia);rintro c t ⟨hc,g',B',G',T',V⟩;refine{hc,g',B',G',?_};rwa [show min (max (max ok 1) n) n=n by lia]at V;refine{rfl,g,B,G,λk hk c_=>T k (by lia) c_,λi j iw hj=>?_};exact U i j iw (by lia);rintro c t ⟨rfl,g',B',G',V⟩;exact wpS_pure<|h g' t B' G' V
def Qf(κ:KeyKind)(a₀:Array Keyed)(st:SortSt):Prop:=failedOf st=none/\pendingOf st=#[(0,a₀.size,0)]/\∃g,(arrOf st).size=a₀.size/\Gh a₀ g (arrOf st)/\BL κ a₀ g a₀.size
theorem Qg{st:SortSt}{Q:Unit->SortSt->η}(hO:κ.OneLt)(h0:KeysOf κ a₀)(B:SBase a₀ st)(e0:arrOf st=a₀)(h2:2<=a₀.size)(GF:a₀.size<64) (h:∀dH g,failedOf dH=none->(arrOf dH).size=a₀.size->Gh a₀ g (arrOf dH)->BL κ a₀ g a₀.size->Q () dH):wpS (model prog w) A E s sortRuns' Q st:=by
 have G:Gh a₀ (λk=>k) (arrOf st):={λk _=>by rw[e0],λk hk=>hk,λ_ _ _ _ e=>e};have fin:∀(t:SortSt)(g:π->π),SBase a₀ t->Gh a₀ g (arrOf t)->BL κ a₀ g a₀.size->Qf κ a₀ (setPending t<|(pendingOf t).push (0,a₀.size,0)):=λt g B' G' U=>{B'.failed,by show(pendingOf t).push _=_;rw[B'.pend];rfl,g,B'.size,G',U};rw[sortRuns'_eq];refine wpS_bind<|wpS_get ?_;dsimp only;have hm:minRun' a₀.size a₀.size 0=a₀.size:=by obtain⟨f,hf⟩:∃f,a₀.size=f+1:={a₀.size-1,by lia};have:minRun' (f+1) a₀.size 0=a₀.size:=(by rw[minRun'_succ,xL GF];rfl);rwa [<-hf]at this
 simp only[B.size,hm];refine wpS_bind<|wpS_mono (wpS_forRange (I:=λx c t=>(x=0/\c=(none,0)/\t=st)\/(1<=x/\c=(none,a₀.size)/\Qf κ a₀ t)) (Q:=λc t=>c=(none,a₀.size)/\Qf κ a₀ t) ?_ ?_<|.inl ⟨rfl,rfl,rfl⟩) ?_;rintro x c t _ hx (⟨rfl,rfl,rfl⟩|⟨GC,rfl,D⟩);dsimp only;rw[xz<|by lia];simp only[Nat.sub_zero,Nat.min_self,y6];refine wpS_bind<|Vt hO h0 (zm _) (by lia) B G (λ_ _ _=>rfl) λm g' t2 B2 G2 T2 hm1 Sn U2=>?_;dsimp only;by_cases dr:m<a₀.size;rw[xL dr];refine wpS_bind<|wpS_lift<|yW {rfl,?_};refine wpS_bind<|Vu hO h0 (zm _) Sn B2 G2 T2 U2 λg3 t3 B3 G3 U3=>?_;simp only[Bool.not_true,yo,if_false];refine wpS_bind<|wpS_get ?_;rw[show(pendingOf t3).back?=none by rw[B3.pend];rfl];dsimp only;exact wpS_bind<|wpS_modify<|wpS_pure<|.inr {by lia,rfl,fin t3 g3 B3 G3 U3};rw[xz dr];obtain rfl:m=a₀.size:=by lia
 refine wpS_bind<|wpS_get ?_;rw[show(pendingOf t2).back?=none by rw[B2.pend];rfl];dsimp only;exact wpS_bind<|wpS_modify<|wpS_pure<|.inr {by lia,rfl,fin t2 g' B2 G2 U2};dsimp only;rw[xL<|zm _];exact wpS_pure ⟨rfl,D⟩;rintro c t (⟨hx,_,_⟩|⟨_,hc,D⟩);lia;exact⟨hc,D⟩;rintro c t ⟨rfl,D⟩;dsimp only;obtain⟨d1,d2,g,d3,d4,d5⟩:=D;refine wpS_bind<|wpS_mono (wpS_forRange (I:=λ_ c t2=>t2=t/\c=(none,())) (Q:=λc t2=>t2=t/\c=(none,())) ?_ (λ_ _ z=>z) ⟨rfl,rfl⟩) ?_;rintro x c t2 _ _ ⟨rfl,rfl⟩;refine wpS_bind<|wpS_get ?_;rw[xL<|by rw[d2];exact zm 1];exact wpS_pure ⟨rfl,rfl⟩;rintro c t2 ⟨rfl,rfl⟩;exact wpS_pure<|h _ g d1 d3 d4 d5
end
noncomputable abbrev LB(X:Cx)(qual:ρ)(scope:Scope)(L f:ε)(cv:ξ):Env:=envX qual scope L f cv<|clOf X.env.cells scope.names
noncomputable def Sr(X:Cx)(N:δ ρ)(qual:ρ)(scope:Scope)(f:ε)(cv:ξ)(A:ϕ)(s:ζ)(H:Hp):Cx:={X with A:=A.deeper<|LB X qual scope s.heap.objs.size f cv,N:=N,cX:=s,uu:=H,env:=LB X qual scope s.heap.objs.size f cv,outer:=X.stack,stack:=LB X qual scope s.heap.objs.size f cv::X.stack,ex:=[],fn:=λ_=>false,calm:=true,pn:=[],xe:=λ_ _=>False}
noncomputable abbrev xh(X:Cx)(qual:ρ)(params:Arguments)(body:Δ)(scope:Scope)(pm cv kL:ξ):Obj:={cls:=.type "function",data:=.func<|kla_fn "<lambda>" qual params body scope (clOf X.env.cells scope.names) pm cv kL}
section
variable{X:Cx}{pins:δ (ε×Obj)}{σ:St}{H:Hp}{s:ζ}{N:δ ρ}{src:δ (θ π)}{scope:Scope}{params:Arguments}{body:Δ}{qual p:ρ}{pm cv kL u:ξ}{f:ε}{A:ϕ}{v:V}{te:TE}{Q:VK}
theorem LC(I:Inv X pins σ H s)(S:a_ X N src scope)(LD:N[0]?=some p)(hp:scope.names.lookup p=some .local)(h0:src[0]?=some none)(wx:A.frames=some X.stack)(hh:A.handled=none)(r:RelV v u) (Qh:h₁.Ns s.heap.objs.size λx=>[(p,u)].reverse.lookup x) (old:∀b o,s.heap.get? b=some o->h₁.get? b=some o): Inv (Sr X N qual scope f cv A s H) [] ((pick σ src).set 0<|some v) H {s with heap:=h₁,toks:=tk}:=by
 have ia:∀x c,(clOf X.env.cells scope.names).lookup x=some c->X.env.cells.lookup x=some c:=pV X.env.cells scope.names [] (by intro x c h;simp at h);have Ky:∀b:ε,b∉(Sr X N qual scope f cv A s H).ex:=λb z=>absurd (show b∈([]:δ ε) from z) (by simp);have AI:∀x,scope.names.lookup x=some .free->∃c,(clOf X.env.cells scope.names).lookup x=some c:=λx hl=>by have hm:=yu hl;obtain⟨c,KO⟩:=I.ok.has x<|S.AI _ hm rfl;exact{c,iL X.env.cells scope.names [] x c (by intro x c h;simp at h) hm KO}
 refine{{I.ok.mod,S.kind,rfl,rfl,zm _,λx y c h1 h2=>I.ok.inj x y c (ia _ _ h1)<|ia _ _ h2,λx hk=>?_,λx c h=>(nomatch h),λ_=>hh,Around.frames_deeper wx,.inr ⟨rfl,rfl⟩,λb z=>absurd z<|Ky b,I.bs,zG I.ok.Ke I.sz,λb _ _=>Ky b,λb z=>absurd z<|Ky b,I.stack,I.oQ},rfl,I.bare,Un.kept old,{_,Qh,λi x w e1 e2 e3=>?_},λx c e=>?_,I.aI.fresh<|zm _,λx c e=>I.fH x c<|ia x c e,λq hq=>absurd (show q∈([]:δ (ε×Obj)) from hq)<|by simp,I.aI.kept old,?_};have hk:scope.names.lookup x=some .cell\/scope.names.lookup x=some .free:=hk;rcases hk with hk|hk;exact absurd rfl<|S.fW _<|yu hk;exact AI x hk;have e1:N[i]?=some x:=e1;by_cases hi:i=0;subst hi;rw[LD]at e1;cases e1;have hl:0<(pick σ src).length:=by unfold pick;rw[za];exact(ze.mp h0).1
 rw[List.getElem?_set_self hl]at e2;cases e2;exact{u,r,.inl {hp,by simp[yg]}};rw[List.getElem?_set_ne<|Ne.symm hi]at e2;unfold pick at e2;rw[zp]at e2;cases es:src[i]? with|none=>(rw[es]at e2;cases e2)|some o=>rw[es]at e2;cases o with|none=>(cases e2)|some j=>have e3:(σ[j]?).join=some w:=zS e2;have e4:σ[j]?=some (some w):=(by cases q:σ[j]? with|none=>(rw[q]at e3;cases e3)|some z=>rw[q]at e3;exact congrArg some e3);obtain⟨a1,a2,a3⟩:=S.src i j x es e1;obtain⟨m0,_,hl⟩:=I.loc;obtain⟨u',r',l⟩:=hl j x w a1 e4 a3;have hm:=yu a2;have hk:=S.AI _ hm rfl;rcases l with⟨k,_⟩|⟨_,c,KO,⟨o,ho,hd⟩⟩;rcases hk with hk|hk<;>(rw[k]at hk;cases hk);exact{u',r',.inr {.inr a2,c,iL X.env.cells scope.names [] x c (by intro x c h;simp at h) hm KO,o,old _ _ ho,hd}}
 obtain⟨w,o,ho,hd⟩:=I.cell x c<|ia x c e;exact{w,o,old _ _ ho,hd};show((pick σ src).set 0<|some v).length=N.length;unfold pick;rw[List.length_set,za,S.len]
theorem HS(I:Inv X pins σ H s)(S:a_ X N src scope)(LD:N[0]?=some p)(hp:scope.names.lookup p=some .local)(h0:src[0]?=some none)(wx:A.frames=some X.stack)(hh:A.handled=none)(Vx:A.depth<recursionLimit)(r:RelV v u) (ho:s.heap.get? f=some (xh X qual params body scope pm cv kL)) (rH:s.heap.CodeRec cv qual) (LF:scope.isCoroutine=false) (BM:scope.isGenerator=false) (hb:bindArgs (kla_fn "<lambda>" qual params body scope (clOf X.env.cells scope.names) pm cv kL) {[u],[]}=pure [(p,u)]) (he:PE (Sr X N qual scope f cv A s H) body te) (h:te ((pick σ src).set 0<|some v) H Q): codeAny (model X.prog X.w) A (.call (.ref f) {[u],[]}) (λq s'=>∃w,q=.ok (.ret w)/\CE X.stack X.prog X.w H s Q w s') s:=by refine PySem.W.kla_callFunE Vx ho rfl LF BM rfl rH ?_;show wpAny _ _ (bindArgs (kla_fn "<lambda>" qual params body scope (clOf X.env.cells scope.names) pm cv kL) {[u],[]}) _ _ _;rw[hb];refine zo<|wpAny_newFunctionEnv S.fW (λx hx=>?_) (λh₁ Qh Dh=>{I.nolimit.fresh _ Dh,?_}) S.kind;rw[zI.mp hx];exact hp;have old:∀b o,s.heap.get? b=some o->h₁.get? b=some o:=λb o e=>Dh.extBut b o (zB<|zx e)<|zb _ e;show codeAny _ _ (.expr body<|LB X qual scope s.heap.objs.size f cv) _ _;refine PySem.W.kla_codeExpr<|yM (he [] _ _ H Q (LC I S LD hp h0 wx hh r Qh old) h) (by rintro w s' ⟨x,H',J,rv,q⟩;exact⟨w,rfl,x,H',J.os,J.bare,J.base,J.aI,rv,q⟩) λ_ _ z=>z.elim
end
@[reducible] def intK:KeyKind where
 α:=ν
 blt a b:=ω<|a<b
 irrefl a:=by simp
 trans a b c h1 h2:=by simp only[zK]at *;lia
 negTrans a b c h:=by simp only[zK]at *;lia
 total a b h1 h2:=by simp only[yw]at *;lia
 keyOf v:=match v with|.int x _=>some x|_=>none
 dflt:=0
theorem HU:intK.OneLt:=by intro prog w A E s x y a b Q ha hb h;cases x<;>simp only[intK,reduceCtorEq,Option.some.injEq]at ha;cases y<;>simp only[intK,reduceCtorEq,Option.some.injEq]at hb;cases ha;cases hb;exact oneLt_int h
structure Xo(κ:KeyKind)(b:χ)(key:π->κ.α)(n:π)(g:π->π):η where
 lt:∀k,k<n->g k<n
 inj:∀i j,i<n->j<n->g i=g j->i=j
 ord:∀i j,i<j->j<n->(if b=true then κ.klt (key<|g j) (key<|g i) else κ.klt (key<|g i) (key<|g j))\/(key (g i)=key (g j)/\g i<g j)
noncomputable def ie(κ:KeyKind)(us:δ ξ)(j:π):κ.α:=(κ.keyOf<|us.getD j .none).getD κ.dflt
theorem HV{us vs:δ ξ}(hl:us.length=vs.length){j:π}(hj:j<vs.length):(us.toArray.zip vs.toArray)[j]?=some (us.getD j .none,vs.getD j .none):=by have e:(us.zip vs)[j]?=some (us.getD j .none,vs.getD j .none):=List.getElem?_zip_eq_some.mpr {by show us[j]?=some (us.getD j .none);rw[zD,zf<|by lia];rfl,by show vs[j]?=some (vs.getD j .none);rw[zD,zf hj];rfl};rw[<-yr,ksk_zip,List.toList_toArray];exact e
theorem uR{κ:KeyKind}{us vs:δ ξ}(hl:us.length=vs.length){j:π}(hj:j<vs.length):KK κ (us.toArray.zip vs.toArray) j=ie κ us j:=by unfold KK ie;rw[HV hl hj]
theorem xj{l m:δ ξ}{n:π}(h1:l.length=n)(h2:m.length=n)(h:∀k,k<n->l[k]?=m[k]?):l=m:=by apply List.ext_getElem?;intro k;by_cases hk:k<n;exact h k hk;rw[List.getElem?_eq_none<|by lia,List.getElem?_eq_none<|by lia]
section
variable{prog:Ψ}{w:Ω}{A:ϕ}{E:ξ->ζ->η}{s:ζ}{a kS:ε}{b:χ}{us vs:δ ξ}{e e1:π}{P:PySem.Fin->ζ->η}{κ:KeyKind}
theorem Dz{st:SortSt}{keys:Array ξ}(hk:s.heap.get? kS=some (seqObj "list" keys e))(ha:s.heap.get? a=some (seqObj "list" #[] e1))(Qi:kS≠a)(hz:keys.size<64)(HW:(arrOf st).size<64)(Ux:failedOf st=none) (h:∀h' c,(∀b o,b≠a->b≠kS->s.heap.get? b=some o->h'.get? b=some o)->h'.get? a=some (seqObj "list" (if b then ((arrOf st).map (·.2)).reverse else (arrOf st).map (·.2)) c)->P (.done<|.ret .none) {s with heap:=h'}): wpAny (model prog w) A (ksk_tail a b e1 (.ref kS) st) P E s:=by
 have s1:=yy s.heap kS<|Obj.mapSeq λ_=>(#[]:Array ξ);have ZT:(s.heap.update kS<|Obj.mapSeq λ_=>(#[]:Array ξ)).get? a=some (seqObj "list" #[] e1):=(s1.2 a Qi.symm).trans ha;have BN:∀o:Array ξ,o=(if b then ((arrOf st).map (·.2)).reverse else (arrOf st).map (·.2))->o.size<64:=by rintro o rfl;cases b with|false=>rw[xz zd,yV];exact HW|true=>rw[xL rfl,Array.size_reverse,yV];exact HW
 generalize ho:(if b then ((arrOf st).map (·.2)).reverse else (arrOf st).map (·.2))=out at h BN;have BN:=BN out rfl;have s2:=yy (s.heap.update kS<|Obj.mapSeq λ_=>(#[]:Array ξ)) a<|Obj.mapSeq λ_=>out;obtain⟨c2,ZU⟩:∃c2,((s.heap.update kS<|Obj.mapSeq λ_=>(#[]:Array ξ)).update a<|Obj.mapSeq λ_=>out).get? a=some (seqObj "list" out c2):={_,get?_update_seq ZT λ_=>out};unfold ksk_tail;try dsimp only
 refine zc<|listUpdate_at hk rfl ?_ (by rw[yj];lia)<|zY _;refine zc<|wpAny_letGo ?_;refine zc<|seqEpoch_at ZT rfl ?_;rw[ho];refine zc<|listUpdate_at ZT rfl ?_ (zY _)<|zG (yO BN) (by rw[yj];lia);rw[Ux];simp only[bne_self_eq_false,yo,if_false];exact zo<|h _ c2 (λb o h1 h2 q=>(s2.2 b h1).trans<|(s1.2 b h2).trans q) ZU
theorem HX{xs:Array Keyed}{g:π->π}(hl:us.length=vs.length)(hs:xs.size=vs.length) (G:Gh (if b=true then (us.toArray.zip vs.toArray).reverse else us.toArray.zip vs.toArray) g xs) (U:BL κ (if b=true then (us.toArray.zip vs.toArray).reverse else us.toArray.zip vs.toArray) g vs.length): ∃g',Xo κ b (ie κ us) vs.length g'/\(if b then (xs.map (·.2)).reverse else xs.map (·.2)).toList=(List.range vs.length).map λk=>vs.getD (g' k) .none:=by
 have wC:(us.toArray.zip vs.toArray).size=vs.length:=by rw[Array.size_zip,zr,zr,hl,Nat.min_self]
 have zat:∀k,k<vs.length->(us.toArray.zip vs.toArray)[k]?=some (us.getD k .none,vs.getD k .none):=λk hk=>HV hl hk;cases b with|false=>rw[xz zd]at G U;refine{g,{λk hk=>by have:=G.lt k (by rw[wC];exact hk);rwa [wC]at this,λi j hi hj=>G.inj i j (by rw[wC];exact hi)<|by rw[wC];exact hj,λi j iw hj=>?_},?_};have h1:=G.lt i (by rw[wC];lia);have h2:=G.lt j (by rw[wC];lia);rw[wC]at h1 h2;have:=U i j iw hj;unfold Log at this;rw[uR hl h1,uR hl h2]at this;rw[xz zd];exact this;rw[xz zd];refine xj (n:=vs.length) (by rw[zT,yV,hs]) (by simp) λk hk=>?_;have h1:=G.lt k (by rw[wC];lia);rw[wC]at h1;rw[yr,Array.getElem?_map,G.at_ k<|by rw[wC];exact hk,zat _ h1,zp,List.getElem?_range hk];rfl|true=>rw[xL rfl]at G U;have rM:(us.toArray.zip vs.toArray).reverse.size=vs.length:=(by rw[Array.size_reverse,wC]);have lt:∀k,k<vs.length->g k<vs.length:=λk hk=>(by have:=G.lt k (by rw[rM];exact hk);rwa [rM]at this);have rat:∀k,k<vs.length->(us.toArray.zip vs.toArray).reverse[k]?=(us.toArray.zip vs.toArray)[vs.length-1-k]?:=λk hk=>(by rw[Array.getElem?_reverse<|by rw[wC];exact hk,wC]);refine{λk=>vs.length-1-g (vs.length-1-k),{λk hk=>by have:=lt (vs.length-1-k) (by lia);lia,λi j hi hj e=>?_,λi j iw hj=>?_},?_};have h1:=lt (vs.length-1-i) (by lia);have h2:=lt (vs.length-1-j) (by lia);have:=G.inj (vs.length-1-i) (vs.length-1-j) (by rw[rM];lia) (by rw[rM];lia) (by lia);lia;have h1:=lt (vs.length-1-i) (by lia);have h2:=lt (vs.length-1-j) (by lia);have:=U (vs.length-1-j) (vs.length-1-i) (by lia) (by lia);unfold Log at this;have e1:KK κ (us.toArray.zip vs.toArray).reverse (g<|vs.length-1-i)=ie κ us (vs.length-1-g (vs.length-1-i)):=(KK_congr<|rat _ h1).trans<|uR hl (by lia);have e2:KK κ (us.toArray.zip vs.toArray).reverse (g<|vs.length-1-j)=ie κ us (vs.length-1-g (vs.length-1-j)):=(KK_congr<|rat _ h2).trans<|uR hl (by lia);rw[e1,e2]at this;rw[xL rfl];rcases this with z|⟨z1,z2⟩;exact .inl z;exact .inr {z1.symm,by lia};rw[xL rfl];refine xj (n:=vs.length) (by rw[zT,Array.size_reverse,yV,hs]) (by simp) λk hk=>?_;have h1:=lt (vs.length-1-k) (by lia);rw[yr,Array.getElem?_reverse<|by rw[yV,hs];exact hk,yV,hs,Array.getElem?_map,G.at_ _<|by rw[rM];lia,rat _ h1,zat _<|by lia,zp,List.getElem?_range hk];rfl
theorem Qj(hO:κ.OneLt)(hk:s.heap.get? kS=some (seqObj "list" us.toArray e))(ha:s.heap.get? a=some (seqObj "list" #[] e1))(Qi:kS≠a)(hl:us.length=vs.length)(GF:vs.length<64)(h0:∀u∈us,∃x,κ.keyOf u=some x) (hkk:∀mG mH rest,us=mG::mH::rest->keyKind' (mG::mH::rest).toArray=pure oneType') (h:∀h' c g out,(∀b o,b≠a->b≠kS->s.heap.get? b=some o->h'.get? b=some o)->h'.get? a=some (seqObj "list" out c)->Xo κ b (ie κ us) vs.length g->out.toList=(List.range vs.length).map (λk=>vs.getD (g k) .none)->P (.done<|.ret .none) {s with heap:=h'}): wpAny (model prog w) A (ksk_end a b vs.toArray e1 (.ref kS) us.toArray) P E s:=by
 have wC:(us.toArray.zip vs.toArray).size=vs.length:=by rw[Array.size_zip,zr,zr,hl,Nat.min_self]
 have step:∀t:Sem PySem.Fin,wpAny (model prog w) A t P E s->wpAny (model prog w) A (if b=true then (do let _ <-rule "list.sort.reverse";t) else t) P E s:=by intro t ht;split;exact zc<|yW ht;exact ht
 have hsz:(if b=true then (us.toArray.zip vs.toArray).reverse else us.toArray.zip vs.toArray).size=vs.length:=by cases b with|false=>exact wC|true=>rw[xL rfl,Array.size_reverse,wC]
 have keys:KeysOf κ (if b=true then (us.toArray.zip vs.toArray).reverse else us.toArray.zip vs.toArray):=λp hp=>by have hp:p∈us.zip vs:=(by have e2:(us.toArray.zip vs.toArray).toList=us.zip vs:=(by rw[ksk_zip]);cases b with|false=>rw[xz zd,e2]at hp;exact hp|true=>rw[xL rfl,Array.toList_reverse,e2]at hp;exact List.mem_reverse.mp hp);obtain⟨x,y⟩:=p;exact h0 _ (List.of_mem_zip hp).1
 unfold ksk_end;try dsimp only
 refine step _ ?_;by_cases h2:vs.toArray.size<2;{rw[xL h2,xL h2];refine zc<|zo ?_;rw[StateT.run_pure];refine zc<|zo ?_;(try dsimp only);rw[zr]at h2;refine Dz (st:=SortSt.mk' general' (if b=true then (us.toArray.zip vs.toArray).reverse else us.toArray.zip vs.toArray) #[] 7 none) hk ha Qi (by rw[zr];lia) (by show(if b=true then (us.toArray.zip vs.toArray).reverse else us.toArray.zip vs.toArray).size<64;lia) rfl λh' c k1 k2=>?_;obtain⟨g,g1,g2⟩:=HX (κ:=κ) (b:=b) (xs:=if b=true then (us.toArray.zip vs.toArray).reverse else us.toArray.zip vs.toArray) (g:=λk=>k) hl hsz {λ_ _=>rfl,λ_ hk=>hk,λ_ _ _ _ e=>e} (λi j iw hj=>by lia);exact h h' c g _ k1 k2 g1 g2};{rw[xz h2,xz h2];rw[zr]at h2;obtain⟨mG,mH,rest,eu⟩:∃mG mH rest,us=mG::mH::rest:=(by match us,hl with|[],hl=>simp at hl;lia|[_],hl=>simp at hl;lia|mG::mH::rest,_=>exact⟨mG,mH,rest,rfl⟩);have ek:keyKind' us.toArray=pure oneType':=(by rw[eu];exact hkk _ _ _ eu);rw[ek];refine zc<|zo ?_;refine zc<|yM (Qg (κ:=κ) hO (a₀:=if b=true then (us.toArray.zip vs.toArray).reverse else us.toArray.zip vs.toArray) (st:=SortSt.mk' oneType' (if b=true then (us.toArray.zip vs.toArray).reverse else us.toArray.zip vs.toArray) #[] 7 none) (Q:=λ_ dH=>failedOf dH=none/\(arrOf dH).size=vs.length/\∃g,Gh (if b=true then (us.toArray.zip vs.toArray).reverse else us.toArray.zip vs.toArray) g (arrOf dH)/\BL κ (if b=true then (us.toArray.zip vs.toArray).reverse else us.toArray.zip vs.toArray) g vs.length) keys {Array.Perm.refl _,rfl,rfl,rfl} rfl (by lia) (by lia) λdH g q1 q2 q3 q4=>{q1,q2.trans hsz,g,q3,by rw[hsz]at q4;exact q4}) ?_ λ_ _ e=>e;rintro⟨⟨⟩,dH⟩ s' ⟨rfl,hf,iE,g,G,U⟩;(try dsimp only);have iE:(arrOf dH).size=vs.length:=iE;refine Dz hk ha Qi (by rw[zr];lia) (by lia) hf λh' c k1 k2=>?_;obtain⟨g',g1,g2⟩:=HX (κ:=κ) hl iE G U;exact h h' c g' _ k1 k2 g1 g2}
end
structure Nz(X:Cx)(pins:δ (ε×Obj))(b:ε):η where
 loc:b≠X.env.locals
 fs:b∉X.fs
 cell:∀x c,X.env.cells.lookup x=some c->c≠b
 pin:∀p∈X.pn++pins,p.1≠b
 new:X.cX.heap.objs.size<=b
section
variable{X:Cx}{pins:δ (ε×Obj)}{σ:St}{H:Hp}{s:ζ}
theorem Inv.Xp(I:Inv X pins σ H s)(h:s.heap.objs.size<=b):Nz X pins b:={yA<|zt I.lt h,I.Tf h,λx c e=>by obtain⟨v,q⟩:=I.cell x c e;exact zB<|zt q.lt h,λp hp=>zB<|zt (zx (I.pin p hp).1) h,zG I.sz h}
theorem Inv.LG(I:Inv X pins σ H s)(kp:∀b o,b≠a->b≠k->s.heap.get? b=some o->h'.get? b=some o)(ha:H a=none)(hk:H k=none)(Aa:Nz X pins a)(Ak:Nz X pins k):Inv X pins σ H {s with heap:=h',toks:=t'}:=by have OB:∀b u,H b=some u->b≠a/\b≠k:=λb u e=>{λz=>(by rw[z,ha]at e;cases e),λz=>(by rw[z,hk]at e;cases e)};refine I.step (g':=s.gens) (d':=s.drawn) (ch:=[a,k]) (λb hb=>?_) (λb o _ _ hc e _=>kp b o (λz=>hc<|by simp[z]) (λz=>hc<|by simp[z]) e) (λb o _ _ hc e _=>{o.slots,kp b o (λz=>hc<|by simp[z]) (λz=>hc<|by simp[z]) e}) (λ_ _ _ _ n=>n) (λb o hc e=>{o,kp b o (λz=>hc<|by simp[z]) (λz=>hc<|by simp[z]) e}) (λ_ _ e=>e) (λ_ _ _ e=>e) (λb ps e=>{#[],by rw[e];simp}) (λm hm=>?_) (λb u e=>?_) I.bare;simp only[zk,zP,or_false]at hb;rcases hb with rfl|rfl;exact{.inr Aa.new,Aa.loc,Aa.cell,Aa.pin};exact{.inr Ak.new,Ak.loc,Ak.cell,Ak.pin};obtain⟨o,es,ep,ho,r⟩:=hm;exact{o,es,ep,kp _ o (Ne.symm Aa.loc) (Ne.symm Ak.loc) ho,r};refine(I.aI b u e).oq (λc v hc q=>?_) (λ_ q=>q) λ_ _ q=>q;rcases hc with z|z;rw[z]at q⊢;exact kp b v (OB b u e).1 (OB b u e).2 q;exact kp c v (OB c _ z).1 (OB c _ z).2 q
theorem Inv.Vy(I:Inv X pins σ H s)(ha:H a=none)(A:Nz X pins a)(new:aS X.prog X.w (upd H a o) s.heap a o):Inv X pins σ (upd H a o) s:=by refine I.step (h':=s.heap) (g':=s.gens) (d':=s.drawn) (t':=s.toks) (ch:=[a]) (λb hb=>?_) (λb o _ _ hc e _=>e) (λb o _ _ hc e _=>⟨o.slots,e⟩) (λb u hc e n=>?_) (λb o hc e=>⟨o,e⟩) (λb xs e=>?_) (λb u v e=>?_) (λb ps e=>?_) (λm hm=>hm) (λb u e=>?_) I.bare;rw[zI.mp hb];exact{.inr A.new,A.loc,A.cell,A.pin};rw[av λz=>hc<|by simp[z]];exact n;rw[av<|aC e ha];exact e;rw[av<|aC e ha];exact e;exact{#[],by rw[av<|aC e ha,e];simp};by_cases hb:b=a;subst hb;rw[aB]at e;cases e;exact new;rw[av hb]at e;exact(I.aI b u e).oq (λc v _ q=>q) (λc q=>by rw[av<|aC q ha];exact q) λc xs q=>by rw[av<|aC q ha];exact q
end
def HY(X:Cx)(pins:δ<|ε×Obj)(σ:St)(A:ϕ)(f:ε)(xs:δ V)(W:π->δ V->Hp->η):Prop:=∀i x u ks s' H' more,Inv X (pins++more) σ H' s'->W i ks H'->xs[i]?=some x->RelV x u->codeAny (model X.prog X.w) A (.call (.ref f) {[u],[]}) (λq A9=>∃w,q=.ok (.ret w)/\CE X.stack X.prog X.w H' s' (λk H''=>W (i+1) (ks++[k]) H'') w A9) s'
structure NA(κ:KeyKind)(us:δ ξ):η where
 all:∀u∈us,∃x,κ.keyOf u=some x
 kind:∀mG mH rest,us=mG::mH::rest->keyKind' (mG::mH::rest).toArray=pure oneType'
section
variable{X:Cx}{pins:δ (ε×Obj)}{σ:St}{H:Hp}{s:ζ}{A:ϕ}{E:ξ->ζ->η}{xs:δ V}{vs:δ ξ}{f:ε}{b:χ}{κ:KeyKind}{W:π->δ V->Hp->η}
theorem Fp{P:PySem.Fin->ζ->η}(hO:κ.OneLt)(I:Inv X pins σ H s)(ha:s.heap.get? a=some (seqObj "list" #[] e1))(hk:s.heap.get? kS=some (seqObj "list" #[] 0))(Qi:kS≠a)(na:H a=none)(nk:H kS=none)(Aa:Nz X pins a)(Ak:Nz X pins kS) (hv:Vals xs vs) (GF:vs.length<64) (T:HY X pins σ A f xs W) (w0:W 0 [] H) (G:∀ks us H',W vs.length ks H'->Vals ks us->ks.length=vs.length->NA κ us) (h:∀s' H' ks us c g out,Inv X pins σ H' s'->H' a=none->s'.heap.get? a=some (seqObj "list" out c)->W vs.length ks H'->Vals ks us->ks.length=vs.length->Xo κ b (ie κ us) vs.length g->out.toList=(List.range vs.length).map (λk=>vs.getD (g k) .none)->P (.done<|.ret .none) s'): wpAny (model X.prog X.w) A (ksk_rest a (.ref f) b vs.toArray e1<|.ref kS) P E s:=by
 have nc:∀(k:Array ξ) (n:π) (v:θ ξ),(seqObj "list" k n).data≠.cell v:=λ_ _ _ z=>nomatch z;unfold ksk_rest;refine zc<|yW ?_;rw[List.forIn_toArray];refine zc<|ksk_fold (λi s'=>∃ks kA e H',Inv X pins σ H' s'/\W i ks H'/\Vals ks kA.toList/\ks.length=i/\H' a=none/\H' kS=none/\s'.heap.get? a=some (seqObj "list" #[] e1)/\s'.heap.get? kS=some (seqObj "list" kA e)) vs 0 s {[],#[],0,H,I,w0,.nil,rfl,na,nk,ha,hk} ?_ ?_;rintro j x s' hx ⟨ks,kA,e,H',I',w',v',l',Xq,ZV,ZW,KP⟩;simp only[y6]at l' w'⊢;have hj:j<vs.length:=(ze.mp hx).1;have hl:xs.length=vs.length:=hv.length;obtain⟨y,hy⟩:∃y,xs[j]?=some y:={_,zf<|by lia};obtain⟨u,hu,ru⟩:=hv.get hy;rw[hx]at hu;cases hu;have Ip:Inv X (pins++[(a,seqObj "list" #[] e1),(kS,seqObj "list" kA e)]) σ H' s':=by refine{I'.ok,I'.os,I'.bare,I'.base,I'.loc,I'.cell,I'.free,I'.fH,λp hp=>?_,I'.aI,I'.len};rcases zN.mp hp with hp|hp;exact I'.pin p<|zV _ hp;rcases zN.mp hp with hp|hp;exact I'.pin p<|zC _ hp;simp only[zk,zP,or_false]at hp;rcases hp with rfl|rfl;exact{ZW,Xq,Aa.loc,Aa.fs,nc _ _};exact{KP,ZV,Ak.loc,Ak.fs,nc _ _}
 have hz:kA.size=j:=by have h1:ks.length=kA.toList.length:=v'.length;have h2:kA.toList.length=kA.size:=zT;lia
 refine zc<|wpAny_attempt<|wpAny_call<|yZ (T j y x ks s' H' _ Ip w' hy ru) λr s2 hq=>?_;obtain⟨w,rfl,ce⟩:=hq;obtain⟨k,H2,I2,rk,w2⟩:=Ip.after ce;dsimp only;have pa:=I2.pin (a,seqObj "list" #[] e1)<|zC _<|zC _ (by simp);have pk:=I2.pin (kS,seqObj "list" kA e)<|zC _<|zC _ (by simp);have I3:Inv X pins σ H2 s2:={I2.ok,I2.os,I2.bare,I2.base,I2.loc,I2.cell,I2.free,I2.fH,λp hp=>I2.pin p<|by rcases zN.mp hp with z|z;exact zV _ z;exact zC _<|zV _ z,I2.aI,I2.len};have s1:=yy s2.heap kS (Obj.mapSeq (·.push w));obtain⟨c2,ZU⟩:∃c2,(s2.heap.update kS (Obj.mapSeq (·.push w))).get? kS=some (seqObj "list" (kA.push w) c2):={_,get?_update_seq pk.1 (·.push w)};refine zc<|listUpdate_at pk.1 rfl ?_ (by rw[yj];lia)<|zG (Nat.le_of_eq<|Array.size_push ..) (by rw[yj];lia);refine zo {rfl,ks++[k],kA.push w,c2,H2,I3.turned (t':=s2.toks) (it:=kS) (λb o hb q=>(s1.2 b hb).trans q) pk.2.1 Ak.loc (.inr Ak.new) Ak.cell Ak.pin,w2,?_,by simp[l'],pa.2.1,pk.2.1,(s1.2 a Qi.symm).trans pa.1,ZU};rw[show(kA.push w).toList=kA.toList++[w] by simp];exact v'.append<|.cons rk .nil;rintro s' ⟨ks,kA,e,H',I',w',v',l',Xq,ZV,ZW,KP⟩;simp only[y6]at l' w';refine zc<|listItems_at KP rfl ?_;have eA:kA=kA.toList.toArray:=by simp
 have good:=G ks kA.toList H' w' v' l';have hl:kA.toList.length=vs.length:=by have h1:ks.length=kA.toList.length:=v'.length;lia
 rw[eA]at KP;show wpAny _ _ (ksk_end a b vs.toArray e1 (.ref kS) kA) _ _ _;rw[eA];refine Qj (κ:=κ) hO KP ZW Qi hl GF good.all good.kind λh' c g out k1 k2 k3 k4=>?_;exact h _ H' ks kA.toList c g out (I'.LG (t':=s'.toks) k1 Xq ZV Aa Ak) Xq k2 w' v' l' k3 k4
theorem tN(hO:κ.OneLt)(I:Inv X pins σ H s)(hl:iu X.K H l xs)(GF:xs.length<64)(Xr:argsOk "sorted" {[.ref l],kw})(Xs:∀x,argsOk "list.sort" {[.ref x],kw})(ht:∀x,Builtin.«list.sort» {[.ref x],kw}=ksk_tree x (.ref f) b) (T:HY X pins σ A.in1.in1 f xs W) (w0:W 0 [] H) (G:∀ks us H',W xs.length ks H'->Vals ks us->ks.length=xs.length->NA κ us) (h:∀H' ks us g D,W xs.length ks H'->Vals ks us->ks.length=xs.length->Xo κ b (ie κ us) xs.length g->H' D=none->Q (.ref D) (upd H' D<|.lst<|(List.range xs.length).map λk=>xs.getD (g k) .au)): wpAny (model X.prog X.w) A (call (.builtin "sorted") [.ref l] kw) (EP X pins σ Q) E s:=by
 obtain⟨vs,hv,pl,_⟩:=I.list hl;have Ss:xs.length=vs.length:=hv.length;rw[Ss]at GF G h;refine call_function_entry_kw kind_sorted plain_sorted entry_sorted Xr ?_;unfold Builtin.«sorted»;refine zc (m:=checkCount "sorted" 1 1 _)<|zo ?_;refine zc<|collect_list pl.isList ?_ (by rw[yj];lia);refine zc<|wpAny_newList ?_ (by rw[yj];lia);have hsz:((s.heap.push<|seqObj "list" #[] 0).update s.heap.objs.size (Obj.mapSeq (·++vs.toArray))).objs.size=s.heap.objs.size+1:=by rw[Heap.size_update,size_push']
 have Gs:(((s.heap.push<|seqObj "list" #[] 0).update s.heap.objs.size (Obj.mapSeq (·++vs.toArray))).push<|seqObj "list" vs.toArray 0).get? (s.heap.objs.size+1)=some (seqObj "list" vs.toArray 0):=by rw[<-hsz];exact zi _ rfl
 have keep:∀b o,s.heap.get? b=some o->(((s.heap.push<|seqObj "list" #[] 0).update s.heap.objs.size (Obj.mapSeq (·++vs.toArray))).push<|seqObj "list" vs.toArray 0).get? b=some o:=λb o q=>by have dr:b<s.heap.objs.size:=zx q;rw[Heap.get?_push_ne _ _ _<|by rw[hsz];exact zB<|Nat.lt_succ_of_lt dr,Heap.get?_update_ne _ _ _ _<|zB dr,Heap.get?_push_ne _ _ _<|zB dr];exact q
 show wpAny _ _ _ _ _ {s with heap:=((s.heap.push<|seqObj "list" #[] 0).update s.heap.objs.size (Obj.mapSeq (·++vs.toArray))).push<|seqObj "list" vs.toArray 0};rw[hsz];generalize hg:((s.heap.push<|seqObj "list" #[] 0).update s.heap.objs.size (Obj.mapSeq (·++vs.toArray))).push (seqObj "list" vs.toArray 0)=h1 at Gs keep⊢;have I1:Inv X pins σ H {s with heap:=h1}:=I.kept (t':=s.toks) keep;have Aa:Nz X pins (s.heap.objs.size+1):=I.Xp<|y4 _;have na:H (s.heap.objs.size+1)=none:=I.aI.fresh<|y4 _;generalize s.heap.objs.size+1=a at Gs Aa na⊢;refine zc<|yD<|wpAny_call_entry_kw slot_list_sort {_,Gs,rfl} entry_list_sort ?_<|Xs _;show wpAny (model X.prog X.w) A.in1.in1 (Builtin.«list.sort» {[.ref a],kw}) _ _ _;rw[ht a];have s1:=yy h1 a<|Obj.mapSeq λ_=>(#[]:Array ξ);obtain⟨e1,Su⟩:∃e1,(h1.update a<|Obj.mapSeq λ_=>(#[]:Array ξ)).get? a=some (seqObj "list" #[] e1):={_,get?_update_seq Gs λ_=>#[]};have I2:Inv X pins σ H {s with heap:=h1.update a<|Obj.mapSeq λ_=>(#[]:Array ξ)}:=Inv.turned (s:={s with heap:=h1}) (h':=h1.update a<|Obj.mapSeq λ_=>(#[]:Array ξ)) (t':=s.toks) (it:=a) I1 (λb o hb q=>(s1.2 b hb).trans q) na Aa.loc (.inr Aa.new) Aa.cell Aa.pin;unfold ksk_tree;refine zc<|listItems_at Gs rfl ?_;refine zc<|listUpdate_at Gs rfl ?_ (by rw[zr,yj];lia)<|zY _;refine zc<|seqEpoch_at Su rfl ?_;refine zc<|wpAny_newTuple ?_ (by show vs.length<=_;rw[yj];lia);refine zc<|wpAny_newList ?_<|zY _;refine yD ?_;generalize h1.update a (Obj.mapSeq λ_=>(#[]:Array ξ))=h2 at Su I2⊢;have k3:∀b u,h2.get? b=some u->((h2.push<|seqObj "tuple" vs.toArray 0).push<|seqObj "list" #[] 0).get? b=some u:=λb u q=>zb _<|zb _ q;have I3:Inv X pins σ H {s with heap:=(h2.push<|seqObj "tuple" vs.toArray 0).push<|seqObj "list" #[] 0}:=I2.kept (t':=s.toks) k3;have AL:h2.objs.size<=(h2.push<|seqObj "tuple" vs.toArray 0).objs.size:=by rw[size_push'];exact y4 _
 refine Fp (s:={s with heap:=(h2.push<|seqObj "tuple" vs.toArray 0).push<|seqObj "list" #[] 0}) (kS:=(h2.push<|seqObj "tuple" vs.toArray 0).objs.size) hO I3 (k3 _ _ Su) (zi _ rfl) (yA<|zt (zx Su) AL) na (I2.aI.fresh AL) Aa (I2.Xp AL) hv GF T w0 G λs' H' ks us c g out J n1 o1 w1 v1 l1 q1 q2=>{.none,rfl,?_};refine zo !{.ref a,_,J.Vy (o:=.lst<|(List.range vs.length).map λk=>xs.getD (g k) .au) n1 Aa {?_,out.toList,c,?_,?_},rfl,h H' ks us g a w1 v1 l1 q1 n1};rw[za,List.length_range,yj];lia;rw[q2];have:∀(ns:δ π),(∀k∈ns,g k<vs.length)->Vals (ns.map λk=>xs.getD (g k) .au) (ns.map λk=>vs.getD (g k) .none):=λns=>by induction ns with|nil=>exact λ_=>.nil|cons k ns ih=>intro hk;have ZX:=hk k zj;obtain⟨y,hy⟩:∃y,xs[g k]?=some y:={_,zf<|by lia};obtain⟨u,hu,ru⟩:=hv.get hy;refine .cons ?_<|ih λk c_=>hk k<|zh _ c_;show RelV (xs.getD (g k) .au) (vs.getD (g k) .none);rw[zD,hy,zD,hu];exact ru
 exact this _ λk hk=>q1.lt k<|zU.mp hk;rw[o1]
end
def Bm(mg:ρ->θ ξ)(base:Γ):Prop:=∃bm o,mg "__builtins__"= some (.ref bm)/\bm≠builtinsNs/\base.get? bm=some o/\o.cls=.type "module"/\o.dict=some builtinsNs/\o.data=.plain
structure ZY(K:Φ)(mg:ρ->θ ξ)(base:Γ)(c P:ε):η where
 hd:codeHdIn K c P=true
 bm:Bm mg base
theorem BO{pos p2:Pos}{c cv:ξ}(l:δ ξ)(h:TriplesOk l)(e:codeAmong pos (l++[rawInt p2.line,rawInt p2.col,c])=some cv):codeAmong pos l=some cv\/cv=c:=by fun_induction TriplesOk l with|case1=>(simp only[List.nil_append,rawInt,codeAmong]at e;split at e;cases e;exact .inr rfl;cases e)|case2 a t b u x rest ih=>simp only[List.cons_append,codeAmong]at e⊢;split at e;rename_i hc;rw[xL hc];exact .inl e;rename_i hc;rw[xz hc];exact ih h e|case3 l h1 h2=>exact h.elim
section
variable{X:Cx}{pins:δ (ε×Obj)}{σ:St}{H:Hp}{s:ζ}
theorem Inv.tab{h':Γ}{tk:π}{P c:ε}{ps Sv:Array ξ}{oc fo:Obj}(I:Inv X pins σ H s)(hP:H P=some (.oP ps))(hx:Heap.ExtBut P s.heap h')(h1:s.heap.objs.size<=c)(h2:c<h'.objs.size)(hc:h'.get? c=some oc)(hp:h'.get? P=some (tabObj<|ps++Sv)): Inv X pins σ (upd (upd H P<|.oP<|ps++Sv) c<|.jA oc<|.own 0) {s with heap:=h'.push fo,toks:=tk}:=by
 have hcP:c≠P:=λz=>absurd (zt (I.aI.lt hP)<|z ▸ h1)<|yG _;have nc:H c=none:=I.aI.fresh h1;have other:∀b,b≠P->b≠c->upd (upd H P<|.oP<|ps++Sv) c (.jA oc<|.own 0) b=H b:=λb z1 z2=>by rw[av z2,av z1]
 have nP:∀b o,H b=some o->(∀q,o≠.oP q)->b≠P:=λb o e z q=>by rw[q,hP]at e;cases e;exact z _ rfl
 have ZZ:∀b,H b=none->b≠P:=λb e q=>by rw[q,hP]at e;cases e
 have lt:∀b o,s.heap.get? b=some o->b≠c:=λb o e=>zB<|zt (zx e) h1;refine I.un (h':=h'.push fo) {λb o e n _ _=>zb _<|hx b o (ZZ b n) e,λb o e n _ _=>{o.slots,zb _<|hx b o (ZZ b n) e},λb o e n _=>by rw[other b (ZZ b n)<|lt b o e];exact n,λb o e _=>?_,λb xs e=>by rw[other b (nP b _ e λ_=>nofun)<|aC e nc];exact e,λb o u e=>by rw[other b (nP b _ e λ_=>nofun)<|aC e nc];exact e,λb q e=>?_} λb u e=>?_;by_cases hb:b=P;rw[hb];exact{_,zb _ hp};exact{o,zb _<|hx b o hb e};by_cases hb:b=P;subst hb;rw[hP]at e;cases e;exact{Sv,by rw[av<|Ne.symm hcP,aB]};exact{#[],by rw[other b hb<|aC e nc,e];simp};by_cases Sw:b=c;subst Sw;rw[aB]at e;cases e;exact{zb _ hc,_,zb _ hc};rw[av Sw]at e;by_cases hb:b=P;subst hb;rw[aB]at e;cases e;exact zb _ hp;rw[av hb]at e;refine(I.aI b u e).oq (λd v hd q=>?_) (λd q=>by rw[other d (nP d _ q λ_=>nofun)<|aC q nc];exact q) λd xs q=>by rw[other d (nP d _ q λ_=>nofun)<|aC q nc];exact q
 rcases hd with rfl|hd;exact zb _<|hx d v hb q;exact zb _<|hx d v (nP d _ hd λ_=>nofun) q
theorem Inv.DB(I:Inv X pins σ H s)(ho:s.heap.get? f=some o)(hn:H f=none)(A:Nz X pins f)(d:∀v,o.data≠.cell v):Inv X (pins++[(f,o)]) σ H s:=by refine{I.ok,I.os,I.bare,I.base,I.loc,I.cell,I.free,I.fH,λp hp=>?_,I.aI,I.len};rcases zN.mp hp with hp|hp;exact I.pin p<|zV _ hp;rcases zN.mp hp with hp|hp;exact I.pin p<|zC _ hp;rw[zI.mp hp];exact⟨ho,hn,A.loc,A.fs,d⟩
structure Vz(X:Cx)(pins:δ (ε×Obj))(σ:St)(H H':Hp)(P:ε)(q:ρ)(params:Arguments)(body:Δ)(scope:Scope)(u:ξ)(s':ζ)(f:ε)(pm cv kL:ξ):η where
 u:u=.ref f
 inv:Inv X (pins++[(f,xh X q params body scope pm cv kL)]) σ H' s'
 code:∃c o vs t,cv=.ref c/\H' c=some (.jA o<|.own 0)/\o.data=.fields vs/\vs[1]?=some (.str q t)
 same:∀b,H' b=H b\/(b=P/\∃ps,H' b=some (.oP ps)/\Dk H' q ps)\/(H b=none/\∃o,H' b=some (.jA o<|.own 0))
theorem xk{M:Model}{A:ϕ}{E:ξ->ζ->η}{N:δ ρ}{src:δ<|θ π}{scope:Scope}{params:Arguments}{body:Δ}{pos:Pos}{c P:ε}{q:ρ}{ps:Array ξ}{Q:ξ->ζ->η}(I:Inv X pins σ H s)(S:a_ X N src scope)(nM:X.env.code=.ref c)(mk:ZY X.K X.mg X.base c P) (hP:H P=some (.oP ps)) (ok:Dk H q ps) (hq:X.env.qual ++ "<lambda>"= q) (HZ:defaultsOf params X.env=([],[])) (h:∀u s' H' f pm cv kL,Vz X pins σ H H' P q params body scope u s' f pm cv kL->Q u s'):wpAny M A (eval (.Lambda params body scope pos) X.env) Q E s:=by
 have Bi:closureFor scope X.env=pure (clOf X.env.cells scope.names):=fV λy hy hf=>I.ok.has y.1<|S.AI y hy hf;have Xt:s.heap.get? P=some (tabObj ps):=I.aI P _ hP;have hg:s.heap.Ns mainGlobals X.mg:=I.mod.glob.keeps I.bk;have hC:=codeHd_of_K I.nD mk.hd;obtain⟨bm,ob,b1,b2,b3,b4,b5,b6⟩:=mk.bm;have Xu:s.heap.get? bm=some ob:=I.bk _ _ b3;have hgP:mainGlobals≠P:=λz=>by obtain⟨o,es,ep,e,d,_⟩:=id hg;rw[z,Xt]at e;cases e;cases d
 have hbG:bm≠mainGlobals:=λz=>by obtain⟨o,es,ep,e,d,_⟩:=id hg;rw[<-z,Xu]at e;cases e;rw[b6]at d;cases d
 have hbP:bm≠P:=λz=>by rw[z,Xt]at Xu;cases Xu;cases b4
 have hB:s.heap.BuiltinsAt X.mg P:=⟨bm,ob,b1,b2,hbG,hbP,Xu,b4,b5,b6⟩;have hqs:H P≠none:=by rw[hP];nofun
 refine PySem.W.kla_eval HZ ?_;rw[hq];cases hf:codeAmong pos ps.toList with|none=>(refine PySem.W.kla_makeFunction Bi I.ok.glob hg nM hC Xt ok.1 hf hgP hB λc' kL h' tk hx h1 h2 hr hp=>?_;obtain⟨c2,oc,vs,t,e2,WY,hd,hv⟩:=hr;cases e2;have J:=I.tab (tk:=tk) (fo:=xh X q params body scope ((X.mg "__name__").getD .none) (.ref c') kL) hP hx h1 h2 WY hp;have hcP:c'≠P:=λz=>absurd (zt (I.aI.lt hP)<|z ▸ h1)<|yG _;have nc:H c'=none:=I.aI.fresh h1;have fresh:∀b,h'.objs.size<=b->upd (upd H P<|.oP<|ps++#[rawInt pos.line,rawInt pos.col,.ref c']) c' (.jA oc<|.own 0) b=none:=λb hb=>(by have wK:s.heap.objs.size<=b:=zG (zG h1<|yO h2) hb;rw[av<|yA<|zt h2 hb,av<|yA<|zt (I.aI.lt hP) wK];exact I.aI.fresh wK);have hsz:s.heap.objs.size<=h'.objs.size:=zG h1<|yO h2;refine h _ _ _ h'.objs.size _ _ _ {rfl,J.DB (zi _ rfl) (fresh _<|zm _) (I.Xp hsz) (λv z=>nomatch z),⟨c',oc,vs,t,rfl,aB,hd,hv⟩,λb=>?_};by_cases Sw:b=c';subst Sw;exact .inr<|.inr ⟨nc,oc,aB⟩;by_cases hb:b=P;subst hb;refine .inr<|.inl {rfl,_,by rw[av Sw,aB],?_,λp2 cv e=>?_};rw[Array.toList_append];exact TriplesOk_snoc _ _ _ _ ok.1;rw[Array.toList_append]at e;rcases BO _ ok.1 e with e|e;obtain⟨d,o,ws,t2,z1,z2,z3⟩:=ok.2 p2 cv e;exact{d,o,ws,t2,z1,by rw[av<|aC z2 nc,av λz=>by rw[z,hP]at z2;cases z2];exact z2,z3};exact⟨c',oc,vs,t,e,aB,hd,hv⟩;exact .inl<|by rw[av Sw,av hb])|some cv=>refine PySem.W.kla_makeFunctionHit Bi I.ok.glob hg nM hC Xt ok.1 hf hB λkL h' tk hk hsz=>?_;have J:Inv X pins σ H {s with heap:=h'.push<|xh X q params body scope ((X.mg "__name__").getD .none) cv kL,toks:=tk}:=I.kept λb u e=>zb _<|hk b u e;exact h _ _ _ h'.objs.size _ _ _ {rfl,J.DB (zi _ rfl) (I.aI.fresh hsz) (I.Xp hsz) (λv z=>nomatch z),ok.2 pos cv hf,λb=>.inl rfl}
end
def VA:D->D->η|.int a,.int b=>a<b|.str a,.str b=>a.cps.toList<b.cps.toList|_,_=>False
def xm(ks:δ D):Prop:=(∃zs:δ ρ,ks=zs.map D.str)\/∃ns:δ ν,ks=ns.map D.int
structure Ql(b:χ)(key:π->D)(n:π)(g:π->π):η where
 lt:∀k,k<n->g k<n
 inj:∀i j,i<n->j<n->g i=g j->i=j
 ord:∀i j,i<j->j<n->(if b=true then VA (key<|g j) (key<|g i) else VA (key<|g i) (key<|g j))\/(key (g i)=key (g j)/\g i<g j)
def xn(b:χ)(P:ε)(q:ρ)(src:δ<|θ π)(te:TD)(σ:SD)(R:KD)(d:D)(S1:ak):Prop:=∃(l:ε)(xs:δ D)(f:D->D),d=.ref l/\S1 l=some (.lst xs)/\xs.length<64/\S1 P=some (.tab q)/\xm (xs.map f)/\(∀x,x∈xs->∀S',Sub S1 S'->∀Qk:KD,(∀S2,Sub S' S2->Qk (f x) S2)->te ((k7 σ src).set 0<|some x) S' Qk Zf)/\∀g S2 p,Ql b (λj=>f<|xs.getD j .au) xs.length g->Sub S1 S2->S2 p=none->R (.ref p) (S2.set p<|.lst<|(List.range xs.length).map λk=>xs.getD (g k) .au)
def NB(b:χ)(P:ε)(q:ρ)(src:δ<|θ π)(tl te:TD):TD:=λσ S R Z=>tl σ S (λd S1=>xn b P q src te σ R d S1) Z
def H9(F:D->ak->η):δ D->ak->η|[d],S=>F d S|_,_=>False
theorem DC{F:D->ak->η}{ds:δ D}{S:ak}(h:H9 F ds S):∃d,ds=[d]/\F d S:=by match ds,h with|[d],h=>exact⟨d,rfl,h⟩
theorem ql:∀{ss:δ ν}{ar:δ ξ},Vals (ss.map V.int) ar->IntsAre ar ss|[],_,.nil=>.nil|z::ss,_,.cons r t=>by obtain⟨tk,rfl⟩:=r;exact .cons z tk<|ql t
theorem qm:∀{us:δ ξ}{zs:δ ρ},StrsAre us zs->∀j,j<zs.length->ie strKind us j=(zs.getD j "").cps.toList|_,_,.cons z t h,0,_=>rfl|_,_,.cons z t h,j+1,hj=>by have:=qm h j (by simpa using hj);unfold ie at this⊢;rw[List.getD_cons_succ,List.getD_cons_succ];exact this
theorem qo:∀{us:δ ξ}{zs:δ ν},IntsAre us zs->∀j,j<zs.length->ie intK us j=zs.getD j 0|_,_,.cons z t h,0,_=>rfl|_,_,.cons z t h,j+1,hj=>by have:=qo h j (by simpa using hj);unfold ie at this⊢;rw[List.getD_cons_succ,List.getD_cons_succ];exact this
theorem H_(h:StrsAre us zs):∀u∈us,∃x,strKind.keyOf u=some x:=by induction h with|nil=>(intro u hu;cases hu)|cons z t h ih=>intro u hu;rcases zk.mp hu with rfl|hu;exact{_,rfl};exact ih u hu
theorem Ia(h:IntsAre us zs):∀u∈us,∃x,intK.keyOf u=some x:=by induction h with|nil=>(intro u hu;cases hu)|cons z t h ih=>intro u hu;rcases zk.mp hu with rfl|hu;exact{_,rfl};exact ih u hu
theorem Ib{xs:δ D}{f:D->D}{j:π}(hj:j<xs.length):(xs.map f)[j]?=some (f<|xs.getD j .au):=by rw[zp,zD,zf hj];rfl
theorem uS{K:Φ}{H:Hp}{ds:δ D}{xs:δ V}(h:RvAll K H ds xs)(g:π->π):∀(ns:δ π),(∀k∈ns,g k<ds.length)->RvAll K H (ns.map λk=>ds.getD (g k) .au) (ns.map λk=>xs.getD (g k) .au)|[],_=>bA|k::ns,hk=>by have ZX:=hk k zj;obtain⟨v,e,r⟩:=h.get<|zf ZX;refine aR ?_<|uS h g ns λk c_=>hk k<|zh _ c_;show Rv K H (ds.getD (g k) .au) (xs.getD (g k) .au);rw[zD,zf ZX,zD,e];exact r
section
variable{K:Φ}{Y:Cx}{pins:δ (ε×Obj)}{τ:St}{H H2:Hp}{s:ζ}{N:δ ρ}{src:δ (θ π)}{scope:Scope}{params:Arguments}{body:Δ}{q p:ρ}{pm cv kL:ξ}{f l:ε}{te:TD}{b:χ}{kw:δ (ρ×ξ)}{k:π}
theorem xo{σ:SD}{S1:ak}{xs:δ D}{fD:D->D}{Q:VK}{R:KD}{E:ξ->ζ->η}(I:Inv Y (pins++[(f,xh Y q params body scope pm cv kL)]) τ H s)(hK:Y.K=K)(VB:Y.calm=true)(hr:bO k Y.A)(nM:∃c o vs t,cv=.ref c/\H c=some (.jA o<|.own 0)/\o.data=.fields vs/\vs[1]?=some (.str q t)) (CS:a_ Y N src scope) (LD:N[0]?=some p) (hp:scope.names.lookup p=some .local) (h0:src[0]?=some none) (LF:scope.isCoroutine=false) (BM:scope.isGenerator=false) (hb:∀cl pm cv kL u,bindArgs (kla_fn "<lambda>" q params body scope cl pm cv kL) {[u],[]}=pure [(p,u)]) (he:∀cv s H,DE K (Sr Y N q scope f cv Y.A.in1.in1 s H) body te) (aA:gG K H σ τ) (hS:Rs K S1 H) (hl:S1 l=some (.lst xs)) (GF:xs.length<64) (kd:xm<|xs.map fD) (step:∀x,x∈xs->∀S',Sub S1 S'->∀Qk:KD,(∀S2,Sub S' S2->Qk (fD x) S2)->te ((k7 σ src).set 0<|some x) S' Qk Zf) (hR:Cn K H R Q) (fin:∀g S2 p,Ql b (λj=>fD<|xs.getD j .au) xs.length g->Sub S1 S2->S2 p=none->R (.ref p) (S2.set p<|.lst<|(List.range xs.length).map λk=>xs.getD (g k) .au)) (Xr:argsOk "sorted" {[.ref l],kw}) (Xs:∀x,argsOk "list.sort" {[.ref x],kw}) (ht:∀x,Builtin.«list.sort» {[.ref x],kw}=ksk_tree x (.ref f) b): wpAny (model Y.prog Y.w) Y.A (call (.builtin "sorted") [.ref l] kw) (EP Y pins τ Q) E s:=by
 subst hK;obtain⟨vs,hv,rv⟩:=hS.lst hl;have Ss:vs.length=xs.length:=rv.len;obtain⟨c,oc,ws,tk,ecv,hc,rH,hcq⟩:=nM;have drop:∀{u:ξ}{s':ζ},EP Y (pins++[(f,xh Y q params body scope pm cv kL)]) τ Q u s'->EP Y pins τ Q u s':=λ⟨v,H',J,r,q⟩=>{v,H',{J.ok,J.os,J.bare,J.base,J.loc,J.cell,J.free,J.fH,λp hp=>J.pin p<|by rcases zN.mp hp with z|z;exact zV _ z;exact zC _<|zV _ z,J.aI,J.len},r,q};have T:HY Y (pins++[(f,xh Y q params body scope pm cv kL)]) τ Y.A.in1.in1 f vs λi ks H'=>∃S',Sub S1 S'/\Rs Y.K S' H'/\Kp Y.K H H'/\RvAll Y.K H' ((xs.take i).map fD) ks:=by rintro i x u ks s' H' more I' ⟨S',sb,rs,kp,rk⟩ hx ru;have hi:i<xs.length:=(by have:=(ze.mp hx).1;lia);obtain⟨v,e1,r1⟩:=rv.get<|zf hi;rw[hx]at e1;cases e1;have po:=(I'.pin (f,xh Y q params body scope pm cv kL)<|zC _<|zV _<|zC _<|by simp).1;have hcr:s'.heap.CodeRec cv q:={c,oc,ws,tk,ecv,(I'.aI c _<|kp.f _ _ _ hc).1,rH,hcq};refine HS (A:=Y.A.in1.in1) I' CS LD hp h0 I'.ok.frames (I'.ok.hd VB) (by have:=hr.dp;show Y.A.depth<_;lia) ru po hcr LF BM (hb _ _ _ _ _) ((he cv s' H').of<|.none _ rfl) ?_;refine{_,S',λkk S2=>kk=fD xs[i]/\Sub S' S2,Zf,((aA.ts kp).pick src).set 0<|Rv.ts kp _ r1,rs,step _ (List.getElem_mem hi) S' sb _ λS2 h2=>⟨rfl,h2⟩,λkk S2 v2 H2 ⟨e2,JZ⟩ Sy Z1 Xv=>?_,.f};subst e2;refine{S2,sb.trans JZ,Z1,kp.trans Xv,?_};rw[show xs.take (i+1)=xs.take i++[xs[i]] by rw[List.take_add_one,zf hi];rfl,zL];exact(RvAll.ts Xv _ rk).app<|aR Sy bA
 have w0:∃S',Sub S1 S'/\Rs Y.K S' H/\Kp Y.K H H/\RvAll Y.K H ((xs.take 0).map fD) []:={S1,.refl _,hS,.refl _,by rw[List.take_zero];exact bA};have W4:iu Y.K H l vs:=.of hv;rcases kd with⟨zs,ez⟩|⟨zs,ez⟩;have Z2:zs.length=xs.length:=by have:=congrArg List.length ez;rw[za,za]at this;exact this.symm
 have ka:∀j,j<xs.length->fD (xs.getD j .au)=.str (zs.getD j ""):=λj hj=>by have e1:=Ib (f:=fD) hj;rw[ez,zp,zf<|by lia]at e1;rw[zD (l:=zs),zf<|by lia];exact(zS e1).symm
 have kv:∀ks us H',(∃S',Sub S1 S'/\Rs Y.K S' H'/\Kp Y.K H H'/\RvAll Y.K H' ((xs.take vs.length).map fD) ks)->Vals ks us->StrsAre us zs:=λks us H' ⟨S',_,_,_,rk⟩ hu=>by rw[Ss,List.take_length,ez]at rk;rw[rk.strs]at hu;exact qi hu
 refine yM (tN (κ:=strKind) (Q:=Q) (b:=b) strKind_oneLt I W4 (by lia) Xr Xs ht T w0 (λks us H' w1 v1 l1=>{H_<|kv ks us H' w1 v1,λmG mH rest e=>keyKind_strs<|by rw[<-e];exact kv ks us H' w1 v1}) λH' ks us g D w1 v1 l1 sr hD=>?_) (λu s' z=>drop z) λ_ _ z=>z;have sk:=kv ks us H' w1 v1;obtain⟨S',sb,rs,kp,rk⟩:=w1;rw[Ss]at sr⊢;refine(hR.kp kp).new rs hD (λhp=>fin g S' D {sr.lt,sr.inj,λi j iw hj=>?_} sb hp)<|uS (RvAll.ts kp _ rv) g _ λk hk=>sr.lt k<|zU.mp hk;have h1:=sr.lt i (by lia);have h2:=sr.lt j hj;have:=sr.ord i j iw hj;rw[qm sk _<|by lia,qm sk _<|by lia]at this;rw[ka _ h1,ka _ h2];rcases this with z|⟨z1,z2⟩;left;cases b with|false=>rw[xz zd]at z⊢;show(zs.getD (g i) "").cps.toList<(zs.getD (g j) "").cps.toList;exact zE z|true=>rw[xL rfl]at z⊢;show(zs.getD (g j) "").cps.toList<(zs.getD (g i) "").cps.toList;exact zE z
 exact .inr {by rw[ZS z1],z2};have Z2:zs.length=xs.length:=by have:=congrArg List.length ez;rw[za,za]at this;exact this.symm
 have ka:∀j,j<xs.length->fD (xs.getD j .au)=.int (zs.getD j 0):=λj hj=>by have e1:=Ib (f:=fD) hj;rw[ez,zp,zf<|by lia]at e1;rw[zD (l:=zs),zf<|by lia];exact(zS e1).symm
 have kv:∀ks us H',(∃S',Sub S1 S'/\Rs Y.K S' H'/\Kp Y.K H H'/\RvAll Y.K H' ((xs.take vs.length).map fD) ks)->Vals ks us->IntsAre us zs:=λks us H' ⟨S',_,_,_,rk⟩ hu=>by rw[Ss,List.take_length,ez]at rk;rw[rk.ints]at hu;exact ql hu
 refine yM (tN (κ:=intK) (Q:=Q) (b:=b) HU I W4 (by lia) Xr Xs ht T w0 (λks us H' w1 v1 l1=>{Ia<|kv ks us H' w1 v1,λmG mH rest e=>keyKind_ints<|by rw[<-e];exact kv ks us H' w1 v1}) λH' ks us g D w1 v1 l1 sr hD=>?_) (λu s' z=>drop z) λ_ _ z=>z;have sk:=kv ks us H' w1 v1;obtain⟨S',sb,rs,kp,rk⟩:=w1;rw[Ss]at sr⊢;refine(hR.kp kp).new rs hD (λhp=>fin g S' D {sr.lt,sr.inj,λi j iw hj=>?_} sb hp)<|uS (RvAll.ts kp _ rv) g _ λk hk=>sr.lt k<|zU.mp hk;have h1:=sr.lt i (by lia);have h2:=sr.lt j hj;have:=sr.ord i j iw hj;rw[qo sk _<|by lia,qo sk _<|by lia]at this;rw[ka _ h1,ka _ h2];rcases this with z|⟨z1,z2⟩;left;cases b with|false=>rw[xz zd]at z⊢;show zs.getD (g i) 0<zs.getD (g j) 0;exact zE z|true=>rw[xL rfl]at z⊢;show zs.getD (g j) 0<zs.getD (g i) 0;exact zE z
 exact .inr {by rw[z1],z2}
end
section
variable{K:Φ}{X:Cx}{N:δ ρ}{src:δ (θ π)}{scope:Scope}{params:Arguments}{e body:Δ}{q p x:ρ}{np pos lp kq kq2 cp:Pos}{ci:Nat}{tl te:TD}{k:π}{c P:ε}
theorem Vz.kp{pins:δ<|ε×Obj}{τ:St}{H H':Hp}{u:ξ}{s':ζ}{f:ε}{pm cv kL:ξ}{Y:Cx}(L:Vz Y pins τ H H' P q params body scope u s' f pm cv kL){ps:Array ξ}(hP:H P=some (.oP ps)):Kp K H H':=.of λb o e=>by rcases L.same b with z|⟨z,_⟩|⟨z,_⟩;exact .inl (by rw[z];exact e);rw[z,hP]at e;cases e;exact .inr {λ_=>nofun,λ_ _=>nofun};rw[z]at e;cases e
theorem Vz.rs{pins:δ<|ε×Obj}{τ:St}{H H':Hp}{u:ξ}{s':ζ}{f:ε}{pm cv kL:ξ}{Y:Cx}{S:ak}(L:Vz Y pins τ H H' P q params body scope u s' f pm cv kL)(hS:Rs K S H)(ht:S P=some (.tab q)):Rs K S H':=λb x hb=>by obtain⟨ps,hP,_⟩:=hS P _ ht;have kp:Kp K H H':=L.kp hP;rcases L.same b with z|⟨rfl,Sv,z1,z2⟩|⟨z,_⟩;exact(hS b x hb).keep (λo e=>by rw[z];exact e) kp;rw[ht]at hb;cases hb;exact⟨Sv,z1,z2⟩;obtain⟨o,e,_⟩:=(hS b x hb).has;rw[z]at e;cases e
theorem VC(nM:X.env.code=.ref c)(mk:ZY K X.mg X.base c P)(hr:bO k X.A)(CS:a_ X N src scope)(hl:DE K X e tl)(he:∀f cv s H,DE K (Sr X N q scope f cv X.A.in1.in1 s H) body te)(hm:X.mg x=none)(hv:bootBuiltins x=some (.builtin "sorted")) (hq:ψ (X.env.qual ++ "<lambda>"= q) qQJ) (LD:ψ (N[0]?=some p) qQJ) (hp:ψ (scope.names.lookup p=some .local) qQJ) (h0:ψ (src[0]?=some none) qQJ) (LF:ψ (scope.isCoroutine=false) qQJ) (BM:ψ (scope.isGenerator=false) qQJ) (hb:ψ (∀cl pm cv kL u,bindArgs (kla_fn "<lambda>" q params body scope cl pm cv kL) {[u],[]}=pure [(p,u)]) qJ3) (HZ:ψ (defaultsOf params X.env=([],[])) qQJ) (hg:ψ (Gl X x) qQJ) (hn:ψ (x≠"__name__") qQZ) (rR:ψ ((x==("__debug__": ρ))=false) qQZ) (Z3:ψ (backTo pos (starEach [e] X.env)=(false,eval e X.env)::backTo pos (starEach [] X.env)) qQJ) (eJ:ψ ((backTo pos<|starEach [e] X.env).any (·.1)=false) qQJ) (uT:ψ (isPlain e=true) qQJ) (hK:ψ (X.K=K) qQJ) (hC:ψ (X.calm=true) qQJ): DE K X (.Call (.Name x np) [e] [{some "key",.Lambda params body scope lp,kq}] pos) (NB false P q src tl te):=by subst hK;refine⟨λy=>?_⟩;rintro pins s τ H Q I ⟨σ,S,R,Z,aA,hS,t,hR,hZ⟩;refine wpAny_Call_Name_kw<|fU I hg hm hv ?_ hn rR;refine callWith_kw (bj (((ac hl an uT).of y) pos pins s τ H (λvs H1=>∃ds S1,H9 (xn false P q src te σ R) ds S1/\RvAll X.K H1 ds vs/\Rs X.K S1 H1/\Kp X.K H H1) I {σ,S,H9<|xn false P q src te σ R,Z,aA,hS,t,λds S1 vs H1 r rv rs k1=>⟨ds,S1,r,rv,rs,k1⟩,hZ}) λus s1 ⟨vs,H1,I1,r1,ds,S1,r,rv,rs,k1⟩=>?_) Z3 eJ;obtain⟨d,rfl,l,xs,fD,rfl,el,GF,et,kd,step,fin⟩:=DC r;obtain⟨v,YY,rfl,VD,Sy⟩:=rv.cons;cases Sy.nil;cases VD.ref;obtain⟨u,rfl,ru⟩:=vals1 r1;cases ru;obtain⟨ps,hP,aI⟩:=rs P _ et;refine kws_cons<|xk I1 ⟨CS.kind,CS.fW,CS.loc,CS.AI,CS.len,CS.src⟩ nM mk hP aI hq HZ λw s2 H2 f pm cv kL L=>?_;refine kws_nil ?_;cases L.u;have k2:Kp X.K H1 H2:=L.kp hP;exact xo L.inv rfl hC hr L.code ⟨CS.kind,CS.fW,CS.loc,CS.AI,CS.len,CS.src⟩ LD hp h0 LF BM hb (he f) ((aA.ts k1).ts k2) (L.rs rs et) el GF kd step (hR.kp<|k1.trans k2) fin (ksk_s1 _ _) (λx=>ksk_l1 _ _) λx=>ksk_t1 _ _
theorem NC(nM:X.env.code=.ref c)(mk:ZY K X.mg X.base c P)(hr:bO k X.A)(CS:a_ X N src scope)(hl:DE K X e tl)(he:∀f cv s H,DE K (Sr X N q scope f cv X.A.in1.in1 s H) body te)(hm:X.mg x=none)(hv:bootBuiltins x=some (.builtin "sorted")) (hq:ψ (X.env.qual ++ "<lambda>"= q) qQJ) (LD:ψ (N[0]?=some p) qQJ) (hp:ψ (scope.names.lookup p=some .local) qQJ) (h0:ψ (src[0]?=some none) qQJ) (LF:ψ (scope.isCoroutine=false) qQJ) (BM:ψ (scope.isGenerator=false) qQJ) (hb:ψ (∀cl pm cv kL u,bindArgs (kla_fn "<lambda>" q params body scope cl pm cv kL) {[u],[]}=pure [(p,u)]) qJ3) (HZ:ψ (defaultsOf params X.env=([],[])) qQJ) (hg:ψ (Gl X x) qQJ) (hn:ψ (x≠"__name__") qQZ) (rR:ψ ((x==("__debug__": ρ))=false) qQZ) (Z3:ψ (backTo pos (starEach [e] X.env)=(false,eval e X.env)::backTo pos (starEach [] X.env)) qQJ) (eJ:ψ ((backTo pos<|starEach [e] X.env).any (·.1)=false) qQJ) (uT:ψ (isPlain e=true) qQJ) (hK:ψ (X.K=K) qQJ) (hC:ψ (X.calm=true) qQJ): DE K X (.Call (.Name x np) [e] [{some "key",.Lambda params body scope lp,kq},{some "reverse",.Constant (.bool true) ci cp,kq2}] pos) (NB true P q src tl te):=by subst hK;refine⟨λy=>?_⟩;rintro pins s τ H Q I ⟨σ,S,R,Z,aA,hS,t,hR,hZ⟩;refine wpAny_Call_Name_kw<|fU I hg hm hv ?_ hn rR;refine callWith_kw (bj (((ac hl an uT).of y) pos pins s τ H (λvs H1=>∃ds S1,H9 (xn true P q src te σ R) ds S1/\RvAll X.K H1 ds vs/\Rs X.K S1 H1/\Kp X.K H H1) I {σ,S,H9<|xn true P q src te σ R,Z,aA,hS,t,λds S1 vs H1 r rv rs k1=>⟨ds,S1,r,rv,rs,k1⟩,hZ}) λus s1 ⟨vs,H1,I1,r1,ds,S1,r,rv,rs,k1⟩=>?_) Z3 eJ;obtain⟨d,rfl,l,xs,fD,rfl,el,GF,et,kd,step,fin⟩:=DC r;obtain⟨v,YY,rfl,VD,Sy⟩:=rv.cons;cases Sy.nil;cases VD.ref;obtain⟨u,rfl,ru⟩:=vals1 r1;cases ru;obtain⟨ps,hP,aI⟩:=rs P _ et;refine kws_cons<|xk I1 ⟨CS.kind,CS.fW,CS.loc,CS.AI,CS.len,CS.src⟩ nM mk hP aI hq HZ λw s2 H2 f pm cv kL L=>?_;refine kws_cons<|bj (MV (X:=y.cx) _ s2 τ H2 (λv H'=>v=.bl true/\H'=H2) L.inv ⟨rfl,rfl⟩) λw2 s3 ⟨v2,H3,I3,r3,e3,e4⟩=>?_;subst e3 e4;obtain rfl:w2=Value.bool true:=r3;refine kws_nil ?_;cases L.u;have k2:Kp X.K H1 H3:=L.kp hP;exact xo I3 rfl hC hr L.code ⟨CS.kind,CS.fW,CS.loc,CS.AI,CS.len,CS.src⟩ LD hp h0 LF BM hb (he f) ((aA.ts k1).ts k2) (L.rs rs et) el GF kd step (hR.kp<|k1.trans k2) fin (ksk_s2 _ _ _) (λx=>ksk_l2 _ _ _) λx=>ksk_t2 _ _ _
end
section
variable{P:Ψ}{w:Ω}{K:Φ}{mg:ρ->θ ξ}{base:Γ}
theorem uP.okC{x qual:ρ}{st:Stmt}{f:ε}{fd:FuncData}{N ps:δ ρ}{k:π}{sp:qh}(F:uP K x qual st f fd)(S:fI N ps<|ai st)(len:∀ds S R Z,sp ds S R Z->ds.length=ps.length) (kQ:∀(fJ:ξ)(A:ϕ)(outer:δ Env)(s:ζ)(H:Hp)(E:XK)(ds:δ D)(S:ak)(R:KD)(Z:KX),fJ=fd.code->bO k (A.deeper<|envOfC qual (ai st) s.heap.objs.size f fJ)->sp ds S R Z->∃t,GA K (jB (fF P w mg) P w K mg base N qual (ai st) f fJ A outer s H E) true (bw st) t/\t {nx:=λ_ S'=>Fo S'<|R .au,rt:=λd S'=>Fo S'<|R d} (iS N ds) S λ_ C S'=>Fo S'<|Z C):bK P w K mg base (fF P w mg) (k+1) f fd ps (rK K sp):=by
 obtain⟨oc,od,dV,kV,doc,pm,an,fJ,ct,Pc,rfl,lk,rH⟩:=F.ex;have eJ:ps.length<=N.length:=by have:=congrArg List.length S.pre;rw[yn]at this;lia
 refine M4 lk rH S (by rintro vs H Q E ⟨ds,S',R,Z,v,_,h,_⟩;exact by rw[v.len];exact len _ _ _ _ h) λA outer s H vs Q E hr ⟨ds,S',R,Z,v,hS,h,hR,hZ⟩=>?_;obtain⟨t,ht,q⟩:=kQ fJ A outer s H E ds S' R Z rfl hr h;have L:cM (jB (fF P w mg) P w K mg base N qual (ai st) f fJ A outer s H E) E:=tG;let y:Ev (jB (fF P w mg) P w K mg base N qual (ai st) f fJ A outer s H E) true:={_,(jB (fF P w mg) P w K mg base N qual (ai st) f fJ A outer s H E).xe,λ_=>E,{λp2 τ H1 s1 e s' I h=>Na L p2 τ H1 s1 e s' I h,λ_ p2 τ H1 s1 h' a cls args I hx he=>nJ L I hx he,λ_=>PassesOwn.leaving}};refine{L2.Tl K (λ_=>E) t,ht.of y,iS N ds,S',_,λ_ C S'=>Fo S'<|Z C,?_,hS,q,{by rintro σ S1 τ H1 ⟨S2,sb,r⟩ a b c;exact(hR.kp c).now (b.sub sb) r iN,by rintro d S1 v H1 ⟨S2,sb,r⟩ a b c;exact hR _ _ _ _ r a (b.sub sb) c,λ_ _ _ _ z=>z.elim,λ_ _ _ _ z=>z.elim},by rintro σ τ C S1 H1 ⟨S2,sb,r⟩ a b c;exact hZ C S2 H1 r (b.sub sb) c};unfold iS start;refine(p9 v).app ?_;rw[v.len];exact p8 _ _<|by rw[List.length_replicate]
end
structure xp(ts:δ ε)(H:Hp):η where
 all:∀b,H b=none\/(∃o xs,H b=some (.jA o<|.lst xs))\/(b∈ts/\H b=some (.oP #[]))
 tab:∀b∈ts,H b=some (.oP #[])
theorem Fq{P:Ψ}{w:Ω}{K:Φ}{mg mb:ρ->θ ξ}{CX:A8}{k:π}{fa a:ε}{fd:FuncData}{x:ρ}{sp:Sp}{aU:ζ}{vs:δ ξ}{ns:δ ν}{ts:δ ε} (KX:K.In aU.heap) (Qh:aU.heap.Ns mainGlobals mg) (hb:aU.heap.Ns builtinsNs mb) (hbb:∀x:ρ,x≠"__name__"->mb x=bootBuiltins x) (Z4:aU.heap.NoLimit) (hbm:Bm mg aU.heap) (hg:aU.gens=#[]) (hT:∀b∈ts,aU.heap.get? b=some (tabObj #[])) (hC:∀b∈ts,isCodeTable aU.heap b) (hN:∀b∈ts,K.lookup b=none) (ha:aU.heap.get? a=some {cls:=.type "list",data:=.seq vs.toArray}) (hi:IntsAre vs ns) (hl:ns.length<=sizeLine) (hr:bO k callerA) (F:∀base:Γ,Bm mg base->K.In base->base.Ns mainGlobals mg->bK P w K mg base CX k fa fd [x] sp) (VE:∀(s:ζ) (u:ξ),BindsTo s fd {[u],[]} [(x,u)]) (R5:∀H:Hp,xp ts H->iu K H a (ns.map V.int)->sp [.ref a] H (λv _=>v=.bl true) λ_ _ _=>False) (Z5:∀H e s',CX [] H aU (λ_ _ _=>False) e s'->False): codeAny (model P w) callerA (.call (.ref fa) {[.ref a],[]}) (λr s'=>r=.ok (.ret<|.bool true)/\OldK aU.heap s'.heap/\s'.os=aU.os/\AllBare s'.gens) aU:=by
 have rv:=tq hi;have Z6:=hi.length;have Xi:a∉ts:=λz=>by rw[hT a z]at ha;cases ha
 have core:∀H:Hp,xp ts H->iu K H a (ns.map V.int)->j7 P w H aU.heap->(∀b,H b≠none->b=a\/b∈ts)->(H a≠none->K.lookup a=none)->codeAny (model P w) callerA (.call (.ref fa) {[.ref a],[]}) (λr s'=>r=.ok (.ret<|.bool true)/\OldK aU.heap s'.heap/\s'.os=aU.os/\AllBare s'.gens) aU:=by intro H hO hS aI hA hK;have uU:∀{b:ε}{o:Obj},aU.heap.get? b=some o->H b=none->(rP aU.heap H).get? b=some o:=λe n=>GK e n;have Ky:∀{b:ε}{o:Obj}{es:Array DictEntry}{ep:π},aU.heap.get? b=some o->o.data=.dict es ep->H b=none:=λ{b o es ep} e d=>(by cases q:H b with|none=>rfl|some u=>rcases hA b (by rw[q];simp) with e'|e';subst e';rw[ha]at e;cases e;have d':Data.seq vs.toArray _=Data.dict es ep:=d;cases d';rw[hT b e']at e;cases e;cases d);have Xw:∀{b:ε}{m:ρ->θ ξ},aU.heap.Ns b m->(rP aU.heap H).Ns b m:=λ{b m} ⟨o,es,ep,e,d,r⟩=>{o,es,ep,uU e<|Ky e d,d,r};have hKb:K.In (rP aU.heap H):=λb o e=>uU (KX b o e) (by cases q:H b with|none=>rfl|some u=>rcases hA b (by rw[q];simp) with e'|e';subst e';rw[hK<|by rw[q];simp]at e;cases e;rw[hN b e']at e;cases e);have hM:Mod K mg (rP aU.heap H):={hKb,Xw Qh,{mb,Xw hb,hbb},by obtain⟨mc,h1,h2⟩:=Z4;exact{mc,Xw h1,h2}};have e0:wL P w K mg (rP aU.heap H) callerA [] aU H:={rfl,hM,λb o e=>Kb e,Nat.le_of_eq<|EF _ _,trivial,λb hb=>absurd (show b∈([]:δ ε) from hb)<|by simp,aI,.of_eq hg};have hBm:Bm mg (rP aU.heap H):=(by obtain⟨bm,ob,b1,b2,b3,b4,b5,b6⟩:=hbm;refine{bm,ob,b1,b2,uU b3 ?_,b4,b5,b6};cases q:H bm with|none=>rfl|some u=>rcases hA bm (by rw[q];simp) with e'|e';rw[e',ha]at b3;cases b3;cases b6;rw[hT bm e']at b3;cases b3;cases b4);refine yZ ((F _ hBm hKb<|Xw Qh).run callerA [] aU H {[.ref a],[]} [.ref a] [.ref a] _ _ hr e0 (VE aU<|.ref a) (.cons rfl .nil)<|R5 H hO hS) λr s' h=>?_;cases r with|error e=>exact(Z5 H e s' h).elim|ok fl=>cases fl with|next=>exact False.elim h|brk=>exact False.elim h|cont=>exact False.elim h|ret u=>obtain⟨v,H',os,bare,un,VF,r',q⟩:=h;have q':v=.bl true:=q;subst q';obtain rfl:u=Value.bool true:=r';refine{rfl,{λb o e=>?_,λb o e=>un.there b o e<|by simp},os,bare};rcases hO.all b with z|⟨ob,xs,z⟩|⟨z1,z⟩;exact .inl<|un.keep b o e z (by intro z;exact absurd (show b∈([]:δ ε) from z)<|by simp) (by simp);have z2:=un.j8 b ob _ z;obtain⟨e1,_⟩:=aI b _ z;obtain⟨e2,_⟩:=VF b _ z2;rw[e]at e1;cases e1;exact .inl e2;obtain⟨more,z2⟩:=un.j9 b _ z;have e2:=hT b z1;rw[e]at e2;cases e2;exact .inr<|.inl {hC b z1,rfl,#[],more,rfl,by have:=VF b _ z2;exact this}
 have tabs:∀(H:Hp),(∀b,b∈ts->H b=some (.oP #[]))->∀b u,b∈ts->H b=some u->aS P w H aU.heap b u:=λH h b u hb e=>by rw[h b hb]at e;cases e;exact hT b hb
 cases hk:K.lookup a with|some o=>(have e:=KX a o hk;rw[ha]at e;cases e;refine core (λb=>if b∈ts then some (.oP #[]) else none) {λb=>?_,λb hb=>xL hb} (.inr {_,vs.toArray,_,hk,rfl,rfl,rfl,by rw[zr,Z6];exact hl,by simpa using rv}) (λb u z=>?_) (λb z=>?_) λz=>absurd (xz Xi) z;by_cases hb:b∈ts;exact .inr<|.inr {hb,xL hb};exact .inl<|xz hb;by_cases hb:b∈ts;exact tabs _ (λb hb=>xL hb) b u hb z;have z':=(xz hb).symm.trans z;cases z';by_cases hb:b∈ts;exact .inr hb;exact absurd (xz hb) z)|none=>refine core (λb=>if b=a then some (.jA {cls:=.type "list",data:=.seq vs.toArray}<|.lst<|ns.map V.int) else if b∈ts then some (.oP #[]) else none) {λb=>?_,λb hb=>?_} (.inl<|.inr {{cls:=.type "list",data:=.seq vs.toArray},xL rfl}) (λb u z=>?_) (λb z=>?_) λ_=>hk;by_cases hb:b=a;exact .inr<|.inl {_,_,xL hb};by_cases GG:b∈ts;exact .inr<|.inr {GG,(xz hb).trans<|xL GG};exact .inl<|(xz hb).trans<|xz GG;have:b≠a:=λz=>Xi<|z ▸ hb;exact(xz this).trans<|xL hb;by_cases hb:b=a;have z':=(xL hb).symm.trans z;cases z';subst hb;exact{ha,by rw[za];exact hl,vs,_,rv,ha};have z':=(xz hb).symm.trans z;by_cases GG:b∈ts;have z2:=(xL GG).symm.trans z';cases z2;exact hT b GG;have z2:=(xz GG).symm.trans z';cases z2;by_cases hb:b=a;exact .inl hb;by_cases GG:b∈ts;exact .inr GG;exact absurd ((xz hb).trans<|xz GG) z
theorem DD:∀{K:Φ},b∉K.map (·.1)->K.lookup b=none|[],_=>rfl| (a,o)::K,h=>by rw[zw,zk,not_or]at h;rw[yg,show(b==a)=false from beq_false_of_ne h.1];exact DD h.2
theorem LH{K:Params->Φ}{as:δ ε}{e:∀P,as=(K P).map (·.1)}{ts:δ ε}{w:Ω}{h:Γ}(_:(PySem.W.kmHook K as e ts).says w h)(d:∀b∈ts,b∉as):∀b∈ts,(K w.params).lookup b=none:=λb hb=>DD<|by rw[<-e];exact d b hb
theorem Ie{l:PySem.W.OpenLaw}{n k:π}{q:Ψ}{loose:δ ρ}{XP:(ρ->θ ξ)->Γ->η}{YP:Ω->Γ->η}{d:DefRec}{K:Params->Φ}{CX:A8}{x:ρ}{ts:δ ε} (hn:l.most=some n) (G0:n<=sizeLine) (YK:d.params.defaults=[]) (hr:bO k callerA) (hY:∀(w:Ω)(h:Γ),YP w h->(K w.params).In h) (hT:∀(w:Ω)(h:Γ),YP w h->∀b∈ts,h.get? b=some (tabObj #[])) (hN:∀(w:Ω)(h:Γ),YP w h->∀b∈ts,(K w.params).lookup b=none) (F:∀(w:Ω)(mg:ρ->θ ξ)(fa:ε)(h:Γ),(K w.params).In h->h.Ns mainGlobals mg->mg d.name=some (.ref fa)->∃(fd:FuncData)(sp:Sp),(∀b∈ts,∃c,codeHdIn (K w.params) c b=true)/\(∀(s:ζ)(u:ξ),BindsTo s fd {[u],[]} [(x,u)])/\(∀base:Γ,Bm mg base->(K w.params).In base->base.Ns mainGlobals mg->bK l.prog w (K w.params) mg base CX k fa fd [x] sp)/\∀(H:Hp)(a:ε)(ns:δ ν),ns.length<=n->xp ts H->iu (K w.params) H a (ns.map V.int)->sp [.ref a] H (λv _=>v=.bl true) λ_ _ _=>False) (Z5:∀(H:Hp)(s:ζ)(e:ξ)(s':ζ),CX [] H s (λ_ _ _=>False) e s'->False): PySem.W.WalkO q loose XP YP l.row.toRowW d [] (λf vs=>PySem.call f vs):=by refine Att.wU hn YK λw cX aU mg mb fa o pm cd doc a vs ns G Y ho hd rH Py Pz hints hlen hg=>?_;have KX:=hY w _ Y;obtain⟨fd,sp,hC,hb,hF,R5⟩:=F w mg fa _ KX G.T.g Py;have hT':=hT w _ Y;exact Fq KX G.T.g G.T.b G.T.builtins G.T.nolimit G.T.bmain hg hT' (λb z=>by obtain⟨c,hc⟩:=hC b z;exact((codeHd_of_K KX hc).tab<|hT' b z).isCodeTable) (hN w _ Y) Pz hints (zG hlen G0) hr hF hb (λH hO hS=>R5 H a ns hlen hO hS) λH e s'=>Z5 H aU e s'
namespace Rt
theorem own:Manifest.owners.lookup (String.ofList ['d','e','s','r','e','v','e','r'].reverse)=some Manifest.sig_reversed:=by kernel_rfl
theorem k9:Slot "reversed" "__next__" "reversed.__next__":=.of (owner:="reversed") (n:="__next__") (by rw[typeLookup_type,builtinLookup_eq_fast];kernel_rfl) (by trivial) (by trivial) (by trivial) (by first|exact .inl (by trivial)|exact .inr (by trivial))<|by rw[isSubtype_type];kernel_rfl
theorem DF:entryFor table "reversed.__next__"= some Builtin.«reversed.__next__»:=entryFor_of_tree<|by kernel_rfl
theorem DH(a:ξ):argsOk "reversed.__next__" {[a],[]}:=by unfold argsOk;rw[signature?_of (id:="reversed.__next__") (n:=['_','_','t','x','e','n','_','_']) (o:=['d','e','s','r','e','v','e','r']) (by kernel_rfl) own];kernel_rfl
theorem DJ:Slot "reversed" "__iter__" "reversed.__iter__":=.of (owner:="reversed") (n:="__iter__") (by rw[typeLookup_type,builtinLookup_eq_fast];kernel_rfl) (by trivial) (by trivial) (by trivial) (by first|exact .inl (by trivial)|exact .inr (by trivial))<|by rw[isSubtype_type];kernel_rfl
theorem LI(a:ξ):argsOk "reversed.__iter__" {[a],[]}:=by unfold argsOk;rw[signature?_of (id:="reversed.__iter__") (n:=['_','_','r','e','t','i','_','_']) (o:=['d','e','s','r','e','v','e','r']) (by kernel_rfl) own];kernel_rfl
theorem LJ:entryFor table "reversed.__iter__"= some Builtin.«dict_keyiterator.__iter__»:=entryFor_alias (id':="dict_keyiterator.__iter__") (by kernel_rfl) (by first|rfl|decide +kernel|(unfold String.splitOn;simp +decide [String.splitOnAux])) (by trivial)<|by kernel_rfl
theorem LK:Slot "reversed" "__init__" "object.__init__":=.of (owner:="object") (n:="__init__") (by rw[typeLookup_type,builtinLookup_eq_fast];kernel_rfl) (by trivial) (by trivial) (by trivial) (by first|exact .inl (by trivial)|exact .inr (by trivial))<|by rw[isSubtype_type];kernel_rfl
theorem called:TypeCalled "reversed" "reversed.__new__" "object.__init__":={by trivial,by trivial,{_,_,F.mro_reversed},F.made_reversed,by trivial,by rw[isSubtype_type];kernel_rfl,LK}
theorem Qm:typeLookup (.type "tuple") "__reversed__"= pure none:=by rw[typeLookup_type,builtinLookup_eq_fast];kernel_rfl
theorem DK:typeLookup (.type "tuple") "__getitem__"= pure (some<|.builtin "tuple.__getitem__"):=by rw[typeLookup_type,builtinLookup_eq_fast];kernel_rfl
theorem LL:isSubtype (.type "tuple") (.type "dict")=pure false:=by rw[isSubtype_type];kernel_rfl
end Rt
noncomputable def xq(l:ε)(i:ν):Obj:={cls:=.type "reversed",data:=.fields #[.ref l,rawInt i]}
def qp(h:Γ)(a l:ε)(i:ν):Prop:=∃o,h.get? a=some o/\o.cls=.type "reversed"/\o.data=.fields #[.ref l,rawInt i]
section
variable{prog:Ψ}{w:Ω}{A:ϕ}{E:ξ->ζ->η}{s:ζ}
theorem qp.typeIs(x:qp s.heap a l i):s.TypeIs (.ref a) "reversed":=by obtain⟨o,ho,hc,_⟩:=x;exact⟨o,ho,hc⟩
theorem qp.keep(x:qp h a l i)(e:∀o,h.get? a=some o->h'.get? a=some o):qp h' a l i:=by obtain⟨o,ho,r⟩:=x;exact{o,e _ ho,r}
theorem Qn(hl:IsTup s.heap l items)(hz:items.size<=sizeLine)(h:Q₁ (.ref s.heap.objs.size) {s with heap:=s.heap.push<|xq l<|(items.size:ν)-1,toks:=s.toks+1+1}): codeAny (model prog w) A (.call (.builtin "reversed.__new__") {[.type "reversed",.ref l],[]}) (wants Q₁ E) s:=by
 refine codeAny_of_tree ?_;show wpAny _ A.in1 (do checkBuiltinCall "reversed.__new__" {[.type "reversed",.ref l],[]};again (.builtin "reversed.__new__" {[.type "reversed",.ref l],[]})) _ _ s;refine zc<|yX (F.newCall_reversed_1 _)<|zo {plainId_quiet F.plain_reversed_new _,yT F.entry_reversed_new ?_};rw[Around.under_plainId F.plain_reversed_new _];unfold Builtin.«reversed.__new__»;refine zc<|yX (newClass_reversed _) ?_;refine zc<|yX (a:=()) (by first|rfl|kernel_rfl)<|zc<|yX (a:=()) (by first|rfl|kernel_rfl) ?_;refine zc<|wpAny_specialOf hl.typeIs Rt.Qm ?_;refine zc<|zc<|wpAny_isInstance hl.typeIs Rt.LL<|zc<|wpAny_specialOf hl.typeIs Rt.DK ?_;show wpAny _ _ (if (["tuple.__getitem__","str.__getitem__","bytes.__getitem__","bytearray.__getitem__","memoryview.__getitem__","numpy.ndarray.__getitem__","sqlite3.Row.__getitem__"]:δ String).contains "tuple.__getitem__"= true then pure true else _) _ _ _;rw[xL<|by trivial];refine zo ?_
 show wpAny _ _ (do
     let mI <-call (Value.builtin "len") [Value.ref l]
     let __x <-asInt? mI
     match __x with
      |some n=>do
       let mI <-Builtin.SmallTypes.newRecord (Value.type "reversed") [Value.ref l,rawInt (n-1)]
       ret mI
      |x=>unsupported "internal:reversed.__new__") _ _ _
 refine zc<|len_tuple hl (by rw[yj]at hz;lia) ?_;refine zc<|yX (a:=some ((items.size:π):ν)) rfl ?_;exact zc (m:=newObj (.type "reversed")<|.fields #[.ref l,rawInt<|((items.size:π):ν)-1])<|yH<|zo h
theorem LM(hl:IsTup s.heap l items)(hz:items.size<=sizeLine)(h:Q (.ref s.heap.objs.size) {s with heap:=s.heap.push<|xq l<|(items.size:ν)-1,toks:=s.toks+1+1}): wpAny (model prog w) A (call (.type "reversed") [.ref l]) Q E s:=by refine callType_codes Rt.called (F.typeCall_reversed_1 _) F.entry_object_init (Q₁:=λobj aU=>aU.TypeIs obj "reversed"/\Q obj aU) (Qn hl hz {{_,zi _ rfl,rfl},h}) λobj aU h₁=>?_;exact{h₁.1,F.args_object_init_2 obj _,object_init_meets Rt.called.init.lookup Rt.called.made (by decide) prog w A.in1 _ aU ⟨h₁.1,rfl,h₁.2⟩}
theorem sqx(h:k<n):seqIndex? ((k:π):ν) n=some k:=by have e:(if ((k:π):ν)<0 then ((k:π):ν)+(n:ν) else ((k:π):ν))=((k:π):ν):=xz (by lia);unfold seqIndex?;dsimp only;rw[e,xL<|by simp;lia];rfl
theorem LN{it l:ε}{i:π}{items:Array ξ}{x:ξ}{Q:θ ξ->ζ->η}(hit:qp s.heap it l (i:ν))(hl:IsTup s.heap l items)(hz:items.size<=sizeLine)(hx:items[i]?=some x) (hQ:∀h' tk,qp h' it l ((i:ν)-1)->Heap.SameBut it s.heap h'->Q (some x) {s with heap:=h',toks:=tk}):wpAny (model prog w) A (pyNext<|.ref it) Q E s:=by obtain⟨o,ho,hc,hd⟩:=id hit;have hi:i<items.size:=(Array.getElem?_eq_some_iff.mp hx).1;unfold pyNext;refine zc<|wpAny_attempt<|wpAny_callSpecial?_slot (name:=Str.ofString "__next__") hit.typeIs Rt.k9<|yQ Rt.k9 hit.typeIs Rt.DF ?_<|Rt.DH _;unfold Builtin.«reversed.__next__»;refine zc<|yX (a:=(Value.ref it,[])) rfl<|zc<|yk ho hd (x:=.ref l) rfl<|zc<|yk ho hd (x:=rawInt (i:ν)) rfl ?_;show wpAny _ _ (if (i:ν)<0 then _ else _) _ _ s;rw[xz<|by lia];show wpAny _ _ (specialOf (.ref l) "__getitem__" >>=_) _ _ s;refine zc<|wpAny_specialOf hl.typeIs Rt.DK ?_;show wpAny _ _ (mkInt (i:ν) >>=_) _ _ s;refine zc<|wpAny_mkInt ?_;refine zc<|wpAny_attempt<|getItem_tuple (j:=i) hl (by lia) (by rw[yj]at hz;lia) (sqx hi) hx ?_;refine zc<|yk ho hd (x:=rawInt (i:ν)) rfl ?_;show wpAny _ _ (setField (.ref it) 1 (rawInt<|(i:ν)-1) >>=λ_=>ret x) _ _ _;refine zc<|yU ho hd (by simp)<|zo {x,rfl,zo<|hQ _ _ ?_<|yy ..};exact{_,yz _ ho<|Obj.isFreed_of_fields<|yF hd _,(Obj.cls_mapFields ..).trans hc,by rw[yF hd];simp}
theorem Qo(hh:A.handled=none)(hit:qp s.heap it l (-1))(hQ:∀h',Heap.ExtBut it s.heap h'->Q none {s with heap:=h'}):wpAny (model prog w) A (pyNext<|.ref it) Q E s:=by
 obtain⟨o,ho,hc,hd⟩:=id hit;unfold pyNext;refine zc<|wpAny_attempt<|wpAny_callSpecial?_slot (name:=Str.ofString "__next__") hit.typeIs Rt.k9<|yQ Rt.k9 hit.typeIs Rt.DF ?_<|Rt.DH _;unfold Builtin.«reversed.__next__»;refine zc<|yX (a:=(Value.ref it,[])) rfl<|zc<|yk ho hd (x:=.ref l) rfl<|zc<|yk ho hd (x:=rawInt (-1)) rfl ?_;show wpAny _ _ (if (-1:ν)<0 then _ else _) _ _ s;rw[xL<|by decide];refine zc<|yW ?_;have hd1:=yF hd (·.setIfInBounds 1 (rawInt (-1)));have Su:=yz (Obj.mapFields (·.setIfInBounds 1 (rawInt (-1)))) ho<|Obj.isFreed_of_fields hd1;refine zc (m:=setField (.ref it) 1 (rawInt (-1)) >>=λ_=>setField (.ref it) 0 .none)<|zc<|yU ho hd (by simp)<|yU Su hd1 (by simp) ?_;have eb:Heap.ExtBut it s.heap ((s.heap.update it (Obj.mapFields (·.setIfInBounds 1 (rawInt (-1))))).update it (Obj.mapFields (·.setIfInBounds 0 Value.none))):=λb u hb e=>by rw[yB _ _<|Ne.symm hb,yB _ _<|Ne.symm hb];exact e
 refine zc ?_;show wpAny _ _ (newExc (.type "StopIteration") [] >>=_) _ _ _;refine zc ?_;simp only[newExc,newTuple];refine zc<|yH ?_ (by size_fits);refine zc (m:=firstArgMember _ _)<|yX (a:=Value.none) (by first|rfl|(simp only[firstArgMember];rfl)) ?_;refine yH ?_ (by size_fits);simp only[raiseNew];refine zc<|wpAny_handled ?_;first|rw[show A.in1.handled=none from hh]|rw[hh]
 refine zc<|zo<|wpAny_throw ?_;refine zc<|wpAny_isInstance (T:="StopIteration") (b:=true) {_,zi _ rfl,rfl} isSubtype_stop ?_;exact zo<|hQ _<|(eb.push _).push _
theorem DL(hit:qp s.heap it l i)(h:Q (.ref it) s):wpAny (model prog w) A (pyIter<|.ref it) Q E s:=by refine wpAny_pyIter_slot hit.typeIs Rt.DJ<|yQ Rt.DJ hit.typeIs Rt.LJ ?_<|Rt.LI _;show wpAny _ _ (ret<|.ref it) _ _ s;exact zo !{"reversed",_,hit.typeIs,Rt.k9.lookup,h}
end
end L2
namespace L2
open PySem PySem.Spec PyProof.Rows
def VG(K:Φ)(a:ε)(n:π):It:={λi H=>∃xs x,hW K H a xs/\xs.length=n/\i<n/\xs[n-1-i]?=some x,λi H x H'=>H'=H/\∀xs,hW K H a xs->xs.length=n->xs[n-1-i]?=some x,λi _=>n<=i}
theorem LO{P:Ψ}{w:Ω}{K:Φ}{tg:Δ}(a it:ε)(n:π):Turn P w K tg (VG K a n) [it] it (λi h=>i<=n/\qp h it a ((n:ν)-1-(i:ν))) where
 mem:=by simp
 obj:=λi h st b hb=>by
  have e:b=it:=by simpa using hb
  subst e
  obtain⟨_,o,e,c,d⟩:=st
  exact{o,e,λv z=>by rw[d]at z;cases z}
 keep:=λi h h' st k=>{st.1,st.2.keep λo e=>k it (by simp) o e}
 item:=by
  intro X hP hw hK hc i pins s σ H E I hf st hg
  subst hP hw hK
  obtain⟨xs,x,hq,hn,hi,hx⟩:=hg
  obtain⟨ar,rv,p,hz⟩:=I.tuple hq
  obtain⟨u,hu,ru⟩:=rv.get hx
  obtain⟨f0,f1,f2,f3,f4,f5⟩:=hf it<|by simp
  have e:(n:ν)-1-(i:ν)=((n-1-i:π):ν):=by lia
  have hit:=st.2
  rw[e]at hit
  refine LN hit p (by rw[zr,<-rv.length];exact hz) (x:=u) (by simpa using hu) λh' tk dH sb=>?_
  have I1:Inv X pins σ H {s with heap:=h',toks:=tk}:=I.turned (t':=tk) (λb o hb e=>(sb.2 b hb).trans e) f0 f1 f3 f4 f5
  obtain⟨o,e1,c,d⟩:=id dH
  refine{u,rfl,pM (s:={s with heap:=h',toks:=tk}) e1 c d (by decide) {x,H,I1,ru,{rfl,λys hy _=>by rw[I.mq hy hq];exact hx},{hi,?_},λb hb=>(hf b hb).1}}
  have e2:(n:ν)-1-((i+1:π):ν)=((n-1-i:π):ν)-1:=by lia
  rw[e2];exact dH
 done:=by
  intro X hP hw hK hc i pins s σ H E I hf st hg
  subst hP hw hK
  obtain⟨f0,f1,f2,f3,f4,f5⟩:=hf it<|by simp
  have hg:n<=i:=hg
  have e:(n:ν)-1-(i:ν) = -1:=by have:=st.1;lia
  have hit:=st.2
  rw[e]at hit
  exact Qo (I.ok.hd hc) hit λh' eb=>{rfl,I.turned (t':=s.toks) (λb o hb e=>eb b o hb e) f0 f1 f3 f4 f5}
 self:=λ_ _ _ _ _ st h=>DL st.2 h
def iRt(K:Φ)(ta:TA):TI:=λσ H R=>ta σ H λvs H1=>∃a xs,vs=[.ref a]/\hW K H1 a xs/\R (VG K a xs.length) H1
theorem VH{X:Cx}{tg a:Δ}{ta:TA}{p pos:Pos}(hg:Gl X "reversed")(hm:X.mg "reversed"= none)(ha:PA X [a] ta)(hs:starEach [a] X.env=[(false,eval a X.env)]):PI X tg (.Call (.Name "reversed" p) [a] [] pos) (iRt X.K ta):=by
 intro pins s σ H R I h;refine Call_<|fU I hg hm boot_reversed<|PyProof.Rows.callWith_type1 (bj (ha pos pins s σ H _ I h) λus s1 ⟨vs,H1,I1,r1,q1⟩=>?_) hs rfl;obtain⟨l,xs,e,q,hR⟩:=q1;subst e;obtain⟨u,rfl,ru⟩:=vals1 r1;cases ru;obtain⟨ar,rv,pl,hz⟩:=I1.tuple q;have hn:ar.toArray.size=xs.length:=by rw[zr,rv.length]
 refine LM pl (by rw[hn];exact hz) ?_;rw[hn];have st:qp (s1.heap.push<|xq l<|(xs.length:ν)-1) s1.heap.objs.size l ((xs.length:ν)-1-((0:π):ν)):={_,zi _ rfl,rfl,by show Data.fields _=Data.fields _;simp};have I2:Inv X pins σ H1 {s1 with heap:=s1.heap.push<|xq l<|(xs.length:ν)-1,toks:=s1.toks+1+1}:=I1.kept (t':=s1.toks+1+1) λb o e=>zb _ e;refine DL (s:={s1 with heap:=s1.heap.push<|xq l<|(xs.length:ν)-1,toks:=s1.toks+1+1}) st {_,_,_,_,H1,rfl,I2,LO l s1.heap.objs.size xs.length,{zY _,st},λb hb=>?_,hR};have hb:b=s1.heap.objs.size:=by simpa using hb
 subst hb;exact I1.mr (zm _)<|I1.aI.fresh<|zm _
section
variable{K:Φ}{X:Cx}{tg:Δ}
def Z7(t:iD):wA:=λσ S R Z=>t σ S (λds S1=>∃es,ds=[.tup es]/\R {es.reverse,λ_=>True} S1) Z
theorem irt{t:iD}(hm:X.mg "reversed"= none)(ha:DA K X [a] t)(hg:ψ (Gl X "reversed") qQJ)(hs:ψ (starEach [a] X.env=[(false,eval a X.env)]) qQJ)(hK:ψ (X.K=K) qQJ):DI K X tg (.Call (.Name "reversed" p) [a] [] pos) (Z7 t):=by subst hK;exact⟨λy=>(VH (X:=y.cx) hg hm (ha.of y) hs).mono <| by rintro τ H R ⟨σ,S,RI,Z,aA,hS,q,hR,hZ⟩;exact{σ,S,_,Z,aA,hS,q,by rintro ds S1 vs H1 ⟨es,e,r1⟩ v1 s1 k1;subst e;obtain⟨v,rfl,r⟩:=v1.one;obtain⟨a,xs,rfl,hq,t⟩:=r.tup;refine{a,xs,rfl,.inl<|.of hq,hR _ S1 _ H1 r1 (λi S2 H2 k2 s2 Sk=>?_) s1 k1};have Sl:hW X.K H2 a xs:=.inl<|.of<|k2.t _ _ hq;have t2:=RvAll.ts k2 _ t;have hl:xs.length=es.length:=t.len;refine{λd hd=>?_,λh=>by rw[yI]at h;show xs.length<=i;lia};have hi:i<es.length:=(by have:=(ze.mp hd).1;rwa [yI]at this);rw[List.getElem?_reverse hi]at hd;obtain⟨v,e1,r⟩:=t2.get hd;rw[hl];refine{⟨xs,v,Sl,hl,hi,e1⟩,λx' H' ⟨e2,e3⟩=>?_};subst e2;have:=e3 xs Sl hl;rw[e1]at this;cases this;exact{r,.refl _,s2},hZ}⟩
end
section
variable{K:Φ}{X:Cx}{pos:Pos}
def Qp(tc:jE)(tb:kZ):kZ:=λDe σ S Z=>∃P:π->SD->ak->η,(∃m,P m σ S)/\∀m σ S,P m σ S->tc σ S (λb S1=>if b=true then tb {De with nx:=λax S'=>∃m',m'<m/\P m' ax S',ct:=λax S'=>∃m',m'<m/\P m' ax S',bk:=De.nx} σ S1 Z else De.nx σ S1) (Z σ)
theorem Xx(hc:DT K X c tc)(hb:GA K X true body tb):DS K X true (.While c body [] pos) (Qp tc tb):=
 ⟨λy=>(GQ (X:=y.cx) (y.ok.loop rfl) (hc.of y)<|hb.of y).mono <| by rintro D τ H ⟨σ,S,De,Z,aA,hS,⟨P,⟨m,p0⟩,turn⟩,hD,hZ⟩;exact
  ⟨λm Sf H'=>∃σ S,gG K H' σ Sf/\Rs K S H'/\P m σ S/\Kp K H H',⟨m,σ,S,aA,hS,p0,.refl _⟩,by rintro m ZE H1 ⟨wu,S1,a1,s1,p1,k1⟩;exact⟨wu,S1,_,Z wu,a1,s1,turn m wu S1 p1,λb S2 H2 r2 s2 k2=>by
   cases b with
   |true =>
    rw[xL rfl]at r2⊢
    refine{λτ3 H3=>∃σ S,gG K H3 σ τ3/\Rs K S H3/\(∃m',m'<m/\P m' σ S)/\Kp K H H3,by rintro τ3 H3 ⟨fC,S3,a3,s3,⟨m',hm,p3⟩,k3⟩;exact⟨m',hm,fC,S3,a3,s3,p3,k3⟩,?_}
    have kk:=k1.trans k2
    exact{wu,S2,_,Z,a1.ts k2,s2,r2,{λQa S5 ZO H5 r5 a5 s5 k5=>{Qa,S5,a5,s5,r5,kk.trans k5},hD.rt.kp kk,hD.nx.kp kk,λQa S5 ZO H5 r5 a5 s5 k5=>{Qa,S5,a5,s5,r5,kk.trans k5}},hZ.kp kk}
   |false =>
    rw[xz zd]at r2⊢
    exact hD.nx _ _ _ _ r2 (a1.ts k2) s2<|k1.trans k2,(hZ.kp k1).at a1⟩⟩⟩
def Z8(i:π)(te:TD):kZ:=λDe σ S Z=>∃a:ν,σ[i]?=some (some<|.int a)/\te σ S (λd S1=>∃b:ν,d=.int b/\De.nx (σ.set i<|some<|.int<|a+b) S1) (Z σ)
theorem sau(hN:X.N.Nodup)(he:DE K X e te)(hi:ψ (X.N[i]?=some x) qQJ)(hx:ψ (Loc X.env.scope x) qJQ)(hf:ψ (X.fn x=true\/X.env.scope.names.lookup x=some .local) qJQ): DS K X b (.AugAssign (.Name x pos') .Add e pos) (Z8 i te):=⟨λy=>(OS (X:=y.cx) hN hi hx (he.of y) OT hf).mono <| by rintro D τ H ⟨σ,S,De,Z,aA,hS,⟨a,ha,t⟩,hD,hZ⟩;obtain⟨v,e1,r⟩:=aA.get ha;exact{v,e1,σ,S,_,Z σ,aA,hS,t,by rintro d S1 u H1 ⟨c,e2,n⟩ rv s1 k1;subst e2;exact{a,c,r.int,rv.int,hD.nx _ _ _ _ n ((aA.ts k1).set i<|aM _) s1 k1},hZ.at aA}⟩
noncomputable def vD:V->D|.int i=>.int i|.str z=>.str z|.bl b=>.bl b|_=>.au
noncomputable def Ig:V->χ|.int _=>true|.str _=>true|_=>false
def VI(kvs:δ<|ρ×V)(ty:TD):TD:=λσ S R Z=>ty σ S (λy S1=>∃z,y=.str z/\R ((kvs.lookup z).elim .au vD) S1) Z
theorem mgk{w:Ω}{ad:ε}{kvs:δ<|ρ×V}{o e:Δ}{apos aP:Pos}{ty:TD}(d:Le w K ad kvs)(hf:(kvs.all λp=>Ig p.2)=true)(ho:∀Y:Cx,Y.env=X.env->Y.mg=X.mg->PE Y o (tC<|.ref ad))(he:DE K X e ty)(hw:ψ (X.w=w) qQJ)(hK:ψ (X.K=K) qQJ)(m:ψ (M1 X o "get" apos e aP) qQ4): DE K X (.Call (.Attribute o "get" apos) [e] [] aP) (VI kvs ty):=⟨λy=>(Hv (X:=y.cx) hw hK (ho y.cx rfl rfl) (he.of y) ⟨m.base,m.Gv,m.line,m.trees⟩).mono <| by rintro τ H Q ⟨σ,S,R,Z,aA,hS,q,hR,hZ⟩;exact⟨ad,kvs,rfl,d,σ,S,_,Z,aA,hS,q,by
 rintro yv S1 v H1 ⟨z,e1,r⟩ rv s1 k1;subst e1;refine{z,rv.str,hR _ _ _ _ r ?_ s1 k1};have fl:∀v,kvs.lookup z=some v->Ig v=true:=λv hv=>by have:=yu hv;exact zZ.mp hf _ this
 cases q:kvs.lookup z with|none=>exact iN|some v=>have:=fl v q;cases v with|int i=>exact aM i|str i=>exact dI i|_=>(cases this),hZ⟩⟩
end
theorem gK(hm:X.mg x=some (.ref a))(hg:ψ (Gl X x) qQJ)(hd:ψ ((x==("__debug__": ρ))=false) qQZ):∀Y:Cx,Y.env=X.env->Y.mg=X.mg->PE Y (.Name x pos) (tC<|.ref a):=λY e1 e2=>C3 (X:=Y) (u:=.ref a) (show Y.env.kindOf x=_ by rw[e1];exact hg) (by rw[e2];exact hm) rfl hd
structure Fb(K:Φ)(x q:ρ)(st:Stmt)(ps:δ ρ)(f:ε)(d:FuncData):η where
 F:uP K x q st f d
 b:Binds K d ps []
structure ND(K:Φ)(mg:ρ->θ ξ)(x:ρ)(st:Stmt)(ps:δ ρ)(f:ε)(d:FuncData):η extends Fb K x x st ps f d where
 k:keepIn K (.ref f)=true
 m:mg x=some (.ref f)
structure NF(K:Φ)(c:ε)(x q:ρ)(st:Stmt)(ps:δ ρ)(f:ε)(d:FuncData):η extends Fb K x q st ps f d where
 e:Meth K c x f
abbrev Ok(P:Ψ)(w:Ω)(base:Γ){K:Φ}{mg:ρ->θ ξ}{x:ρ}{st:Stmt}{ps:δ ρ}{f:ε}{d:FuncData}(_:ND K mg x st ps f d)(k:π)(sp:qh):Prop:=bK P w K mg base (fF P w mg) k f d ps<|rK K sp
abbrev r_(P:Ψ)(w:Ω)(mg:ρ->θ ξ)(base:Γ){K:Φ}{c:ε}{x q:ρ}{st:Stmt}{ps:δ ρ}{f:ε}{d:FuncData}(_:NF K c x q st ps f d)(k:π)(sp:qh):Prop:=bK P w K mg base (fF P w mg) k f d ps<|rK K sp
theorem fsc{N P:δ ρ}{sc:Scope}(a:ψ (sc.kind=.function/\sc.isCoroutine=false/\sc.isGenerator=false/\N.take P.length=P) qQ4)(b:ψ (N.Nodup/\(∀x∈P,sc.names.lookup x=some .local\/sc.names.lookup x=some .cell)/\∀y∈sc.names,y.2≠.free) qQ8):fI N P sc:=⟨a.1,a.2.1,a.2.2.1,b.1,a.2.2.2,b.2.1,b.2.2⟩
section
variable{R:η}{K:Φ}{h:Γ}{mg:ρ->θ ξ}{od an:θ ε}{sl:Array (θ ξ)}{oc dV kV dc pm cd ct:ξ}{f da:ε}{Qq:θ ε}{dn:π}{Qr:Array (θ ξ)}{c:ε}{tk:Tok}{d:FuncData}
theorem fn1(X:K.In h)(G:h.Ns mainGlobals mg)(x:ρ)(st:Stmt)(ps:δ ρ)(a:nsIn K mainGlobals x=some (some<|.ref f))(l:K.lookup f=some {oc,od,.func<|fnOf x x (bF st) (bw st) (ai st) dV kV dc pm an cd ct,sl}) (e:codeIn K cd x=true) (k:keepIn K (.ref f)=true) (b:∀us:δ ξ,us.length=ps.length->bindArgs (fnOf x x (bF st) (bw st) (ai st) dV kV dc pm an cd ct) {us,[]}=pure (ps.zip us)) (g:∀d,ND K mg x st ps f d->R):R:=g _ {{{_,_,_,_,_,_,_,_,_,_,rfl,l,e},.all b},k,mg_of X G a}
theorem Z9(X:K.In h)(G:h.Ns mainGlobals mg)(x:ρ)(st:Stmt)(ps:δ ρ)(a:nsIn K mainGlobals x=some (some<|.ref f))(l:K.lookup f=some {oc,od,.func<|fnOf x x (bF st) (bw st) (ai st) dV kV dc pm an cd ct,sl}) (e:codeIn K cd x=true) (k:keepIn K (.ref f)=true) (b:∀us:δ ξ,us.length=ps.length->bindArgs (fnOf x x (bF st) (bw st) (ai st) dV kV dc pm an cd ct) {us,[]}=pure (ps.zip us)) (g:∀d,d.code=cd->(∀(s:ζ)(us:δ ξ),us.length=ps.length->BindsTo s d {us,[]} (ps.zip us))->ND K mg x st ps f d->R):R:=g _ rfl (λs us h=>.of_eq<|b us h) {{{_,_,_,_,_,_,_,_,_,_,rfl,l,e},.all b},k,mg_of X G a}
theorem fm1(C:oV K c)(x q:ρ)(st:Stmt)(ps:δ ρ)(a:findIn K (.ref c) x=some (some<|.ref f))(i:isFn K (.ref f)=true)(l:K.lookup f=some {oc,od,.func<|fnOf x q (bF st) (bw st) (ai st) dV kV dc pm an cd ct,sl}) (e:codeIn K cd q=true) (k:keepIn K (.ref f)=true) (b:∀us:δ ξ,us.length=ps.length->bindArgs (fnOf x q (bF st) (bw st) (ai st) dV kV dc pm an cd ct) {us,[]}=pure (ps.zip us)) (g:∀d,NF K c x q st ps f d->R):R:=g _ {{{_,_,_,_,_,_,_,_,_,_,rfl,l,e},.all b},a,i,k}
theorem fmd(C:oV K c)(x q:ρ)(st:Stmt)(ps:δ ρ)(a:findIn K (.ref c) x=some (some<|.ref f))(i:isFn K (.ref f)=true)(l:K.lookup f=some {oc,od,.func<|fnOf x q (bF st) (bw st) (ai st) (.ref da) kV dc pm an cd ct,sl}) (t:K.lookup da=some {.type "tuple",Qq,.seq #[.none] dn,Qr}) (e:codeIn K cd q=true) (k:keepIn K (.ref f)=true) (b:∀(s:ζ) (us:δ ξ),s.heap.get? da=some {.type "tuple",Qq,.seq #[.none] dn,Qr}->us.length=ps.length->BindsTo s (fnOf x q (bF st) (bw st) (ai st) (.ref da) kV dc pm an cd ct) {us,[]} (ps.zip us)) (b2:∀(s:ζ) (us:δ ξ),s.heap.get? da=some {.type "tuple",Qq,.seq #[.none] dn,Qr}->us.length+1=ps.length->BindsTo s (fnOf x q (bF st) (bw st) (ai st) (.ref da) kV dc pm an cd ct) {us,[]} (ps.zip<|us++[.none])) (g:∀d,NF K c x q st ps f d->Binds K d ps [.none]->R):R:=g _ {{{_,_,_,_,_,_,_,_,_,_,rfl,l,e},λs us hK hl=>by rw[List.append_nil]at hl⊢;exact b s us (hK _ _ t) hl},a,i,k} λs us hK hl=>b2 s us (hK _ _ t)<|by simpa using hl
theorem xr(X:K.In h)(G:h.Ns mainGlobals mg)(x:ρ)(a:nsIn K mainGlobals x=some none)(g:mg x=none->R):R:=g<|PySem.W.mg_none_of X G a
theorem LP(X:K.In h)(G:h.Ns mainGlobals mg)(x:ρ)(i:ν)(a:nsIn K mainGlobals x=some (some<|.int i tk))(g:mg x=some (.int i tk)->R):R:=g<|mg_of X G a
theorem Xy(X:K.In h)(G:h.Ns mainGlobals mg)(x:ρ)(a:nsIn K mainGlobals x=some (some<|.ref c))(l:K.lookup c=some o)(g:mg x=some (.ref c)->K.lookup c=some o->R):R:=g (mg_of X G a) l
theorem gvc(X:K.In h)(G:h.Ns mainGlobals mg)(x:ρ)(a:nsIn K mainGlobals x=some (some<|.ref c))(pg:plainGet K c Str.empty=true)(hd:hasDictIn K c=true)(po:plainOver K c=true)(sa:findIn K (.ref c) "__setattr__"= some (some<|.builtin "object.__setattr__"))(ms:makesIn K c=true)(kc:keepIn K (.ref c)=true) (g:mg x=some (.ref c)->oV K c->makesIn K c=true->keepIn K (.ref c)=true->R):R:=g (mg_of X G a) ⟨pg,hd,po,sa⟩ ms kc
theorem LQ(C:oV K c)(x:ρ)(a:findIn K (.ref c) x=some none)(g:findIn K (.ref c) x=some none->R):R:=g a
theorem Qt{P:ε}(l:K.lookup c=some o)(e:codeHdIn [(c,o)] c P=true):codeHdIn K c P=true:=by unfold codeHdIn at e⊢;rw[l];rw[show([(c,o)]:Φ).lookup c=some o by simp]at e;exact e
theorem gvm{P:ε}(X:K.In h)(e:d.code=.ref c)(o:K.lookup c=some {oC,od,.fields vC,sl})(q:vC[11]?=some (.ref P))(hh:codeHdIn [(c,{oC,od,.fields vC,sl})] c P=true)(g:codeHdIn K c P=true->R):R:=g<|Qt o hh
end
section
variable{Q:δ ξ->η}
theorem Xz(h:Q [])(us:δ ξ)(e:us.length=0):Q us:=by cases us with|nil=>exact h|cons a us=>cases e
theorem uV(h:∀a us,us.length=n->Q (a::us))(us:δ ξ)(e:us.length=n+1):Q us:=by cases us with|nil=>(cases e)|cons a us=>exact h a us<|Nat.succ.inj e
theorem Sz(h:∀a,Q [a]):∀us:δ ξ,us.length=1->Q us:=uV λa=>Xz<|h a
theorem ln2(h:∀a b,Q [a,b]):∀us:δ ξ,us.length=2->Q us:=uV λa=>Sz<|h a
theorem SE(h:∀a b c,Q [a,b,c]):∀us:δ ξ,us.length=3->Q us:=uV λa=>ln2<|h a
theorem XB(h:∀a b c d,Q [a,b,c,d]):∀us:δ ξ,us.length=4->Q us:=uV λa=>SE<|h a
theorem XD(h:∀a b c d e,Q [a,b,c,d,e]):∀us:δ ξ,us.length=5->Q us:=uV λa=>XB<|h a
theorem SF(h:∀a b c d e f,Q [a,b,c,d,e,f]):∀us:δ ξ,us.length=6->Q us:=uV λa=>XD<|h a
theorem Z_(h:∀a,Q [a])(us:δ ξ)(e:us.length+1=2):Q us:=Sz h us<|Nat.succ.inj e
theorem aaa(h:∀a b,Q [a,b])(us:δ ξ)(e:us.length+1=3):Q us:=ln2 h us<|Nat.succ.inj e
end
section
variable{K:Φ}{X:Cx}{x:ρ}{st:Stmt}{ps:δ ρ}{f:ε}{fd:FuncData}{sp:qh}{e:Δ}{es:δ Δ}{p pos:Pos}
theorem bp{t:iD}(T:ND K X.mg x st ps f fd)(F:bK X.prog X.w K X.mg X.base (fF X.prog X.w X.mg) k f fd ps<|rK K sp)(hr:bO k' X.A)(ha:DA K X (e::es) t)(hle:ψ (k<=k') qJK) (hg:ψ (Gl X x) qQJ) (rR:ψ ((x==("__debug__": ρ))=false) qQZ) (he:ψ (starEach (e::es) X.env=(false,eval e X.env)::starEach es X.env) qQJ) (eJ:ψ ((backTo pos<|starEach es X.env).any (·.1)=false) qQJ) (hK:ψ (X.K=K) qQJ): DE K X (.Call (.Name x p) (e::es) [] pos) (Nl sp [] t):=cf (F.mono hle) hr T.m T.k T.b d0 ha hg rR he eJ hK
end
theorem bO.u(r:bO k A):A.units+64<cLine:=r.units
end L2
namespace L2
open PySem PySem.Spec PyProof.Rows PySem.SeqAt
def isStrOf(z:ρ):ξ->χ|.str y _=>y==z|_=>false
end L2
namespace L2
open PySem PySem.Spec PyProof.Rows
section
variable{K:Φ}
theorem RvAll.thr(h:RvAll K H [a,b,c] vs):∃x y z,vs=[x,y,z]/\Rv K H a x/\Rv K H b y/\Rv K H c z:=by obtain⟨x,vs1,rfl,h1,h⟩:=h.cons;obtain⟨y,vs2,rfl,h2,h⟩:=h.cons;obtain⟨z,vs3,rfl,h3,h⟩:=h.cons;rw[h.nil];exact⟨x,y,z,rfl,h1,h2,h3⟩
noncomputable def iT:δ D->δ D->δ D->δ D|x::xs,y::ys,z::zs=>.tup [x,y,z]::iT xs ys zs|_,_,_=>[]
theorem mJ:∀{xs ys zs:δ D},xs.length=ys.length->xs.length=zs.length->(iT xs ys zs).length=xs.length|[],_,_,_,_=>by rw[iT.eq_def]|x::xs,y::ys,z::zs,h,k=>congrArg Nat.succ<|mJ (Nat.succ.inj h)<|Nat.succ.inj k
theorem mK:∀{xs ys zs:δ D}{i:π}{d:D},(iT xs ys zs)[i]?=some d->∃x y z,xs[i]?=some x/\ys[i]?=some y/\zs[i]?=some z/\d=.tup [x,y,z]|x::xs,y::ys,z::zs,0,d,h=>{x,y,z,rfl,rfl,rfl,(zS h).symm}|x::xs,y::ys,z::zs,i+1,d,h=>mK (i:=i) h|[],_,_,i,d,h=>by rw[iT.eq_def]at h;simp at h|_::_,[],_,i,d,h=>by rw[iT.eq_def]at h;simp at h|_::_,_::_,[],i,d,h=>by rw[iT.eq_def]at h;simp at h
def Qu(t:iD):wA:=λσ S R Z=>t σ S (λds S1=>∃xs ys zs,ds=[.tup xs,.tup ys,.tup zs]/\xs.length=ys.length/\xs.length=zs.length/\R {iT xs ys zs,λ_=>True} S1) Z
end
mutual
inductive Dr (S:ak):D->PyData->η where
 |au:Dr S .au .none
 |bl (b:χ):Dr S (.bl b) (.bool b)
 |int (i:ν):Dr S (.int i) (.int i)
 |str (z:ρ):Dr S (.str z) (.str z)
 |tup {ds:δ D}{ps:δ PyData} : VJ S ds ps->Dr S (.tup ds) (.tuple ps)
 |ref {a:ε}{ds:δ D}{ps:δ PyData} : S a=some (.lst ds)->VJ S ds ps->Dr S (.ref a) (.list ps)
inductive VJ (S:ak):δ D->δ PyData->η where
 |nil:VJ S [] []
 |cons {d:D}{ds:δ D}{p:PyData}{ps:δ PyData} : Dr S d p->VJ S ds ps->VJ S (d::ds) (p::ps)
end
def kh:Stmt->ρ|.FunctionDef n _ _ _ _ _ _ _ _ _=>n|_=>Str.empty
def sj(s:Stmt):δ Str:=(bF s).args.map λa=>a.arg
def Ft(K:Φ)(mg:ρ->θ ξ)(top:π->Stmt)(f:π->ε)(d:π->FuncData)(l:δ π):Prop:=∀i∈l,ND K mg (kh<|top i) (top i) (sj<|top i) (f i)<|d i
def BP(K:Φ)(c:ε)(q:ρ)(cl:Stmt)(f:π->ε)(d:π->FuncData)(l:δ π):Prop:=∀i∈l,NF K c (kh<|inClass cl i) (q++kh (inClass cl i)) (inClass cl i) (sj<|inClass cl i) (f i)<|d i
section
variable{K:Φ}{h:Γ}{mg:ρ->θ ξ}{od an:θ ε}{sl:Array (θ ξ)}{oc dV kV dc pm cd ct:ξ}{x:ε}{top:π->Stmt}{l:δ π}{c:ε}{q:ρ}{cl:Stmt}
theorem af(X:K.In h)(G:h.Ns mainGlobals mg)(i:π)(ni:i∉l)(a:nsIn K mainGlobals (kh<|top i)=some (some<|.ref x))(o:K.lookup x=some {oc,od,.func<|fnOf (kh<|top i) (kh<|top i) (bF<|top i) (bw<|top i) (ai<|top i) dV kV dc pm an cd ct,sl}) (e:codeIn K cd (kh<|top i)=true) (k:keepIn K (.ref x)=true) (b:∀us:δ ξ,us.length=(sj<|top i).length->bindArgs (fnOf (kh<|top i) (kh<|top i) (bF<|top i) (bw<|top i) (ai<|top i) dV kV dc pm an cd ct) {us,[]}=pure ((sj<|top i).zip us)) (g:∃f d,Ft K mg top f d l):∃f d,Ft K mg top f d (i::l):=by refine fn1 X G _ _ _ a o e k b λd0 F=>?_;obtain⟨f,d,A⟩:=g;refine{λj=>if j=i then x else f j,λj=>if j=i then d0 else d j,λj hj=>?_};by_cases z:j=i;subst z;dsimp only;rw[xL rfl,xL rfl];exact F;dsimp only;rw[xz z,xz z];exact A j<|(zk.mp hj).resolve_left z
theorem af0:∃f d,Ft K mg top f d []:={λ_=>0,λ_=>fnOf Str.empty Str.empty (bF<|.Pass {0,0,0,0}) [] (ai<|.Pass {0,0,0,0}) .none .none .none .none none .none .none,λ_ h=>nomatch h}
theorem afx{R:η}(_:K.In h)(_:h.Ns mainGlobals mg)(g:∃f d,Ft K mg top f d l)(r:∀f d,Ft K mg top f d l->R):R:=by obtain⟨f,d,A⟩:=g;exact r f d A
theorem amx{R:η}(_:oV K c)(g:∃f d,BP K c q cl f d l)(r:∀f d,BP K c q cl f d l->R):R:=by obtain⟨f,d,A⟩:=g;exact r f d A
theorem am(C:oV K c)(i:π)(ni:i∉l)(a:findIn K (.ref c) (kh<|inClass cl i)=some (some<|.ref x))(w:isFn K (.ref x)=true)(o:K.lookup x=some {oc,od,.func<|fnOf (kh<|inClass cl i) (q++kh (inClass cl i)) (bF<|inClass cl i) (bw<|inClass cl i) (ai<|inClass cl i) dV kV dc pm an cd ct,sl}) (e:codeIn K cd (q++kh (inClass cl i))=true) (k:keepIn K (.ref x)=true) (b:∀us:δ ξ,us.length=(sj<|inClass cl i).length->bindArgs (fnOf (kh<|inClass cl i) (q++kh (inClass cl i)) (bF<|inClass cl i) (bw<|inClass cl i) (ai<|inClass cl i) dV kV dc pm an cd ct) {us,[]}=pure ((sj<|inClass cl i).zip us)) (g:∃f d,BP K c q cl f d l):∃f d,BP K c q cl f d (i::l):=by refine fm1 C _ _ _ _ a w o e k b λd0 F=>?_;obtain⟨f,d,A⟩:=g;refine{λj=>if j=i then x else f j,λj=>if j=i then d0 else d j,λj hj=>?_};by_cases z:j=i;subst z;dsimp only;rw[xL rfl,xL rfl];exact F;dsimp only;rw[xz z,xz z];exact A j<|(zk.mp hj).resolve_left z
theorem am0:∃f d,BP K c q cl f d []:={λ_=>0,λ_=>fnOf Str.empty Str.empty (bF<|.Pass {0,0,0,0}) [] (ai<|.Pass {0,0,0,0}) .none .none .none .none none .none .none,λ_ h=>nomatch h}
end
section
variable{K:Φ}{X:Cx}{x q:ρ}{st:Stmt}{ps:δ ρ}{C f:ε}{fd:FuncData}{sp:qh}{o e:Δ}{es:δ Δ}{apos pos:Pos}{k k':π}
theorem so{t:iD}(he:DE K X o ta)(c:oV K C)(T:NF K C x q st ps f fd)(F:bK X.prog X.w K X.mg X.base (fF X.prog X.w X.mg) k f fd ps<|rK K sp)(hr:bO k' X.A)(ha:DA K X (e::es) t)(hle:ψ (k<=k') qJK)
  (wJ:ψ (starEach (e::es) X.env=(false,eval e X.env)::starEach es X.env) qQJ) (eJ:ψ ((backTo pos<|starEach es X.env).any (·.1)=false) qQJ)
  (ht:ψ (eval (.Call (.Attribute o x apos) (e::es) [] pos) X.env=(do
   let ov <-eval o X.env
   standAt apos.atName
   let (f,first) <-holding [ov] (getMethod ov x pl)
   callWith pos f first (backTo pos<|starEach (e::es) X.env) (backToKw pos<|keywordEach [] X.env))) qQJ) (hK:ψ (X.K=K) qQJ):
  DE K X (.Call (.Attribute o x apos) (e::es) [] pos) (Dq C x sp [] ta t):=Zz he c T.e (F.mono hle) hr T.b d0 ha wJ eJ ht hK
theorem oA(he:DE K X o ta)(c:oV K C)(T:NF K C x q st ps f fd)(F:bK X.prog X.w K X.mg X.base (fF X.prog X.w X.mg) k f fd ps<|rK K sp)(hr:bO k' X.A)(hle:ψ (k<=k') qJK)
  (ht:ψ (eval (.Call (.Attribute o x apos) [] [] pos) X.env=(do
   let ov <-eval o X.env
   standAt apos.atName
   let (f,first) <-holding [ov] (getMethod ov x pl)
   callWith pos f first (backTo pos<|starEach [] X.env) (backToKw pos<|keywordEach [] X.env))) qQJ) (hK:ψ (X.K=K) qQJ):
  DE K X (.Call (.Attribute o x apos) [] [] pos) (Dq C x sp [] ta Lo):=ZA he c T.e (F.mono hle) hr T.b d0 ht hK
end
section
variable{K:Φ}{X:Cx}
def VL:D->θ ν->θ ν->ak->KD->Prop:=λx lo hi S R=>match x with|.ref a=>∃ds,S a=some (.lst ds)/\∀p,S p=none->R (.ref p) (S.set p<|.lst<|cN ds lo hi)|.jD ds=>∀p,S p=none->R (.ref p) (S.set p<|.lst<|cN ds lo hi)|_=>False
theorem VM(hK:X.K=K):T_ X (λx lo hi H Q=>∃d S R,Rv K H d x/\Rs K S H/\VL d lo hi S R/\Cn K H R Q):=by rintro pins s σ H x v vl vu lo hi sl Q I rx hs pl pu ⟨d,S,R,r1,hS,h,hR⟩;subst hK;cases d with|ref a=>(obtain⟨ds,e,h⟩:=h;obtain⟨xs,e1,t⟩:=hS.lst e;exact Dd pins s σ H _ v vl vu lo hi sl Q I rx hs pl pu {a,xs,r1.ref,.of e1,λp hp=>hR.new hS hp (h p)<|t.cut lo hi})|jD ds=>(obtain⟨a,xs,rfl,q,t⟩:=r1.jD;exact Dd pins s σ H _ v vl vu lo hi sl Q I rx hs pl pu {a,xs,rfl,q.sq,λp hp=>hR.new hS hp (h p)<|t.cut lo hi})|_=>exact h.elim
def aab(te:TD)(tl th:Ng):TD:=λσ S R Z=>te σ S (λx S1=>tl σ S1 (λl S2=>th σ S2 (λu S3=>VL x l u S3 R) Z) Z) Z
theorem Qv{e:Δ}{lo hi:θ Δ}{te:TD}{tl th:Ng}{p2 pos:Pos}(he:DE K X e te)(hl:DO K X lo tl)(hu:DO K X hi th)(hK:ψ (X.K=K) qQJ):DE K X (.Subscript e (.Slice lo hi none p2) pos) (aab te tl th):=
 ⟨λy=>(wO (X:=y.cx) (VM hK) (he.of y) (hl.of y)<|hu.of y).mono <| by rintro τ H Q ⟨σ,S,R,Z,aA,hS,q,hR,hZ⟩;exact
  ⟨σ,S,_,Z,aA,hS,q,λd S1 x H1 r1 v1 s1 k1=>⟨σ,S1,_,Z,aA.ts k1,s1,r1,λl S2 H2 r2 s2 k2=>⟨σ,S2,_,Z,aA.ts<|k1.trans k2,s2,r2,λu S3 H3 r3 s3 k3=>⟨d,S3,R,Rv.ts (k2.trans k3) _ v1,s3,r3,hR.kp<|(k1.trans k2).trans k3⟩,hZ.kp<|k1.trans k2⟩,hZ.kp k1⟩,hZ⟩⟩
def aac:uL:=λx y S R=>match x,y with|.int i,.int j=>R (.int<|i+j) S|.str a,.str b=>a.length+b.length<=sizeLine/\R (.str<|a++b) S|.ref a,.ref b=>∃xs ys,S a=some (.lst xs)/\S b=some (.lst ys)/\xs.length+ys.length<=sizeLine/\∀p,S p=none->R (.ref p) (S.set p<|.lst<|xs++ys)|_,_=>False
theorem aV:oZ K (binaryOp .Add) aac:=by rintro X hK hu pins s σ H x y v u Q I rx ry ⟨d,e,S,R,r1,r2,hS,h,hR⟩;subst hK;cases d<;>cases e<;>first|exact False.elim h|exact OZ pins s σ H x y v u Q I rx ry {_,_,r1.int,r2.int,hR.now hS h<|aM _}|exact AZ pins s σ H x y v u Q I rx ry {_,_,r1.str,r2.str,h.1,hR.now hS h.2<|dI _}|skip;obtain⟨xs,ys,e1,e2,hl,q⟩:=h;obtain⟨vs,h1,t1⟩:=hS.lst e1;obtain⟨ws,h2,t2⟩:=hS.lst e2;exact Po pins s σ H x y v u Q I rx ry {_,_,vs,ws,r1.ref,r2.ref,h1,h2,by rw[t1.len,t2.len];exact hl,λp hp=>hR.new hS hp (q p)<|t1.app t2}
end
structure W(sp:qh)(ds:δ D)(S:ak)(R:KD)(Z:KX):η where
 of:sp ds S R Z
section
variable{K:Φ}{X:Cx}
def dTc(t:jE):jE:=λσ S R Z=>∃P:χ->ak->η,t σ S P Z/\∀b S',P b S'->R b S'
theorem VN{t:jE}(h:DT K X e t):DT K X e (dTc t):=⟨λy=>(h.of y).mono <| by rintro τ H Q ⟨σ,S,R,Z,aA,hS,⟨P,q,hP⟩,hR,hZ⟩;exact{σ,S,P,Z,aA,hS,q,λb S1 H1 p s k=>hR b S1 H1 (hP b S1 p) s k,hZ}⟩
end
def VO(s:Stmt):δ Str:=((ai s).names.filter λp=>p.2==.local||p.2==.cell).map (·.1)
theorem bV(s:Stmt)(a:ψ ((ai s).kind=.function/\(ai s).isCoroutine=false/\(ai s).isGenerator=false/\(VO s).take (sj s).length=sj s) qQ4)(b:ψ ((VO s).Nodup/\(∀x∈sj s,(ai s).names.lookup x=some .local\/(ai s).names.lookup x=some .cell)/\∀y∈(ai s).names,y.2≠.free) qQ8):fI (VO s) (sj s) (ai s):=fsc a b
section
variable{P:Ψ}{w:Ω}{K:Φ}{mg:ρ->θ ξ}{base:Γ}{x qual:ρ}{st:Stmt}{f:ε}{fd:FuncData}{N ps:δ ρ}{k:π}{sp:qh}
theorem uP.ck(F:uP K x qual st f fd)(S:fI N ps<|ai st) (kQ:∀(fJ:ξ)(A:ϕ)(outer:δ Env)(s:ζ)(H:Hp)(E:XK)(ds:δ D)(S:ak)(R:KD)(Z:KX),bO k (A.deeper<|PyProof.Rows.envOfC qual (ai st) s.heap.objs.size f fJ)->sp ds S R Z->∃t,GA K (jB (fF P w mg) P w K mg base N qual (ai st) f fJ A outer s H E) true (bw st) t/\t {nx:=λ_ S'=>Fo S'<|R .au,rt:=λd S'=>Fo S'<|R d} (iS N ds) S λ_ C S'=>Fo S'<|Z C) (len:∀ds S R Z,sp ds S R Z->ds.length=ps.length:=by intro _ _ _ _ h;first|(cases h;subst_vars;rfl;done)|(repeat first|(obtain⟨e,_⟩:=h;rw[e];rfl;done)|obtain⟨_,h⟩:=h)):bK P w K mg base (fF P w mg) (k+1) f fd ps (rK K sp):=F.ok S len kQ
end
structure ab8(X:Cx)(N:δ ρ)(src:δ (θ π))(scope:Scope):η where
 kind:scope.kind=.function
 nd:(scope.names.map Prod.fst).Nodup
 loc:∀y∈scope.names,y.2=.local->scope.names.lookup y.1=some .local
 AI:∀y∈scope.names,y.2=.free->X.env.kindOf y.1=some .cell\/X.env.kindOf y.1=some .free
 len:src.length=N.length
 src:∀(i j:π)(x:ρ),src[i]?=some (some j)->N[i]?=some x->X.N[j]?=some x/\scope.names.lookup x=some .free/\Ov X.env.scope x
section
variable{K:Φ}
def Each(S:ak)(x:D)(ds:δ D)(g:D->χ):Prop:=∃p,Dl S x p/\p.canLay0=true/\∀d∈ds,∃q,Dl S d q/\q.canLay0=true/\(q.depth<=62\/p.depth<=62)/\PyData.eqv q p=g d
def inE(neg:χ):uL:=λx y S R=>∃a ds g,y=.ref a/\S a=some (.lst ds)/\Each S x ds g/\R (.bl<|if neg then !ds.any g else ds.any g) S
theorem DM:∀{ds:δ D}{xs:δ V}{us:δ ξ},RvAll K H ds xs->Vals xs us->∃L:δ (D×V×ξ),L.map (·.1)=ds/\L.map (·.2.2)=us/\∀q∈L,Rv K H q.1 q.2.1/\RelV q.2.1 q.2.2|[],_,_,h,.nil=>{[],rfl,rfl,λ_ h=>(nomatch h)}|[],_,_,h,.cons _ _=>(by cases h.nil)|d::ds,xs,us,h,v=>by obtain⟨z,zs,rfl,h1,h2⟩:=h.cons;cases v with|cons r t=>obtain⟨L,e1,e2,e3⟩:=DM h2 t;exact{(d,z,_)::L,by rw[zw,e1],by rw[zw,e2],List.forall_mem_cons.mpr {⟨h1,r⟩,e3}}
theorem Qw{X:Cx}{pins:δ<|ε×Obj}{s:ζ}{σ:St}{H:Hp}{S:ak}{x:D}{v:V}{u:ξ}{a:ε}{ds:δ D}{g:D->χ}(hu:X.A.units+64<cLine)(I:Inv X pins σ H s)(rx:RelV v u)(hS:Rs X.K S H)(r1:Rv X.K H x v)(ha:S a=some (.lst ds))(al:Each S x ds g): ∃(ar:δ ξ)(f:ξ->χ),s.heap.IsList a ar.toArray/\(∀w∈ar.toArray,SeqAt.EqAt X.A.in1 s w u<|f w)/\ar.toArray.any f=ds.any g:=by
 obtain⟨p,h1,h2,h3⟩:=al;obtain⟨xs,e1,t⟩:=hS.lst ha;obtain⟨ar,r,pl,hz⟩:=I.list<|.of e1;obtain⟨L,l1,l2,l3⟩:=DM t r;have ans:∀q∈L,SeqAt.EqAt X.A.in1 s q.2.2 u (g q.1):=λq hq=>by obtain⟨rv,rl⟩:=l3 q hq;obtain⟨e,q1,q2,q3,q4⟩:=h3 q.1 (by rw[<-l1];exact zg.mpr ⟨q,hq,rfl⟩);obtain⟨as,ra⟩:=I.reads e (q1.dt hS rv) rl;obtain⟨bs,rb⟩:=I.reads p (h1.dt hS r1) rx;rw[<-q4];exact SeqAt.eqAt_reads e p _ s _ _ as bs ra rb q2 h2<|by rw[Around.in1_units];rcases q3 with q3|q3<;>lia
 have dq:DecidableEq Value:=λ_ _=>Classical.propDecidable _;refine{ar,λw=>L.any λq=>ω (q.2.2=w)&&g q.1,pl.isList,λw hw=>?_,?_};have hw:w∈ar:=by simpa using hw
 rw[<-l2]at hw;obtain⟨q,hq,rfl⟩:=zg.mp hw;cases e:(L.any λq'=>ω (q'.2.2=q.2.2)&&g q'.1) with|true=>(obtain⟨q',AK,e'⟩:=yx.mp e;rw[zJ,zK]at e';have:=ans q' AK;rw[e'.1,e'.2]at this;dsimp only;rw[e];exact this)|false=>have:=ans q hq;have e2:g q.1=false:=(by cases e3:g q.1 with|false=>rfl|true=>have:=List.any_eq_false.mp e q hq;rw[zu rfl,e3]at this;exact absurd rfl this);rw[e2]at this;dsimp only;rw[e];exact this
 rw[List.any_toArray,yq,yx,yx];constructor;rintro⟨w,_,e⟩;obtain⟨q,hq,e⟩:=yx.mp e;rw[zJ]at e;exact{q.1,by rw[<-l1];exact zg.mpr ⟨q,hq,rfl⟩,e.2};rintro⟨d,hd,e⟩;rw[<-l1]at hd;obtain⟨q,hq,rfl⟩:=zg.mp hd;exact{q.2.2,by rw[<-l2];exact zg.mpr ⟨q,hq,rfl⟩,yx.mpr {q,hq,by rw[zu rfl,e];rfl}}
theorem Ih:oZ K (compareOp .NotIn) (inE true):=by rintro X hK hu pins s σ H x y v u Q I rx ry ⟨d,e,S,R,r1,r2,hS,⟨a,ds,g,rfl,ha,al,h⟩,hR⟩;subst hK;cases r2.ref;cases ry;obtain⟨ar,f,e1,e2,e3⟩:=Qw hu I rx hS r1 ha al;refine SeqAt.notIn_listAt f e1 e2 {.bl _,H,I,rfl,?_};rw[e3];exact hR.now hS h<|bY _
def aad(i j:π)(ta:iD):kZ:=λDe σ S Z=>ta σ S (λds S1=>∃v w,ds=[v,w]/\De.nx ((σ.set i<|some v).set j<|some w) S1)<|Z σ
theorem aae(hN:X.N.Nodup)(ha:DA K X [a,b] ta)(hi:ψ (X.N[i]?=some x) qQJ)(hj:ψ (X.N[j]?=some y) qQJ)(iw:ψ (i≠j) qQZ) (hx:ψ (X.env.scope.names.lookup x=some .local) qQJ) (hy:ψ (X.env.scope.names.lookup y=some .local) qQJ) (hw:ψ (swappedStores [.Tuple [.Name x px,.Name y py] kt pt] (.Tuple [a,b] k2 pt2) X.env=pure (some [x,y])) qQJ) (hs:ψ (swapsWithSole [.Tuple [.Name x px,.Name y py] kt pt] (.Tuple [a,b] k2 pt2) pos.line X.env=pure false) qQJ) (hc:ψ (X.calm=true) qQJ):DS K X bb (.Assign [.Tuple [.Name x px,.Name y py] kt pt] (.Tuple [a,b] k2 pt2) pos) (aad i j ta):=⟨λz=>(OR (X:=z.cx) hc hN hi hj iw hx hy (ha.of z) hw hs).mono <| by rintro D τ H ⟨σ,S,De,Z,aA,hS,q,hD,hZ⟩;exact{σ,S,_,_,aA,hS,q,by rintro ds S1 vs H1 ⟨v,w,e,r⟩ v1 s1 k1;subst e;obtain⟨a,b,rfl,r1,r2⟩:=v1.two;exact{a,b,rfl,hD.nx _ _ _ _ r (((aA.ts k1).set i r1).set j r2) s1 k1},hZ.at aA}⟩
end
section
variable{K:Φ}{p:Pos}{e:Δ}
structure aeE(P:Ψ)(w:Ω)(K:Φ)(mg:ρ->θ ξ)(base:Γ)(k:π)(f:ε)(sp:Sp):η where
 ex:∃fd ps,bK P w K mg base (fF P w mg) k f fd ps sp/\Binds K fd ps []
 kp:keepIn K (.ref f)=true
inductive CvR {ι:Type} (i:π) (fa:ι->ε) (σ:SD) (p:ι->η):η where
 |mk (o:ι) (e:σ[i]?=some (some<|.ref<|fa o)) (r:p o)
end
section
variable{R:η}{K:Φ}{h:Γ}{mg:ρ->θ ξ}{tk:Tok}
theorem gvs(X:K.In h)(G:h.Ns mainGlobals mg)(x:ρ)(z:ρ)(a:nsIn K mainGlobals x=some (some<|.str z tk))(g:mg x=some (.str z tk)->R):R:=g<|mg_of X G a
end
section
variable{K:Φ}{X:Cx}{pos:Pos}
structure DPs(K:Φ)(X:Cx)(pos:Pos)(keys:δ (θ Δ))(values:δ Δ)(l:δ (ρ×TD)):η where
 of:∀{b:χ}(y:Ev X b),PPs y.cx pos keys values<|l.map λkt=>(T K y.E<|dC<|.str kt.1,T K y.E kt.2)
end
section
variable{K:Φ}{X:Cx}{b:χ}{N:δ ρ}{src:δ (θ π)}{scope:Scope}{iter elt:Δ}{ifs:δ Δ}{pos p:Pos}{ti:wA}{tc:jE}{te:TD}{a:ρ}
theorem js(s:Stmt)(hs:ψ (X.env.scope=ai s) qQJ)(hN:ψ (X.N=VO s) qQJ)(h:ψ (chkC (ai s) (VO s) N src scope=true) qQ8):a_ X N src scope:=Uu _ _ hs hN h
structure C1(X:Cx)(N:δ ρ)(src:δ (θ π))(scope:Scope)(a:ρ):η where
 nd:N.Nodup
 h0:N[0]?=some a
 hr:src[0]?=some none
 hx:∀C s H ex pn,Loc (fK X N scope C s H ex pn).env.scope a/\(fK X N scope C s H ex pn).env.scope.names.lookup a=some .local
theorem su(S:a_ X N src scope)(hit:DI K X (.Name a p) iter ti)(hi:∀{C s H ex pn},Sm K (fK X N scope C s H ex pn) ifs tc)(he:∀{C s H ex pn},DE K (fK X N scope C s H ex pn) elt te)(c:ψ (C1 X N src scope a) qJ5)(hf:ψ (∀x,foldedSetIterable iter X.env x=pure x) qQ0)(hc:ψ (X.calm=true) qQJ): DE K X (.ListComp elt [{.Name a p,iter,ifs,0}] scope pos) (tJ ti src (Sj 0) tc te):=Vi S hit (cg1 c.nd c.h0 c.hx) (Dg c.hr) Ds (λ_ _ _ _ _=>hi) (λ_ _ _ _ _=>he) hf hc
theorem qr(i:π)(hd:X.N.Nodup)(S:a_ X N src scope)(hit:DI K X (.Name a p) iter ti)(hi:∀{C s H ex pn},Sm K (fK X N scope C s H ex pn) ifs tc)(he:∀{C s H ex pn},DE K (fK X N scope C s H ex pn) elt te)(c:ψ (C1 X N src scope a) qJ5)(Ur:ψ (X.N[i]?=some x) qQJ)(Bk:ψ (X.env.scope.names.lookup x=some .local) qQJ) (Us:ψ (swapsWith (.ListComp elt [{.Name a p,iter,ifs,0}] scope pos) (some<|.Name x pos') E9.line X.env=pure true) qQJ) (hf:ψ (∀x,foldedSetIterable iter X.env x=pure x) qQ0) (hc:ψ (X.calm=true) qQJ): DS K X b (.Assign [.Name x pos'] (.ListComp elt [{.Name a p,iter,ifs,0}] scope pos) E9) (P6 i<|tJ ti src (Sj 0) tc te):=stc hd S hit (cg1 c.nd c.h0 c.hx) (Dg c.hr) Ds (λ_ _ _ _ _=>hi) (λ_ _ _ _ _=>he) Ur Bk Us hf hc
end
theorem bZ{p:χ}{A B:η}(q:B)(h:ψ (p=false) qQ8):if p=true then A else B:=by rw[h,xz zd];exact q
theorem kM{p:χ}{A B:η}(q:A)(h:ψ (p=true) qQ8):if p=true then A else B:=by rw[h,xL rfl];exact q
noncomputable def VP(m i:π):Nat:=(i*5+1)%(m+1)
noncomputable def sv(m:π):π->π->π|0,i=>i|k+1,i=>VP m<|sv m k i
noncomputable def Qx(m:π):π->π->δ π|0,_=>[]|k+1,i=>i::Qx m k (VP m i)
noncomputable def xt(m:π):Bool:=(Qx m (m+1) 0).foldl (λb i=>b ||| 1 <<< i) 0==2^(m+1)-1&&sv m (m+1) 0==0
theorem DN:∀(l:δ π)(b j:π),(l.foldl (λb i=>b ||| 1 <<< i) b).testBit j=true->b.testBit j=true\/j∈l
 |[],b,j,h=>.inl h
 |i::l,b,j,h=>by
  rcases DN l _ j h with h|h;rw[Nat.testBit_or,yS]at h;rcases h with h|h;exact .inl h;rw[Nat.testBit_shiftLeft,zJ,zK]at h;have:j-i=0:=Classical.byContradiction λq=>by obtain⟨k,e⟩:=Nat.exists_eq_succ_of_ne_zero q;rw[e,Nat.testBit_succ]at h;simp at h
  exact .inr (by rw[show j=i by lia];exact zj);exact .inr<|zh _ h
theorem k_(m a b i:π):sv m (a+b) i=sv m a (sv m b i):=by induction a with|zero=>rw[y6];rfl|succ a ih=>rw[Nat.succ_add];show VP m _=VP m _;rw[ih]
theorem xu:∀{k i j:π},j∈Qx m k i->∃a,a<k/\sv m a i=j|0,i,j,h=>nomatch h|k+1,i,j,h=>by rcases zk.mp h with rfl|h;exact{0,Nat.succ_pos _,rfl};obtain⟨a,ha,e⟩:=xu h;exact{a+1,Nat.succ_lt_succ ha,by rw[k_];exact e}
theorem LR(h:xt m=true)(hi:i<=m)(hj:j<=m):∃k,k<=m/\sv m k i=j:=by
 unfold xt at h;rw[zJ,y3,y3]at h;obtain⟨h1,h2⟩:=h;have at':∀x,x<=m->∃a,a<m+1/\sv m a 0=x:=λx hx=>by refine xu<|(DN _ 0 x ?_).resolve_left (by simp);rw[h1,Nat.testBit_two_pow_sub_one];exact zu<|Nat.lt_succ_of_le hx
 obtain⟨a,ha,rfl⟩:=at' i hi;obtain⟨b,hb,rfl⟩:=at' j hj;by_cases q:a<=b;exact{b-a,by lia,by rw[<-k_];congr 1;lia};refine{b+(m+1)-a,by lia,?_};rw[<-k_,show b+(m+1)-a+a=b+(m+1) by lia,k_,h2]
noncomputable def rn(m:π):π->π->π->π×π|0,i,p=>(i,p)|k+1,i,p=>SetTable.leap m (rn m k i p).1 (rn m k i p).2
theorem VQ(m i p:π):∀k,(rn m k i p).2=p/32^k|0=>by simp[rn]|k+1=>by show(rn m k i p).2/32=_;rw[VQ m i p k,Nat.div_div_eq_div_mul,Nat.pow_succ]
theorem NG(m i p k:π)(h:p<2^64):∀n,(rn m (13+n) i p).1=sv m n (rn m 13 i p).1|0=>rfl|n+1=>by show((rn m (13+n) i p).1*5+1+(rn m (13+n) i p).2/32)%(m+1)=VP m (sv m n _);rw[NG m i p k h n,VQ,Nat.div_eq_of_lt (a:=p) (b:=32^(13+n)),Nat.zero_div];rfl;refine zt h ?_;rw[Nat.pow_add];exact zG (show 2^64<=32^13 by decide)<|Nat.le_mul_of_pos_right _<|Nat.pow_pos<|by decide
theorem VR(hi:i<=m):∀k,(rn m k i p).1<=m|0=>hi|k+1=>Nat.le_of_lt_succ<|Nat.mod_lt _<|Nat.succ_pos _
theorem LS(h:ν):SetTable.bits h<2^64:=by unfold SetTable.bits;have:=zM h (show(0:ν)<2^64 by decide);have:=zR h (show(2^64:ν)≠0 by decide);lia
theorem Ii(hc:xt m=true)(hj:j<=m)(h:ν):∃k,k<m+14/\(rn m k (SetTable.bits h%(m+1))<|SetTable.bits h).1=j:=by obtain⟨k,hk,e⟩:=LR hc (VR (p:=SetTable.bits h) (Nat.le_of_lt_succ<|Nat.mod_lt (SetTable.bits h)<|Nat.succ_pos m) 13) hj;exact{13+k,by lia,by rw[NG _ _ _ 0<|LS h];exact e}
noncomputable def DP(t:SetTable):π->SetTable.Probe->SetTable.Probe|0,p=>p|n+1,p=>DP t n<|t.advance p
theorem DQ(t:SetTable):∀(a b:π)(p:SetTable.Probe),DP t (a+b) p=DP t b (DP t a p)|0,b,p=>by rw[y6];rfl|a+1,b,p=>by rw[Nat.succ_add];exact DQ t a b _
noncomputable def LU(m i q:π):SetTable.Probe:={j:=i,more:=SetTable.runEnd m i-i,i:=i,perturb:=q,dummy:=none}
theorem DR(t:SetTable)(i q:π):∀(r j:π),DP t (r+1) ⟨j,r,i,q,none⟩=LU t.mask (SetTable.leap t.mask i q).1 (SetTable.leap t.mask i q).2|0,j=>rfl|r+1,j=>DR t i q r<|j+1
theorem Ij(t:SetTable)(i p:π):∀k,∃n,n<=10*k/\DP t n (LU t.mask i p)=LU t.mask (rn t.mask k i p).1 (rn t.mask k i p).2
 |0=>{0,zm _,rfl}
 |k+1=>by
  obtain⟨n,hn,e⟩:=Ij t i p k;refine{n+(SetTable.runEnd t.mask (rn t.mask k i p).1-(rn t.mask k i p).1+1),?_,?_};have:SetTable.runEnd t.mask (rn t.mask k i p).1-(rn t.mask k i p).1<=9:=by unfold SetTable.runEnd;split<;>lia
  lia;rw[DQ,e];exact DR t _ _ _ _
theorem Ik:∀(m:π)(l:δ π),l.length<=m->∃j,j<=m/\j∉l|0,l,h=>{0,zm _,by rw[List.length_eq_zero_iff.mp<|Nat.le_zero.mp h];exact zP}|m+1,l,h=>by by_cases q:m+1∈l;obtain⟨j,hj,hn⟩:=Ik m (l.erase<|m+1) (by rw[List.length_erase_of_mem q];lia);exact{j,by lia,λc=>hn<|(List.mem_erase_of_ne<|by lia).mpr c};exact{m+1,zm _,q}
theorem Fu{t:SetTable}(h:j∉t.place.toList)(hd:t.dummies=#[]):t.slot j=.empty:=by
 unfold SetTable.slot SetTable.has;have:(t.place[SetTable.below t.place j]?==some j)=false:=by rw[beq_eq_false_iff_ne];intro e;exact h<|Array.mem_toList_iff.mpr<|Array.mem_of_getElem? e
 simp only[this,hd];simp
theorem Il{t:SetTable}(hd:t.dummies=#[]):t.slot j≠.dummy:=by unfold SetTable.slot SetTable.has;rw[hd];dsimp only;split;intro e;cases e;simp
theorem Fv{t:SetTable}(h:t.slot j=.live i):i<t.place.size:=by unfold SetTable.slot at h;dsimp only at h;split at h;rename_i q;cases h;rw[y3]at q;exact(Array.getElem?_eq_some_iff.mp q).1;split at h<;>cases h
theorem Im{t:SetTable}(hc:xt t.mask=true)(hd:t.dummies=#[])(hs:t.place.size<=t.mask)(h:ν):∃n,n<10*SetTable.turns t.mask/\t.slot (DP t n<|t.probeStart h).j=.empty:=by obtain⟨j,hj,hn⟩:=Ik t.mask t.place.toList (by simpa using hs);obtain⟨k,hk,e⟩:=Ii hc hj h;obtain⟨n,Kf,e'⟩:=Ij t (SetTable.bits h%(t.mask+1)) (SetTable.bits h) k;refine{n,by unfold SetTable.turns;lia,?_};show t.slot (DP t n<|LU t.mask _ _).j=_;rw[e'];show t.slot (rn _ _ _ _).1=_;rw[e];exact Fu hn hd
theorem xw{t:SetTable}(hd:t.dummies=#[]):∀(n fuel:π)(p:SetTable.Probe),p.dummy=none->t.slot (DP t n p).j=.empty->n<fuel->(∃j,SetTable.probe.go t f h fuel p=some (.empty j none))\/∃j i next m,SetTable.probe.go t f h fuel p=some (.candidate j i next)/\t.slot j=.live i/\next.dummy=none/\m<n/\t.slot (DP t m next).j=.empty|n,0,p,_,_,h=>by lia|n,fuel+1,p,hp,he,hf=>by unfold SetTable.probe.go;cases q:t.slot p.j with|empty=>exact .inl {p.j,by rw[hp]}|dummy=>exact absurd q (Il hd)|live i=>dsimp only;cases n with|zero=>(rw[show(DP t 0 p).j=p.j from rfl,q]at he;cases he)|succ n=>have LV:(t.advance p).dummy=none:=(by unfold SetTable.advance;split;exact hp;exact hp);split;exact .inr {p.j,i,t.advance p,n,rfl,q,LV,yK _,he};rcases xw hd n fuel _ LV he (by lia) with⟨j,e⟩|⟨j,i,nx,m,e,e1,e2,e3,e4⟩;exact .inl ⟨j,e⟩;exact .inr {j,i,nx,m,e,e1,e2,by lia,e4}
theorem aaf:xt 7=true:=by trivial
theorem NH:xt 31=true:=by trivial
theorem Io:xt 127=true:=by trivial
theorem Iq:xt 511=true:=by trivial
theorem xx:∀(fuel i p:π),(∃k,k<fuel/\∃j,(rn m k i p).1=j/\ow[j]?=some none)->∃j,SetTable.layClean.free m ow fuel i p=some j/\ow[j]?=some none|0,i,p,⟨k,h,_⟩=>by lia|fuel+1,i,p,⟨k,hk,j,e,ej⟩=>by unfold SetTable.layClean.free;cases q:(List.range<|SetTable.runEnd m i+1-i).find? (λk=>(ow.getD (i+k)<|some 0).isNone) with|some k'=>(have:=List.find?_some q;refine{i+k',rfl,?_};rw[Array.getD_eq_getD_getElem?]at this;cases z:ow[i+k']? with|none=>rw[z]at this;simp at this|some o=>rw[z]at this;simp at this;rw[this])|none=>dsimp only;cases k with|zero=>(exfalso;have:=List.find?_eq_none.mp q 0<|zU.mpr (by unfold SetTable.runEnd;split<;>lia);rw[show(rn m 0 i p).1=i from rfl]at e;rw[Nat.add_zero,Array.getD_eq_getD_getElem?,e,ej]at this;exact this rfl)|succ k=>have sh:∀k i p,rn m (k+1) i p=rn m k (SetTable.leap m i p).1 (SetTable.leap m i p).2:=(by intro k;induction k with|zero=>intro i p;rfl|succ k ih=>intro i p;show SetTable.leap m (rn m (k+1) i p).1 (rn m (k+1) i p).2=_;rw[ih];rfl);exact xx fuel _ _ {k,by lia,j,by rw[<-sh];exact e,ej}
noncomputable def J2(l:δ<|θ π):Nat:=l.countP Option.isSome
theorem DU:∀{l:δ (θ π)}{j k:π},l[j]?=some none->J2 (l.set j<|some k)=J2 l+1|[],j,k,h=>by simp at h|o::l,0,k,h=>by simp at h;subst h;simp[J2]|o::l,j+1,k,h=>by have:=DU (k:=k) (l:=l) (j:=j) (by simpa using h);simp only[J2,List.set_cons_succ,List.countP_cons]at this⊢;lia
theorem xy:∀{l:δ (θ π)},J2 l<l.length->∃j:π,l[j]?=some none|[],h=>by simp at h|none::l,h=>{0,rfl}|some x::l,h=>by obtain⟨j,e⟩:=xy (l:=l) (by simp only[J2,List.countP_cons,zO,Option.isSome_some,if_true]at h⊢;lia);exact{j+1,by simpa using e}
structure Lay(m n:π)(ow:Array (θ π)):η where
 sz:ow.size=m+1
 ct:J2 ow.toList=n
 lt:∀x,some x∈ow.toList->x<n
theorem Ir(hc:xt m=true)(L:Lay m n ow)(hn:n<=m)(h:ν): ∃j,SetTable.layClean.free m ow (SetTable.turns m) (SetTable.bits h%(m+1)) (SetTable.bits h)=some j/\Lay m (n+1) (ow.setIfInBounds j<|some n):=by obtain⟨j,e⟩:=xy (l:=ow.toList) (by rw[L.ct,zT,L.sz];lia);rw[yr]at e;have hj:j<ow.size:=(Array.getElem?_eq_some_iff.mp e).1;obtain⟨k,hk,ek⟩:=Ii hc (show j<=m by rw[L.sz]at hj;lia) h;obtain⟨j',f,e'⟩:=xx (SetTable.turns m) _ _ {k,by unfold SetTable.turns;lia,j,ek,e};refine{j',f,by rw[Array.size_setIfInBounds];exact L.sz,?_,λx hx=>?_};rw[Array.toList_setIfInBounds,DU<|by rw[yr];exact e',L.ct];rw[Array.toList_setIfInBounds]at hx;rcases List.mem_or_eq_of_mem_set hx with hx|hx;exact Nat.lt_succ_of_lt<|L.lt x hx;cases hx;exact yK _
theorem xA(hc:xt m=true):∀(hs:δ ν)(n:π)(ow:Array (θ π)),Lay m n ow->n+hs.length<=m+1 ->
  ∃XE,hs.foldl (λacc h=>do
   let (owner,k) <-acc
   let j <-SetTable.layClean.free m owner (SetTable.turns m) (SetTable.bits h%(m+1)) (SetTable.bits h)
   pure (owner.setIfInBounds j<|some k,k+1)) (some (ow,n))=some (XE,n+hs.length)/\Lay m (n+hs.length) XE
 |[],n,ow,L,_=>⟨ow,rfl,L⟩
 |h::hs,n,ow,L,hn=>by
  rw[zO]at hn
  obtain⟨j,e,L'⟩:=Ir hc L (by lia) h
  obtain⟨XE,e2,L2⟩:=xA hc hs (n+1) _ L'<|by lia
  refine{XE,?_,?_}
  ·rw[List.foldl_cons,zO,show n+(hs.length+1)=n+1+hs.length by lia,<-e2]
   congr 1
   show(do let j <-SetTable.layClean.free m ow (SetTable.turns m) (SetTable.bits h%(m+1)) (SetTable.bits h);pure (ow.setIfInBounds j<|some n,n+1))=_
   rw[e];rfl
  ·rw[zO,show n+(hs.length+1)=n+1+hs.length by lia];exact L2
theorem LW(hc:xt m=true)(hs:Array ν)(h:hs.size<=m+1):∃ow,SetTable.layClean m hs=some ow/\Lay m hs.size ow:=by obtain⟨ow,e,L⟩:=xA hc hs.toList 0 (Array.replicate (m+1) none) {by simp,by simp[J2,List.countP_replicate],λx hx=>by simp at hx} (by simpa using h);refine{ow,?_,by simpa using L};unfold SetTable.layClean;rw[<-Array.foldl_toList,e];rfl
theorem DV(ow:Array<|θ π):∀n,n<=ow.size->((List.range n).filterMap λj=>(ow.getD j none).map (j,·)).map (·.2)=(ow.toList.take n).filterMap id
 |0,_=>rfl
 |n+1,h=>by
  rw[List.range_succ,List.filterMap_append,zL,DV ow n<|by lia,List.take_add_one,List.filterMap_append,yr,Array.getElem?_eq_getElem<|show n<ow.size by lia];congr 1;have q:ow.getD n none=ow[n]:=by rw[Array.getD_eq_getD_getElem?,Array.getElem?_eq_getElem<|show n<ow.size by lia];rfl
  simp only[List.filterMap_cons,List.filterMap_nil,q];cases ow[n]with|none=>rfl|some x=>rfl
theorem Fx{t:SetTable}(hm:SetTable.sizeAbove wanted=m+1)(hc:xt m=true)(h:hs.size<=m+1): ∃t' order,t.relaid hs wanted=some (t',order)/\t'.mask=m/\t'.dummies=#[]/\t'.place.size=hs.size/\order.size=hs.size/\∀x∈order.toList,x<hs.size:=by
 obtain⟨ow,e,L⟩:=LW hc hs h;unfold SetTable.relaid SetTable.laid;rw[hm,show m+1-1=m from rfl,e];have le:=DV ow (m+1) (by rw[L.sz];exact zm _);rw[List.take_of_length_le<|by rw[zT,L.sz];exact zm _]at le;have ln:∀l:δ (θ π),(l.filterMap id).length=J2 l:=λl=>by induction l with|nil=>rfl|cons o l ih=>cases o<;>simp[J2]at ih⊢<;>exact ih
 refine{_,_,rfl,rfl,rfl,?_,?_,?_};show(List.map _ _).toArray.size=_;rw[zr,za,<-za (f:=(·.2)),le,ln,L.ct];show(List.map _ _).toArray.size=_;rw[zr,le,ln,L.ct];intro x hx;rw[le]at hx;obtain⟨o,ho,e⟩:=List.mem_filterMap.mp hx;rw[show o=some x from e]at ho;exact L.lt x ho
section
variable{prog:Ψ}{w:Ω}{A:ϕ}{E:ξ->ζ->η}{s:ζ}{KT:Type}[DecidableEq KT]{knd:KeyKind prog w KT}
theorem DX(hk:IsTupleKey knd s.heap ks a)(h:Q false s):wpAny (model prog w) A (ofAClassStatement 8<|.ref a) Q E s:=by
 have hT:=hk.typeIs;obtain⟨o,items,n,ho,_,hd,hi⟩:=hk;unfold ofAClassStatement;refine zc<|wpAny_typeOf hT ?_;show wpAny _ _ (pure true >>=_) _ _ s;refine zc<|zo ?_;simp only[Bool.not_true,yo,if_false];refine zc<|yR ho hd ?_;refine zc ?_;show wpAny _ _ (forIn items _ _) _ _ s;rw[<-Array.forIn_toList];refine wpAny_forIn_list _ (λrest r s'=>r.1=none/\s'=s/\∀v∈rest,carriedByValue v=true) _ ?_ ?_ _ _ ⟨rfl,rfl,hi.byValue⟩;rintro v rest r s' ⟨hr,rfl,rT⟩;have hv:=rT v zj;have e:ofAClassStatement 7 v=pure false:=by cases v with|ref a=>simp[carriedByValue]at hv|_=>first|rfl|simp[ofAClassStatement]|(unfold ofAClassStatement;rfl)
 rw[e];refine zc<|zo ?_;simp only[yo,if_false];exact zo {rfl,rfl,λu hu'=>rT u<|zh _ hu'};rintro⟨r1,r2⟩ s' ⟨hr,rfl,_⟩;simp only at hr;subst hr;exact zo h
theorem Iu{ks:δ KT}{a:ε}(hk:IsTupleKey knd s.heap ks a){st:δ ξ}(hs:∀v∈st,∃AM b,v=.ref b/\IsTupleKey knd s.heap AM b){Q:χ->ζ->η}(h:Q false s): wpAny (model prog w) A (searchCouldBeSeen (.ref a) st) Q E s:=by unfold searchCouldBeSeen;refine zc ?_;refine wpAny_forIn_list _ (λrest r s'=>r.1=none/\s'=s/\∀v∈rest,∃AM b,v=.ref b/\IsTupleKey knd s.heap AM b) _ ?_ ?_ _ _ ⟨rfl,rfl,hs⟩;rintro v rest r s' ⟨hr,rfl,rT⟩;obtain⟨AM,b,rfl,hb⟩:=rT v zj;have go:∀u∈rest,∃AM b,u=.ref b/\IsTupleKey knd s'.heap AM b:=λu hu=>rT u<|zh _ hu;dsimp only;split;exact zo ⟨rfl,rfl,go⟩;refine zc<|wpAny_eqIsQuiet_tuple hk ?_;simp only[Bool.not_true,yo,if_false];refine zc<|wpAny_eqIsQuiet_tuple hb ?_;simp only[Bool.not_true,yo,if_false];refine zc<|DX hk ?_;simp only[yo,if_false];refine zc<|DX hb ?_;simp only[yo,if_false];exact zo ⟨rfl,rfl,go⟩;rintro⟨r1,r2⟩ s' ⟨hr,rfl,_⟩;simp only at hr;subst hr;exact zo h
theorem LX{c:χ}{ks:δ KT}{a:ε}(hk:IsTupleKey knd s.heap ks a){st:δ ξ}(hs:∀v∈st,∃AM b,v=.ref b/\IsTupleKey knd s.heap AM b){Q:SetFound->ζ->η}{X M:Sem SetFound}(h:wpAny (model prog w) A M Q E s): wpAny (model prog w) A (if c=true then (searchCouldBeSeen (.ref a) st >>=λb=>if b=true then X else M) else M) Q E s:=by split;refine zc<|Iu hk hs ?_;rw[xz zd];exact h;exact h
theorem LY(hk:IsTupleKey knd s.heap ks a)(h:∀b,Q b s):wpAny (model prog w) A (hashByValue 8<|.ref a) Q E s:=by
 have hT:=hk.typeIs;obtain⟨o,items,n,ho,_,hd,hi⟩:=hk;unfold hashByValue;refine zc<|wpAny_specialOf hT F.slot_tuple_hash.lookup ?_;show wpAny _ _ (seqItems? (.ref a) >>=_) _ _ s;refine zc<|yR ho hd ?_;refine zc ?_;show wpAny _ _ (forIn items _ _) _ _ s;rw[<-Array.forIn_toList];refine wpAny_forIn_list _ (λrest r s'=>r.1=none/\s'=s/\∀v∈rest,carriedByValue v=true) _ ?_ ?_ _ _ ⟨rfl,rfl,hi.byValue⟩;rintro v rest r s' ⟨hr,rfl,rT⟩;have hv:=rT v zj;have e:∃b,hashByValue 7 v=pure b:=by cases v with|ref a=>simp[carriedByValue]at hv|_=>exact{_,by unfold hashByValue;rfl}
 obtain⟨b,e⟩:=e;rw[e];refine zc<|zo ?_;cases b with|true=>exact zo {rfl,rfl,λu hu'=>rT u<|zh _ hu'}|false=>exact zo<|zo<|h false
 rintro⟨r1,r2⟩ s' ⟨hr,rfl,_⟩;simp only at hr;subst hr;exact zo<|h true
structure Tb(t:SetTable)(n:π):η where
 m:t.mask=7\/t.mask=31\/t.mask=127\/t.mask=511
 d:t.dummies=#[]
 p:t.place.size=n
 f:n*5<t.mask*3
theorem Tb.xt{t:SetTable}(T:Tb t n):xt t.mask=true:=by rcases T.m with e|e|e|e<;>rw[e];exact aaf;exact NH;exact Io;exact Iq
theorem Tb.fits{t:SetTable}(T:Tb t n):t.fits n=true:=by unfold SetTable.fits SetTable.fill;have:=T.f;rw[T.p,T.d,zJ];exact{by simp,zu<|by simp;lia}
theorem tO{t:SetTable}(q:t.probe f h p=r)(hd:t.dummies=#[])(hp:p.dummy=none)(he:t.slot (DP t n p).j=.empty)(hn:n<10*SetTable.turns t.mask): (∃j,r=some (.empty j none))\/∃j i next m,r=some (.candidate j i next)/\t.slot j=.live i/\next.dummy=none/\m<n/\t.slot (DP t m next).j=.empty:=by subst q;exact xw hd n _ p hp he hn
def Els(knd:KeyKind prog w KT)(h:Γ)(ks:δ KT)(es:Array<|ν×ξ):Prop:=∀e∈es.toList,∃AM b,e.2=.ref b/\IsTupleKey knd h AM b/\AM≠ks
theorem qt{S:ε}{o:Obj}{es:Array<|ν×ξ}{ep:π}{t:SetTable}{ks:δ KT}{a:ε}{h:ν}{Q:SetFound->ζ->η}(ho:s.heap.get? S=some o)(hd:o.data=.set es ep t)(T:Tb t es.size) (hk:IsTupleKey knd s.heap ks a) (AN:Els knd s.heap ks es) (hu:A.units<cLine) (hQ:∀j,Q (.free j false) s): ∀(fuel n:π)(xB:θ SetTable.Probe),n<fuel->n<10*SetTable.turns t.mask->(xB.getD<|t.probeStart h).dummy=none->t.slot (DP t n<|xB.getD<|t.probeStart h).j=.empty->wpAny (model prog w) A (setSearchFrom S (.ref a) h true fuel xB) Q E s
 |0,n,xB,hf,_,_,_=>by lia
 |fuel+1,n,xB,hf,hn,hp,he=>by
  unfold setSearchFrom;refine zc<|wpAny_setState_of ho hd T.fits ?_;have gw:t.gaveWay=false:=by unfold SetTable.gaveWay;rcases T.m with e|e|e|e<;>rw[e]<;>rfl
  dsimp only;rw[gw];simp only[yo,if_false];split;{rename_i met q;rcases tO q T.d hp he hn with⟨j,e⟩|⟨j,i,next,m,e,e1,e2,e3,e4⟩;cases e;exact zo<|hQ j;{cases e;dsimp only;have hi:i<es.size:=(by rw[<-T.p];exact Fv e1);obtain⟨⟨hh,y⟩,e5⟩:∃e,es[i]?=some e:={_,Array.getElem?_eq_getElem hi};obtain⟨AM,b,eb,kb,nk⟩:=AN _<|Array.mem_toList_iff.mpr<|Array.mem_of_getElem? e5;dsimp only at eb;subst eb;rw[e5];dsimp only;refine LX hk (λv hv=>?_) ?_;obtain⟨e,XF,rfl⟩:=zg.mp hv;obtain⟨k2,b2,q1,q2,_⟩:=AN e<|Array.mem_toList_iff.mpr (Array.mem_filter.mp<|Array.mem_toList_iff.mp XF).1;exact⟨k2,b2,q1,q2⟩;refine zc<|yD<|wpAny_eqBool_tuple hu kb hk ?_;rw[zy nk];refine zc<|wpAny_setState_of ho hd T.fits ?_;dsimp only;rw[xz<|show ¬(true&&false)=true by decide,show t.sameMemory t.moves t.mask=some true by unfold SetTable.sameMemory;rw[xL<|by simp]];dsimp only;rw[xL rfl,e1];dsimp only;rw[e5];dsimp only;refine zc<|wpAny_isSame_ref_self ?_;refine zc<|zo ?_;rw[xL rfl];dsimp only;rw[xz zd];exact qt ho hd T hk AN hu hQ fuel m (some next) (by lia) (by lia) e2 e4}};rename_i q;exact((tO rfl T.d hp he hn).elim (λ⟨j,e⟩=>q _ e) λ⟨j,i,nx,m,e,_⟩=>q _ e).elim
end
theorem jR(xs:Array α)(p:π)(x:α):(SetTable.insertAt xs p x).size=xs.size+1:=by have:=(SetTable.insertAt_perm xs p x).length_eq;simpa using this
theorem uW(h:e∈(SetTable.insertAt xs p x).toList):e∈xs.toList\/e=x:=by have:=(SetTable.insertAt_perm xs p x).mem_iff.mp h;simpa using this
theorem xC(es:Array α):∀(l:δ π),(∀x∈l,x<es.size)->(l.filterMap (es[·]?)).length=l.length/\∀e∈l.filterMap (es[·]?),e∈es.toList|[],_=>{rfl,λ_ h=>nomatch h}|x::l,h=>by obtain⟨a,b⟩:=xC es l λy hy=>h y<|zh _ hy;have e:=Array.getElem?_eq_getElem<|h x zj;rw[List.filterMap_cons,e];refine{by simpa using a,λy hy=>?_};rcases zk.mp hy with rfl|hy;simp;exact b y hy
section
variable{prog:Ψ}{w:Ω}{A:ϕ}{E:ξ->ζ->η}{s:ζ}{KT:Type}[DecidableEq KT]{knd:KeyKind prog w KT}
theorem Fy{t:SetTable}(ho:s.heap.get? S=some o)(hd:o.data=.set es ep t)(hf:t.fits es.size=true)(hm:SetTable.sizeAbove wanted=m+1)(hc:xt m=true)(hs:es.size<=m+1)(hz:m+1<=4096) (hQ:∀rG t',t'.mask=m->t'.dummies=#[]->t'.place.size=es.size->rG.size=es.size->(∀e∈rG.toList,e∈es.toList)->Q () {s with heap:=s.heap.update S<|Obj.putSet rG t'}):wpAny (model prog w) A (setRelay S wanted) Q E s:=by
 unfold setRelay;refine zc<|wpAny_setState_of ho hd hf ?_;dsimp only;have sl:(4096:π)<=sizeLine:=by unfold sizeLine;decide
 rw[hm,xz<|show ¬(m+1>sizeLine) by lia];obtain⟨t',order,e,a,b,c,d,f⟩:=Fx (t:=t) (hs:=es.map (·.1)) hm hc (by rw[yV];exact hs);rw[yV]at c d f;obtain⟨g1,g2⟩:=xC es order.toList f;rw[e];have sz:(order.filterMap (es[·]?)).size=es.size:=by rw[<-zT,Array.toList_filterMap,g1,zT,d]
 refine zc (yX (a:=(order.filterMap (es[·]?),t')) (show(if ((order.filterMap (es[·]?)).size != es.size)=true then _ else pure (order.filterMap (es[·]?),t'))=_ from xz (by rw[sz];simp)) ?_);dsimp only;refine wpAny_storeSet_of ho hd (hQ _ _ a b c sz λe he=>g2 e<|by rw[Array.toList_filterMap]at he;exact he)<|by rw[sz];lia
theorem LZ{t:SetTable}(ho:s.heap.get? S=some o)(hd:o.data=.set es ep t)(T:Tb t es.size)(hn:es.size<300) (hk:IsTupleKey knd s.heap ks a) (AN:Els knd s.heap ks es) (hu:A.units<cLine) (hQ:∀(h:ν) h' tk rG OA t',s.toks<=tk->Heap.SameBut S s.heap h'->h'.get? S=some {o with data:=.set rG OA t'}->Tb t' rG.size->rG.size=es.size+1->(∀e∈rG.toList,e∈es.toList\/e=(h,.ref a))->Q true {s with heap:=h',toks:=tk}): wpAny (model prog w) A (setAdd S<|.ref a) Q E s:=by
 unfold setAdd;refine yD<|zc<|wpAny_pyHash_tuple hu hk ?_;generalize tupleKeyHash knd ks=h;unfold setAddHashed;refine yD ?_;generalize Kw:s.toks+(ks.length+1)=tk;have Kw:s.toks<=tk:=by lia
 unfold setAddHashedIn;refine zc<|wpAny_setState_of (s:={s with toks:=tk}) ho hd T.fits ?_;dsimp only;rw[xz<|show ¬byScan (.ref a) es=true by unfold byScan;simp[Value.scannable]];obtain⟨n,HR,G0⟩:=Im T.xt T.d (by have:=T.f;rw[T.p];lia) h;have tr:SetTable.turns t.mask<=526:=by unfold SetTable.turns;rcases T.m with e|e|e|e<;>lia
 refine zc<|qt (s:={s with toks:=tk}) ho hd T hk AN hu (λj=>?_) 100000 n none (by lia) HR rfl G0;dsimp only;refine zc<|wpAny_setState_of (s:={s with toks:=tk}) ho hd T.fits ?_;dsimp only;obtain⟨t1,p,et⟩:∃t1 p,t.put j=(t1,p):={_,_,rfl};have t1m:t1.mask=t.mask:=by have:=congrArg (·.1.mask) et;exact this.symm
 have t1d:t1.dummies=#[]:=by have:t1.dummies=_:=(congrArg (·.1.dummies) et).symm;rw[this];show(if SetTable.has t.dummies j then _ else t.dummies)=_;rw[T.d,xz<|by simp[SetTable.has]]
 have t1p:t1.place.size=es.size+1:=by have:t1.place=_:=(congrArg (·.1.place) et).symm;rw[this];show(SetTable.insertAt t.place _ j).size=_;rw[jR,T.p]
 rw[et];dsimp only
 have fin:∀t2:SetTable,t2.mask=t.mask->t2.dummies=#[]->t2.place.size=es.size+1->wpAny (model prog w) A (do
   storeSet S (SetTable.insertAt es p (h,.ref a)) t2
   if (!false&&t2.tooFull)=true then do
    setRelay S (SetTable.grown<|es.size+1)
    pure true
   else pure true) Q E {s with toks:=tk}:=λt2 m2 d2 p2=>by
  have sl:(4096:π)<=sizeLine:=by unfold sizeLine;decide
  have z1:(SetTable.insertAt es p (h,Value.ref a)).size=es.size+1:=jR _ _ _
  refine zc<|wpAny_storeSet_of (s:={s with toks:=tk}) ho hd ?_<|by rw[z1];lia
  have hg:∀{h0:Γ}{o0:Obj}{es0:Array (ν×ξ)}{ep0:π}{t0:SetTable}(rG:Array (ν×ξ))(t':SetTable),h0.get? S=some o0->o0.data=.set es0 ep0 t0->(h0.update S<|Obj.putSet rG t').get? S=some {o0 with data:=.set rG (ep0+1) t'}:=λrG t' a b=>by
   have:=yz (Obj.putSet rG t') a<|by rw[putSet_of rG t' b];rfl
   rw[putSet_of rG t' b]at this;exact this
  have g1:=hg (SetTable.insertAt es p (h,Value.ref a)) t2 ho hd
  have sb:=yy s.heap S<|Obj.putSet (SetTable.insertAt es p (h,Value.ref a)) t2
  have fl:t2.fill=es.size+1:=by unfold SetTable.fill;rw[p2,d2];rfl
  have mem:∀e∈(SetTable.insertAt es p (h,Value.ref a)).toList,e∈es.toList\/e=(h,.ref a):=λe he=>uW he
  have tf:t2.tooFull=ω ((es.size+1)*5>=t.mask*3):=by unfold SetTable.tooFull;rw[fl,m2]
  have hT:=T.f
  split
  ·rename_i c
   rw[Bool.not_false,yi,tf,zK]at c
   obtain⟨m,c1,c2,c3,c4⟩:∃m,SetTable.sizeAbove (SetTable.grown<|es.size+1)=m+1/\(m=31\/m=127\/m=511)/\(es.size+1)*5<m*3/\xt m=true:=by
    unfold SetTable.grown
    rw[xz<|by lia]
    rcases T.m with e|e|e|e<;>rw[e]at c hT
    ·rw[show es.size=4 by lia];exact{31,by trivial,.inl rfl,by decide,NH}
    ·rw[show es.size=18 by lia];exact{127,by trivial,.inr<|.inl rfl,by decide,Io}
    ·rw[show es.size=76 by lia];exact{511,by trivial,.inr<|.inr rfl,by decide,Iq}
    ·lia
   refine zc<|Fy (s:={s with heap:=_,toks:=tk}) g1 rfl ?_ c1 c4 (by rw[z1];lia) (by lia) λes3 t3 a1 a2 a3 a4 a5=>zo ?_
   ·unfold SetTable.fits
    rw[fl,p2,z1,m2,zJ]
    exact{by simp,zu<|by lia}
   ·have g3:=hg es3 t3 g1 rfl
    refine hQ h _ tk es3 _ t3 Kw (sb.trans<|yy _ S _) g3 {by rw[a1];exact .inr c2,a2,by rw[a3,a4],by rw[a4,z1,a1];exact c3} (a4.trans z1) λe he=>mem e<|a5 e he
  ·rename_i c
   rw[Bool.not_false,yi,tf,zK]at c
   exact zo<|hQ h _ tk _ _ t2 Kw sb g1 {by rw[m2];exact T.m,d2,by rw[p2,z1],by rw[z1,m2];lia} z1 mem
 split;refine zc<|LY (s:={s with toks:=tk}) hk λb=>?_;cases b with|true=>exact fin t1 t1m t1d t1p|false=>exact fin _ t1m t1d t1p
 refine zc<|zo ?_;exact fin t1 t1m t1d t1p
end
def aak(prog:Ψ)(w:Ω)(h0:Γ)(N:π)(ph:δ<|δ Key)(S:ε)(i:π)(h:Γ):Prop:=∃o es ep t,h.get? S=some o/\o.ExactSet/\o.data=.set es ep t/\Tb t es.size/\es.size=i/\∀e∈es.toList,∃ks b,ks∈ph.take i/\e.2=.ref b/\b<N/\IsTupleKey (aw prog w) h0 ks b
theorem DY(k:IsTupleKey (aw prog w) h0 ks b)(e:∀o,h0.get? b=some o->h.get? b=some o):IsTupleKey (aw prog w) h ks b:=by obtain⟨o,ar,n,a,r⟩:=k;exact{o,ar,n,e o a,r}
noncomputable def Iv(a:ε)(n:π):HO:=.ext λh=>∃o es ep t,h.get? a=some o/\o.ExactSet/\o.data=.set es ep t/\t.fits es.size=true/\es.size=n/\n<300
theorem qu:∀{ks:δ Key}{ar:δ ξ},Vals (ks.map kV) ar->ItemsAre (aw P w) ks ar|[],_,.nil=>.nil|.inl i::ks,_,.cons r rs=>(by obtain⟨t,rfl⟩:=r;exact .cons (nC _ _ _ _)<|qu rs)|.inr i::ks,_,.cons r rs=>by obtain⟨t,rfl⟩:=r;exact .cons (fG _ _ _ _)<|qu rs
def VS(H:Hp)(vs:δ V)(ph:δ<|δ Key):Prop:=ph.length=vs.length/\∀(i:π) v,vs[i]?=some v->∃ks b,ph[i]?=some ks/\v=.ref b/\H b=some (.tup<|ks.map kV)
section
variable{X:Cx}
theorem BQ:eI X (.builtin "len") (λvs H Q=>∃a n,vs=[.ref a]/\H a=some (Iv a n)/\Q (.int n) H):=by intro pins s σ H vs us Q I r h;obtain⟨a,n,rfl,ha,q⟩:=h;obtain⟨u,rfl,rx⟩:=vals1 r;cases rx;obtain⟨⟨o,es,ep,t,ho,hex,hd,hf,hn,hb⟩,_⟩:=I.aI a _ ha;refine call_len_set ho hex hd hf (by lia) ?_;exact{.int n,H,I.tok _,{_,by rw[hn]},q}
end
noncomputable def DZ:Key->D|.inl i=>.int i|.inr x=>.str x
theorem BR{K:Φ}{H:Hp} : ∀{ks:δ Key}{xs:δ V},RvAll K H (ks.map DZ) xs->xs=ks.map kV|[],xs,h=>h.nil|.inl i::ks,xs,h=>(by obtain⟨y,ys,rfl,r1,r2⟩:=h.cons;rw[BR r2,(show Rv K H (.int i) y from r1).int];rfl)|.inr i::ks,xs,h=>by obtain⟨y,ys,rfl,r1,r2⟩:=h.cons;rw[BR r2,(show Rv K H (.str i) y from r1).str];rfl
noncomputable def XG(ks:δ Key):D:=.tup<|ks.map DZ
theorem Iy{K:Φ}{H:Hp} : ∀{ph:δ (δ Key)}{xs:δ V},RvAll K H (ph.map XG) xs->VS H xs ph|[],xs,h=>by rw[h.nil];exact{rfl,λi v e=>by simp at e}|ks::ph,xs,h=>by obtain⟨y,ys,rfl,r1,r2⟩:=h.cons;obtain⟨hl,hT⟩:=Iy r2;obtain⟨b,zs,rfl,hb,tz⟩:=Rv.tup<|show Rv K H (.tup<|ks.map DZ) y from r1;rw[BR tz]at hb;refine{by simp[hl],λi v e=>?_};cases i with|zero=>(cases e;exact⟨ks,b,rfl,rfl,hb⟩)|succ i=>exact hT i v e
theorem uX:typeLookup (.type "list") "keys"= pure none:=by rw[typeLookup_type,builtinLookup_eq_fast];kernel_rfl
section
variable{prog:Ψ}{w:Ω}{A:ϕ}{E:ξ->ζ->η}{s:ζ}
theorem uY(hx:s.heap.get? a=some o)(hc:o.cls=.type "list")(Ht:o.data=.seq xs k)(hd:o.dict=none)(hA:A.handled=none) (h:∀h' tk,(∀b ob,s.heap.get? b=some ob->h'.get? b=some ob)->Q none {s with heap:=h',toks:=tk}):wpAny (model prog w) A (getAttr? (.ref a) "keys") Q E s:=by
 obtain⟨c,bG,dat,sl⟩:=o;simp only at hc Ht hd;subst hc Ht hd;obtain⟨hp,g,d,tk,os⟩:=s;have hT:∀K5,(⟨hp,g,d,K5,os⟩:ζ).TypeIs (.ref a) "list":=λ_=>{_,hx,rfl};have f1:=sub_AttributeError;have f3:=F.slot_list_getattribute.lookup;have f4:=F.slot_list_getattribute.bind<|.ref a;have f5:=am_list_getattr_none;unfold getAttr? getAttrBy? getAttrBy;repeat (any_goals (first|assumption|exact hT _|((with_reducible show wpAny _ _ (call (Value.builtin "list.__getattribute__") _ _) _ _ _);refine call_meets F.slot_list_getattribute (hT _) am_entry_list_getattribute (F.args_list_getattribute_2 _ _) (meets_getattribute_miss_list a xs k sl "keys" _ uX (by trivial)<|by size_fits) {hx,hA,λh' K5 e uw=>?_})|wp_step))
 obtain⟨t',u',he⟩:=uw.there;show wpAny _ _ (getattributeRaised _ _ _ _ _ _ _) _ _ _;unfold getattributeRaised;repeat (any_goals (first|assumption|wp_step))
 exact h _ _ uw.keeps
end
def XH(P:Ψ)(w:Ω)(a:ε)(kvs:δ<|Key×V)(ep:π):HO:=.ext λh=>kvs.length<=sizeLine/\(a==sysModules)=false/\∃vs,KV kvs vs/\h.DictAt (aw P w) a vs ep
structure Wd(P:Ψ)(w:Ω)(o:HO)(a:ε)(ks:δ Key):η where
 of:∃kvs ep,o=XH P w a kvs ep/\kvs.map (·.1)=ks
theorem L3{kvs:δ<|Key×V}{vs:δ<|Key×ξ}(h:KV kvs vs):kvs.map (·.1)=vs.map (·.1):=by induction h with|nil=>rfl|cons r _ ih=>rw[zw,zw,ih,r.1]
noncomputable def Itw(o:HO)(a:ε)(ks:δ Key):It:={λi H=>H a=some o/\i<ks.length,λi H x H'=>H'=H/\∃k,ks[i]?=some k/\x=kV k,λi H=>H a=some o/\ks.length<=i}
theorem Fz{P:Ψ}{w:Ω}{K:Φ}{tg:Δ}(a it:ε)(kvs:δ<|Key×V)(ep:π):
  Turn P w K tg (Itw (XH P w a kvs ep) a (kvs.map (·.1))) [it] it (λi h=>h.IsKeyIter it a i kvs.length ep) where
 mem:=by simp
 obj:=λi h st b hb=>by
  have e:b=it:=by simpa using hb
  subst e
  obtain⟨o,e,c,d⟩:=st
  exact{o,e,λv z=>by rw[d]at z;cases z}
 keep:=λi h h' st k=>st.at λo e=>k it (by simp) o e
 item:=by
  intro X hP hw hK hc i pins s σ H E I hf st hg
  subst hP hw hK
  obtain⟨hq,hi⟩:=hg
  obtain⟨⟨hz,hs,vs,kv,da⟩,_⟩:=I.aI a _ hq
  have hl:kvs.length=vs.length:=kv.length
  have ek:=L3 kv
  have Qy:i<vs.length:=by rw[za]at hi;lia
  obtain⟨⟨k,x⟩,hx⟩:∃p,vs[i]?=some p:={_,zf Qy}
  obtain⟨f0,f1,f2,f3,f4,f5⟩:=hf it<|by simp
  rw[hl]at st
  refine wpAny_pyNext_dict_item st da hx λkey h' GY dH sb=>?_
  have I1:Inv X pins σ H {s with heap:=h'}:=I.turned (t':=s.toks) (λb o hb e=>(sb.2 b hb).trans e) f0 f1 f3 f4 f5
  obtain⟨o,e,c,d⟩:=id dH
  refine{key,rfl,pM (s:={s with heap:=h'}) e c d (by decide) {kV k,H,I1,?_,{rfl,k,by rw[ek,zp,hx];rfl,rfl},by rw[hl];exact dH,λb hb=>(hf b hb).1}}
  rcases bh GY with⟨j,t,rfl,rfl⟩|⟨y,t,rfl,rfl⟩
  ·exact⟨t,rfl⟩
  ·exact⟨t,rfl⟩
 done:=by
  intro X hP hw hK hc i pins s σ H E I hf st hg
  subst hP hw hK
  obtain⟨hq,hi⟩:=hg
  obtain⟨⟨hz,hs,vs,kv,da⟩,_⟩:=I.aI a _ hq
  have hl:kvs.length=vs.length:=kv.length
  obtain⟨f0,f1,f2,f3,f4,f5⟩:=hf it<|by simp
  rw[hl]at st
  rw[za]at hi
  exact wpAny_pyNext_dict_end (I.ok.hd hc) st da (List.getElem?_eq_none<|by lia) λh' eb=>{rfl,I.turned (t':=s.toks) (λb o hb e=>eb b o hb e) f0 f1 f3 f4 f5}
 self:=λ_ _ _ _ _ st h=>wpAny_pyIter_keyiter st h
section
variable{X:Cx}{tg:Δ}
def aal(P:Ψ)(w:Ω)(tl:TE):TI:=λσ H R=>tl σ H λx H1=>∃a o ks,x=.ref a/\H1 a=some o/\Wd P w o a ks/\R (Itw o a ks) H1
theorem VT(hl:PE X l tl):PI X tg l (aal X.prog X.w tl):=by
 intro pins s σ H R I h;refine bj (hl pins s σ H _ I h) λv s1 ⟨x,H1,I1,r1,q1⟩=>?_;obtain⟨a,o,ks,e,hq,⟨kvs,ep,eo,ek⟩,q⟩:=q1;subst e eo ek;cases r1;obtain⟨⟨hz,hs,vs,kv,da⟩,_⟩:=I1.aI a _ hq;refine wpAny_pyIter_dict hs da ?_;refine{s1.heap.objs.size,[s1.heap.objs.size],_,_,H1,rfl,I1.kept (t':=s1.toks) λb o e=>zb _ e,Fz a _ kvs ep,?_,λb hb=>?_,q};rw[kv.length];exact{_,zi _ rfl,rfl,rfl};have e:b=s1.heap.objs.size:=by simpa using hb
 subst e;exact I1.mr (zm _)<|I1.aI.fresh<|zm _
end
section
variable{K:Φ}{X:Cx}{tg l:Δ}
def iWd(P:Ψ)(w:Ω)(t:TD):wA:=λσ S R Z=>t σ S (λx S1=>∃a o ks,x=.ref a/\S1 a=some (.raw o)/\Wd P w o a ks/\R {ks.map DZ,λS=>S a=some (.raw o)} S1) Z
theorem VU(k:Key):Rv K H (DZ k) (kV k):=by cases k with|inl i=>exact aM i|inr i=>exact dI i
theorem iwd{t:TD}(h:DE K X l t)(hK:ψ (X.K=K) qQJ):DI K X tg l (iWd X.prog X.w t):=by subst hK;exact⟨λy=>(VT (X:=y.cx)<|h.of y).mono <| by rintro τ H R ⟨σ,S,RI,Z,aA,hS,q,hR,hZ⟩;exact{σ,S,_,Z,aA,hS,q,by rintro x S1 v H1 ⟨a,o,ks,e,h1,wd,r1⟩ v1 s1 k1;subst e;have r0:=s1 a _ h1;refine{a,o,ks,v1.ref,r0.1,wd,hR _ S1 _ H1 r1 (λi S2 H2 k2 s2 Sk=>?_) s1 k1};have r2:=s2 a _ Sk;refine{λd hd=>?_,λhl=>{r2.1,by rw[za]at hl;exact hl}};have hd:(ks.map DZ)[i]?=some d:=hd;rw[zp]at hd;obtain⟨k,ek,rfl⟩:=Option.map_eq_some_iff.mp hd;refine{{r2.1,(ze.mp ek).1},λx' H' ⟨e2,k',e3,e4⟩=>?_};subst e2 e4;rw[ek]at e3;cases e3;exact{VU k,.refl _,s2},hZ}⟩
def Iz(P:Ψ)(w:Ω)(t:TD):TD:=λσ S R Z=>∃a kvs,S a=some (.bG kvs)/\∀o,Wd P w o a (kvs.map (·.1))->t σ (S.set a<|.raw o) (λd S'=>S' a=some (.raw o)/\R d (S'.set a<|.bG kvs)) (λ_ _=>False)
theorem wlk{t:TD}(h:DE K X e t):DE K X e (Iz X.prog X.w t):=by
 refine⟨λy pins s τ H Q I hT=>?_⟩;obtain⟨σ,S,R,Z,aA,hS,⟨a,kvs,ha,q⟩,hR,hZ⟩:=hT;obtain⟨vs,e1,r⟩:=hS.bG ha;obtain⟨z,ns,vals,kv,ob,es,ep,ho,rest⟩:=(show aS X.prog X.w H s.heap a (.dK vs) from I.aI a _ e1);obtain⟨o,eo⟩:∃o,o=XH X.prog X.w a vs ep:={_,rfl};have nt:(∀xs,o≠HO.tup xs)/\∀u v,o≠HO.jA u v:=by rw[eo];exact{λ_=>nofun,λ_ _=>nofun}
 have new:aS X.prog X.w (upd H a o) s.heap a o:=by rw[eo];refine{⟨z,ns,vals,kv,ob,es,ho,rest⟩,⟨ob,ho⟩,?_};rintro h1 h2 ⟨z,ns,vals,kv,ob,es,ho,rest⟩ k;exact{z,ns,vals,kv,ob,es,k _ ho,rest}
 have I1:Inv y.cx pins τ (upd H a o) s:=I.write (t':=s.toks) (e:=a) (by rw[e1];trivial) (.inl rfl) (λ_ _ _ q=>q) {_,ho} new;have kp:Kp K H (upd H a o):=Kp.put e1 (λ_=>nofun) λ_ _=>nofun;have ek:vs.map (·.1)=kvs.map (·.1):=by clear e1 ha hS new I1 kp eo kv z q;induction r with|nil=>rfl|cons r _ ih=>rw[zw,zw,ih,r.1]
 refine bj (h.of y pins s τ (upd H a o) (λv H'=>H' a=some o/\Q v (upd H' a<|.dK vs)) I1 {σ,S.set a<|.raw o,_,_,aA.ts kp,hS.put ha ⟨aB,nt⟩,q o ⟨vs,ep,eo,ek⟩,?_,λ_ _ _ f=>f.elim}) ?_;rintro d S' v H' ⟨h1,h2⟩ rv rs k;have r0:=rs a _ h1;have k2:Kp K H' (upd H' a<|.dK vs):=Kp.put r0.1 nt.1 nt.2;exact{r0.1,hR d _ v _ h2 (Rv.ts k2 _ rv) (rs.put h1 {vs,aB,((r.ts kp).ts k).ts k2})<|(kp.trans k).trans k2};rintro v s' ⟨x,H',I',rv,hq,qq⟩;obtain⟨φ,⟨o',go⟩,_⟩:=(show aS X.prog X.w H' s'.heap a (XH X.prog X.w a vs ep) from eo ▸ I'.aI a _ hq);obtain⟨z,ns,vals,kv,ob,es,ho,rest⟩:=φ;have I2:Inv y.cx pins τ (upd H' a<|.dK vs) s':=I'.write (t':=s'.toks) (e:=a) (by rw[hq,eo];trivial) (.inl rfl) (λ_ _ _ q=>q) {_,ho} ⟨z,ns,vals,kv,ob,es,ep,ho,rest⟩;exact{x,_,I2,rv,qq}
end
section
variable{K:Φ}{X:Cx}
def VW:D->θ ν->θ ν->ak->KD->Prop:=λx lo hi S R=>match x with|.str z=>z.length<=sizeLine/\R (.str<|PySem.Txt.slice z lo hi) S|_=>False
theorem VX(hK:X.K=K):T_ X (λx lo hi H Q=>∃d S R,Rv K H d x/\Rs K S H/\VW d lo hi S R/\Cn K H R Q):=by rintro pins s σ H x v vl vu lo hi sl Q I rx hs pl pu ⟨d,S,R,r1,hS,h,hR⟩;subst hK;cases d with|str z=>exact PZ pins s σ H x v vl vu lo hi sl Q I rx hs pl pu {z,r1.str,h.1,hR.now hS h.2<|dI _}|_=>exact h.elim
def aam(te:TD)(tl th:Ng):TD:=λσ S R Z=>te σ S (λx S1=>tl σ S1 (λl S2=>th σ S2 (λu S3=>VW x l u S3 R) Z) Z) Z
theorem slx{e:Δ}{lo hi:θ Δ}{te:TD}{tl th:Ng}{p2 pos:Pos}(he:DE K X e te)(hl:DO K X lo tl)(hu:DO K X hi th)(hK:ψ (X.K=K) qQJ):DE K X (.Subscript e (.Slice lo hi none p2) pos) (aam te tl th):=
 ⟨λy=>(wO (X:=y.cx) (VX hK) (he.of y) (hl.of y)<|hu.of y).mono <| by rintro τ H Q ⟨σ,S,R,Z,aA,hS,q,hR,hZ⟩;exact
  ⟨σ,S,_,Z,aA,hS,q,λd S1 x H1 r1 v1 s1 k1=>⟨σ,S1,_,Z,aA.ts k1,s1,r1,λl S2 H2 r2 s2 k2=>⟨σ,S2,_,Z,aA.ts<|k1.trans k2,s2,r2,λu S3 H3 r3 s3 k3=>⟨d,S3,R,Rv.ts (k2.trans k3) _ v1,s3,r3,hR.kp<|(k1.trans k2).trans k3⟩,hZ.kp<|k1.trans k2⟩,hZ.kp k1⟩,hZ⟩⟩
end
theorem wD{K:Φ}{X:Cx}{b:χ}{st:Stmt} : DS K X b st (λ_ _ _ _=>False):=by refine⟨λy=>?_⟩;rintro pins s τ H D I ⟨_,_,_,_,_,_,h,_⟩;exact h.elim
section
variable{prog:Ψ}{w:Ω}{A:ϕ}
theorem xD(hh:A.handled=none)(gl:s.heap.get? l=some ol)(cl:ol.cls=.type "tuple"\/ol.cls=.type "list")(dl:ol.data=.seq items m)(nl:ol.dict=none)(hx:kvs.length=items.size) (hi:∀(i:π) (v:ξ),items[i]?=some v->∃(b:ε) (k:Key) (key val:ξ) (o:Obj) (m:π),kvs[i]?=some (k,val)/\v=.ref b/\(aw prog w).is k key=true/\s.heap.get? b=some o/\o.cls=.type "tuple"/\o.data=.seq #[key,val] m) (hb:items.size<=sizeLine) (h:∀(h':Γ) (tk:π),h'.DictOf (aw prog w) s.heap.objs.size (merged [] kvs)->(∀b o,s.heap.get? b=some o->h'.get? b=some o)->Q (.ref s.heap.objs.size) {s with heap:=h',toks:=tk}): wpAny (model prog w) A (call (.type "dict") [.ref l]) Q E s:=by
 refine callType_codes (Q₁:=λobj aU=>obj=.ref s.heap.objs.size/\aU={s with heap:=s.heap.push {cls:=.type "dict",data:=.dict #[]}}) F.kt_called_dict (F.kt_typeCall_dict_1 _) F.entry_dict_init (kt_code_dict_new _ ⟨rfl,rfl⟩) ?_;rintro obj aU ⟨rfl,rfl⟩;have Qz:(s.heap.push {cls:=.type "dict",data:=.dict #[]}).DictOf (aw prog w) s.heap.objs.size []:=Heap.DictOf.new s.heap;have NI:(s.heap.push {cls:=.type "dict",data:=.dict #[]}).get? l=some ol:=zb _ gl;refine{Qz.typeIs,F.args_dict_init_2 _ _,?_};unfold Builtin.«dict.__init__»;refine zc ?_;unfold Builtin.Dict.selfAndRest;refine zc<|wpAny_notOrdered_dict Qz.typeIs ?_;show wpAny _ _ (pure (s.heap.objs.size,[Value.ref l])) _ _ _;refine zo ?_;show wpAny _ _ (Builtin.Dict.updateFrom "dict.__init__" s.heap.objs.size (.ref l) [] .none) _ _ _;unfold Builtin.Dict.updateFrom;have h3:A.in1.in1.handled=none:=by simp[hh]
 have ll:l<s.heap.objs.size:=zx gl;have key:∀{h1:Γ}{SG:π}{io:Obj}{St:π->Γ->η}{R:Result->ζ->η}{c:ν}{t:Tok},(∀b ob,(s.heap.push {cls:=.type "dict",data:=.dict #[]}).get? b=some ob->h1.get? b=some ob)->(l≠h1.objs.size->Walks prog w A.in1.in1 h1.objs.size [h1.objs.size,l] [h1.objs.size] items.size (λi v=>items[i]?=some v) St)->St 0 (h1.push io)->(∀(h':Γ) (tk:π),h'.DictOf (aw prog w) s.heap.objs.size (merged [] kvs)->(∀b o,s.heap.get? b=some o->h'.get? b=some o)->R (.ok<|.ret .none) {s with heap:=h',toks:=tk})->codeAny (model prog w) A.in1 (.builtin "dict.update.loop" {[.ref s.heap.objs.size,.ref h1.objs.size,.int c t,.none],[]}) R {h1.push io,s.gens,s.drawn,SG,s.os}:=by intro h1 SG io St R c t L4 W QA hR;have d1:h1.DictOf (aw prog w) s.heap.objs.size []:=(by obtain⟨o,es,ep,ho,rest⟩:=Qz;exact{o,es,ep,L4 _ _ ho,rest});have lD:s.heap.objs.size<h1.objs.size:=(by obtain⟨o,es,ep,ho,rest⟩:=d1;exact zx ho);have nf:s.heap.objs.size∉[h1.objs.size,l]:=(by simp only[zk,zI,zP,or_false,not_or];exact{zB lD,yA ll});refine E_ (W<|zB<|Nat.lt_trans ll lD).toS s.heap.objs.size nf kvs hx s.heap (λi v e=>?_) hb (items.size-0) 0 _ _ _ (by lia) QA (d1.push _) (λb o e _ _=>zb _<|L4 _ _<|zb _ e) λs' hm q=>?_;obtain⟨b,k,key,val,o,m',e1,e2,e3,e4,e5,e6⟩:=hi i v e;have lb:=zx e4;exact{b,k,key,val,o,m',e1,e2,e3,e4,e5,e6,zB lb,by simp;exact zB<|Nat.lt_trans lb lD};obtain⟨h',g',d',K5,T7⟩:=s';have eg:g'=s.gens:=hm.gens;have ed:d'=s.drawn:=hm.drawn;have eo:T7=s.os:=hm.os;subst eg ed eo;refine hR h' K5 q λb o e=>?_;have lb:=zx e;refine hm.heap b o ?_<|zb _<|L4 _ _<|zb _ e;simp only[zk,zI,zP,or_false,not_or];exact{zB lb,zB<|Nat.lt_trans lb lD}
 rcases cl with cl|cl;refine zc<|wpAny_typeOf (T:="tuple") ⟨ol,NI,cl⟩ ?_;rw[xL<|by decide];refine zc<|rY NI cl dl nl h3 λh1 SG L4=>?_;show wpAny _ _ (rule _ >>=_) _ _ _;refine zc<|yW ?_;have VY:h1.IsTuple l items:={ol,L4 _ _ NI,cl,m,dl};refine zc<|wpAny_pyIter_tuple (s:=⟨h1,s.gens,s.drawn,SG,s.os⟩) VY ?_;exact zo {plainId_quiet cn _,key L4 (λne=>Walks.tuple h3 _ l ne items) {{_,zi _ rfl,rfl,rfl},VY.push _} λh' tk q kp=>{rfl,h h' tk q kp}};refine zc<|wpAny_typeOf (T:="list") ⟨ol,NI,cl⟩ ?_;rw[xL<|by decide];refine zc<|uY NI cl dl nl h3 λh1 SG L4=>?_;show wpAny _ _ (rule _ >>=_) _ _ _;refine zc<|yW ?_;have VY:h1.IsList l items:={ol,L4 _ _ NI,cl,m,dl};refine zc<|wpAny_pyIter_list (s:=⟨h1,s.gens,s.drawn,SG,s.os⟩) VY ?_;exact zo {plainId_quiet cn _,key L4 (λne=>Walks.list h3 _ l ne items) {{_,zi _ rfl,rfl,rfl},VY.push _} λh' tk q kp=>{rfl,h h' tk q kp}}
end
section
variable{X:Cx}
theorem BS(hc:X.calm=true):eI X (.type "dict") (λvs H Q=>∃p ps kvs,vs=[.ref p]/\(H p=some (.tup ps)\/iu X.K H p ps)/\Prs H ps kvs/\∀l,H l=none->Q (.ref l) (upd H l<|.dK<|Di kvs)):=by
 intro pins s σ H vs us Q I r h;obtain⟨p,ps,kvs,rfl,hp,⟨hl,hq⟩,q⟩:=h;obtain⟨u,rfl,rx⟩:=vals1 r;cases rx;obtain⟨ar,rv,ol,m,gl,cl,nl,dl,hz⟩:∃ar,Vals ps ar/\∃ol m,s.heap.get? p=some ol/\(ol.cls=.type "tuple"\/ol.cls=.type "list")/\ol.dict=none/\ol.data=.seq ar.toArray m/\ps.length<=sizeLine:=by rcases hp with hp|hp;obtain⟨hz,ar,rv,ol,gl,cl,nl,m,dl⟩:=(show aS X.prog X.w H s.heap p (.tup ps) from I.aI p _ hp);exact{ar,rv,ol,m,gl,.inl cl,nl,dl,hz};obtain⟨ar,rv,⟨ol,m,gl,cl,nl,dl⟩,hz⟩:=I.list hp;exact{ar,rv,ol,m,gl,.inr cl,nl,dl,by have:=rv.length;lia}
 have hlen:=rv.length;have each:∀(i:π)(x:V)(pr:ρ×V),ps[i]?=some x->kvs[i]?=some pr->∃(b:ε)(key val:ξ)(o:Obj)(m:π),ar[i]?=some (.ref b)/\(aw X.prog X.w).is (.inr pr.1) key=true/\RelV pr.2 val/\s.heap.get? b=some o/\o.cls=.type "tuple"/\o.data=.seq #[key,val] m:=by intro i x pr e1 e2;obtain⟨b,rfl,hb⟩:=hq i x pr e1 e2;obtain⟨u,e3,ru⟩:=rv.get e1;cases ru;obtain⟨_,it2,r2,o,go,co,no,m2,do2⟩:=(show aS X.prog X.w H s.heap b (.tup [.str pr.1,pr.2]) from I.aI b _ hb);obtain⟨k',v',rfl,⟨tk,rfl⟩,rv'⟩:=r2.two;exact{b,_,v',o,m2,e3,fG _ _ _ _,rv',go,co,by simpa using do2}
 have kv:∃vals:δ (Key×ξ),KV (kvs.map λp=>((.inr p.1:Key),p.2)) vals/\∀(i:π)(x:V),ps[i]?=some x->∃(b:ε)(k:Key)(key val:ξ)(o:Obj)(m:π),vals[i]?=some (k,val)/\ar[i]?=some (.ref b)/\(aw X.prog X.w).is k key=true/\s.heap.get? b=some o/\o.cls=.type "tuple"/\o.data=.seq #[key,val] m:=by clear hp q rv gl dl hz;induction kvs generalizing ps ar with|nil=>refine{[],.nil,λi x e=>?_};have:ps=[]:=List.eq_nil_of_length_eq_zero (by simpa using hl.symm);subst this;simp at e|cons pr r ih=>cases ps with|nil=>simp at hl|cons y ys=>cases ar with|nil=>simp at hlen|cons w0 ws=>obtain⟨b,key,val,o,m,e1,e2,e3,e4,e5,e6⟩:=each 0 y pr rfl rfl;obtain⟨vals,k1,k2⟩:=ih ys (by simpa using hl) (λi x p a b=>hq (i+1) x p (by simpa using a)<|by simpa using b) ws (by simpa using hlen) (λi x p a b=>by simpa using each (i+1) x p (by simpa using a) (by simpa using b));refine{(.inr pr.1,val)::vals,.cons ⟨rfl,e3⟩ k1,λi x e=>?_};cases i with|zero=>exact{b,.inr pr.1,key,val,o,m,rfl,e1,e2,e4,e5,e6}|succ i=>simpa using k2 i x (by simpa using e)
 obtain⟨vals,kv1,kv2⟩:=kv;have lv:vals.length=ar.length:=by have:=kv1.length;rw[za]at this;lia
 refine xD (kvs:=vals) (I.ok.hd hc) gl cl dl nl (by simpa using lv) (λi v e=>?_) (by simp;lia) λh' tk qs kp=>?_;have e':ar[i]?=some v:=by simpa using e
 have hi:i<ar.length:=(ze.mp e').1;obtain⟨b,k,key,val,o,m',e1,e2,e3,e4,e5,e6⟩:=kv2 i (ps[i]'(by lia))<|zf _;rw[e']at e2;exact{b,k,key,val,o,m',e1,zS e2,e3,e4,e5,e6};have rel:KV (Di kvs) (merged [] vals):=by have all:∀(l:δ (ρ×V))(vl:δ (Key×ξ))(c:δ (Key×V))(cv:δ (Key×ξ)),KV (l.map λp=>((.inr p.1:Key),p.2)) vl->KV c cv->KV (l.foldl (λc p=>putK c (.inr p.1) p.2) c) (merged cv vl):=(by intro l;induction l with|nil=>(intro vl c cv h1 h2;cases h1;exact h2)|cons p r ih=>intro vl c cv h1 h2;cases h1 with|@cons _ q _ qs r1 r2=>obtain⟨k,v⟩:=q;obtain⟨rfl,rv⟩:=r1;exact ih qs _ _ r2<|h2.put _ rv);exact all kvs vals [] [] kv1 .nil
 have big:=I.big;refine{.ref s.heap.objs.size,_,I.laid (t':=tk) (λb o e=>kp b o e) (zm _) (o:=.dK<|Di kvs) {?_,?_,_,rel,qs},rfl,q _<|I.aI.fresh<|zm _};have e1:=rel.length;have e2:=merged_length_le ([]:δ (Key×ξ)) vals;simp at e2;lia;simp;exact yA big
end
section
variable{K:Φ}
def QB:δ D->ak->KD->Prop:=λds S R=>∃x,∃kvs:δ (ρ×D),ds=[x]/\(x=.tup (kvs.map qj)\/o9 S x (kvs.map qj))/\∀p,S p=none->R (.ref p) (S.set p<|.bG<|eX kvs)
theorem uZ:ic K (.type "dict") QB:=by
 rintro X hK hc pins s σ H xs us Q I rx ⟨ds,S,R,r,hS,⟨x,kvs,e,h1,h⟩,hR⟩;subst hK e;obtain⟨v,rfl,r1⟩:=r.one;obtain⟨a,ys,rfl,q,t⟩:∃a ys,v=.ref a/\(H a=some (.tup ys)\/iu X.K H a ys)/\RvAll X.K H (kvs.map qj) ys:=by rcases h1 with rfl|h1;obtain⟨a,ys,e,q,t⟩:=r1.tup;exact{a,ys,e,.inl q,t};obtain⟨a,ys,e,q,t⟩:=h1.at hS r1;exact{a,ys,e,.inr q,t}
 obtain⟨kv,hp,hf⟩:=Du t;refine BS hc pins s σ H _ us Q I rx {a,ys,kv,rfl,q,hp,λl hl=>?_};have kn:Kp X.K H (upd H l<|.dK<|Di kv):=.new hl;exact hR _ _ _ _ (h l<|hS.fresh hl) (iO l) (hS.new (c:=.bG<|eX kvs) hl {_,aB,(hf [] [] .nil).ts kn}) kn
end
section
variable{prog:Ψ}{w:Ω}{A:ϕ}{R:Result->ζ->η}{I:ε}{fp wr:δ ε}{G:Array GenState->Array GenState->η}{n:π}{P:π->ξ->η}{St:π->ζ->η}
theorem FA{Z:π->Γ->η}(W:WalksS prog w A.in1 I fp wr G n P St)(S:ε)(hSf:S∉fp)(hz:∀{i:π}{s s':ζ},Moved wr G s s'->Z i s.heap->Z i s'.heap) (QC:∀{i:π}{v:ξ}{s:ζ}{Q:χ->ζ->η}{E:ξ->ζ->η},i<n->P i v->Z i s.heap->(∀b h' tk,s.toks<=tk->Heap.SameBut S s.heap h'->Z (i+1) h'->Q b {s with heap:=h',toks:=tk})->wpAny (model prog w) A.in1 (setAdd S v) Q E s): ∀(k i:π)(s:ζ),i+k=n->St i s->Z i s.heap->(∀s',Moved (S::wr) G s s'->Z n s'.heap->R (.ok<|.ret .none) s')->codeAny (model prog w) A (.builtin "set.update.loop" {[.ref S,.ref I],[]}) R s:=by have up:∀b∈wr,b∈S::wr:=λb hb=>zh _ hb;intro k;induction k with|zero=>intro i s hk wJ hS hR;have e:i=n:=(by lia);subst e;refine yT F.entry_set_update_loop ?_;rw[Around.under_plainId F.plain_set_update_loop _];show wpAny _ A.in1 (pyNext (.ref I) >>=_) _ _ s;refine zc<|W.done s _ _ wJ λs' hm=>?_;show wpAny _ A.in1 (ret Value.none) _ _ s';exact zo (hR s' (hm.mono up)<|hz hm hS)|succ k ih=>intro i s hk wJ hS hR;have lt:i<n:=(by lia);refine yT F.entry_set_update_loop ?_;rw[Around.under_plainId F.plain_set_update_loop _];show wpAny _ A.in1 (pyNext (.ref I) >>=_) _ _ s;refine zc<|W.item i s _ _ lt wJ λv s' hP PQ hm=>?_;show wpAny _ A.in1 (holding [v] (setAdd S v) >>=_) _ _ s';refine zc<|yD<|QC lt hP (hz hm hS) λb h' tk Kw Dh q=>?_;refine zo {plainId_quiet F.plain_set_update_loop _,ih (i+1) _ (by lia) (W.frame _ s' _ _ PQ Kw λb hb o e=>?_) q λA9 PR Y6=>?_};rw[Dh.2 b (λh:b=S=>hSf<|by rw[<-h];exact hb)];exact e;refine hR A9 (Moved.trans W.gtrans ((hm.mono up).then_heap Kw λb o hb e=>?_) PR) Y6;rw[Dh.2 b (λh:b=S=>hb<|by rw[h];exact zj)];exact e
end
section
variable{prog:Ψ}{w:Ω}{A:ϕ}
theorem tP{Z:π->Γ->η}{E:ξ->ζ->η}{s:ζ}{l:ε}{items:Array ξ}{Q:ξ->ζ->η}(hh:A.handled=none)(hl:s.heap.IsList l items) (z0:∀led,Z 0<|(s.heap.push {cls:=.type "set",dict:=none,data:=.set #[] 0 (.fresh 0 0 led)}).push {cls:=.type "list_iterator",data:=.fields #[.ref l,.int 0 0]}) (hz:∀{i:π}{h h':Γ},(∀b o,b≠s.heap.objs.size+1->h.get? b=some o->h'.get? b=some o)->Z i h->Z i h') (QC:∀{i:π}{v:ξ}{s':ζ}{Q:χ->ζ->η}{E:ξ->ζ->η},i<items.size->items[i]?=some v->Z i s'.heap->(∀b h' tk,s'.toks<=tk->Heap.SameBut s.heap.objs.size s'.heap h'->Z (i+1) h'->Q b {s' with heap:=h',toks:=tk})->wpAny (model prog w) A.in1.in1.in1 (setAdd s.heap.objs.size v) Q E s') (h:∀(h':Γ) (tk:π),Z items.size h'->(∀b o,b<s.heap.objs.size->s.heap.get? b=some o->h'.get? b=some o)->Q (.ref s.heap.objs.size) {s with heap:=h',toks:=tk}): wpAny (model prog w) A (call (.type "set") [.ref l]) Q E s:=by
 obtain⟨c,tl,m0⟩:=F.called_set.mro;have m1:=F.called_set.made;have m2:=F.called_set.sub;refine wpAny_call<|codeAny_of_tree ?_;show wpAny _ _ (callAny (.type "set") _) _ _ _;refine zo {Code.quiet_builtin _<|by trivial,yT F.entry_type_call ?_};rw[Around.under_plain (weight_type_call_type "set" [.ref l] []) rfl];have m3:=F.called_set.notType;have m4:=F.called_set.canCreate;have m5:=F.typeCall_set_1<|.ref l;repeat (any_goals (first|assumption|wp_step))
 refine yZ (code_set_new_1 (.ref l) (E:=E) (Q₁:=λob s1=>∃led:χ,ob=.ref s.heap.objs.size/\s1={s with heap:=s.heap.push {cls:=.type "set",dict:=none,data:=.set #[] 0 (.fresh 0 0 led)}}) λled=>⟨led,rfl,rfl⟩) λr s1 hr=>?_
 cases r with
 |error e=>exact hr
 |ok fl =>
  cases fl with
  |ret ob =>
   obtain⟨led,rfl,rfl⟩:=hr;generalize hO:({cls:=.type "set",dict:=none,data:=.set #[] 0 (.fresh 0 0 led)} : Obj)=O;have gS:(s.heap.push O).get? s.heap.objs.size=some O:=zi _ (by rw[<-hO];rfl);have tS:Shared.TypeIs {s with heap:=s.heap.push O} (.ref s.heap.objs.size) "set":={_,gS,by rw[<-hO]};have i1:=F.called_set.init.lookup;have i2:=F.called_set.init.bind<|.ref s.heap.objs.size;(repeat (any_goals (first|assumption|wp_step)));refine yZ (codeAny_call_builtin (R:=wants (λr s2=>r=.none/\∃h' tk,s2={s with heap:=h',toks:=tk}/\Z items.size h'/\(∀b o,b<s.heap.objs.size->s.heap.get? b=some o->h'.get? b=some o)) E) F.called_set.init.plain F.entry_set_init<|check_set_init_1 tS ?_) λr2 s2 hr2=>?_
   ·obtain⟨ol,gl,cl,nl,dl⟩:=hl;obtain⟨aeM,VZ,acj,QD⟩:=ol;simp only at cl dl;subst cl;subst dl;have NI:(s.heap.push O).get? l=some {cls:=.type "list",dict:=VZ,data:=.seq items nl,slots:=QD}:=zb _ gl;have j1:=F.sub_list_set;have j2:=F.sub_list_frozenset;have j3:(Value.type "list"== Value.type "dict")=false:=(by decide);have il:(s.heap.push O).IsList l items:={_,NI,rfl,nl,rfl};subst hO;unfold Builtin.«set.__init__» noKeywords Builtin.Frozenset.updateFrom;generalize hPI:pyIter=PI;wp_walk;subst hPI;refine wpAny_pyIter_list il ?_;refine zc<|wpAny_runValue ?_;have ll:l<s.heap.objs.size:=zx gl;have h3:A.in1.in1.in1.handled=none:=(by simp[hh]);have ne:l≠(s.heap.push {cls:=.type "set",dict:=none,data:=.set #[] 0 (.fresh 0 0 led)}).objs.size:=(by rw[ya];exact zB<|Nat.lt_succ_of_lt ll);have nf:s.heap.objs.size∉[(s.heap.push {cls:=.type "set",dict:=none,data:=.set #[] 0 (.fresh 0 0 led)}).objs.size,l]:=(by rw[ya];simp only[zk,zI,zP,or_false,not_or];exact{zB<|yK _,yA ll});refine FA (Z:=Z) ((Walks.list h3 _ l ne items).toS) s.heap.objs.size nf (λhm q=>hz (λb o hb e=>hm.heap b o (by rw[zI,ya];exact hb) e) q) (λhi hP q k=>QC hi hP q k) (items.size-0) 0 _ (by lia) {{_,zi _ rfl,rfl,rfl},(il.push _)} (z0 led) ?hR
    case hR =>
     intro s' hm q
     obtain⟨h',g',d',K5,T7⟩:=s'
     have eg:g'=s.gens:=hm.gens;have ed:d'=s.drawn:=hm.drawn;have eo:T7=s.os:=hm.os
     subst eg;subst ed;subst eo
     show wpAny _ _ _ _ _ _;refine zo ?_;show wpAny _ _ (ret Value.none) _ _ _
     refine zo {rfl,h',K5,rfl,q,λb o hb e=>?_}
     have b2:b≠(s.heap.push {cls:=.type "set",dict:=none,data:=.set #[] 0 (.fresh 0 0 led)}).objs.size:=by rw[ya];exact zB<|Nat.lt_succ_of_lt hb
     refine hm.heap b o ?_<|zb _<|zb _ e
     simp only[zk,zI,zP,or_false,not_or];exact{zB hb,b2}
   {cases r2 with|error e=>exact hr2|ok f2=>cases f2 with|ret r=>(obtain⟨rfl,h',tk,rfl,q,k'⟩:=hr2;(repeat (any_goals (first|assumption|wp_step)));exact h _ _ q k')|_=>exact hr2.elim}
  |_=>exact hr.elim
end
section
variable{prog:Ψ}{w:Ω}{A:ϕ}{E:ξ->ζ->η}{s:ζ}{l:ε}{items:Array ξ}{Q:ξ->ζ->η}
def QE(h:Γ)(S n:π):Prop:=∃o es ep t,h.get? S=some o/\o.ExactSet/\o.data=.set es ep t/\t.fits es.size=true/\es.size=n
theorem IA{xs:δ ρ}(hh:A.handled=none)(hl:s.heap.IsList l items)(hx:xs.length=items.size)(nd:xs.Nodup)(hi:∀(i:π)(v:ξ),items[i]?=some v->∃x t,xs[i]?=some x/\v=.str x t)(hb:items.size<300) (h:∀(h':Γ)(tk:π),QE h' s.heap.objs.size items.size->(∀b o,b<s.heap.objs.size->s.heap.get? b=some o->h'.get? b=some o)->Q (.ref s.heap.objs.size) {s with heap:=h',toks:=tk}): wpAny (model prog w) A (call (.type "set") [.ref l]) Q E s:=by
 refine tP (Z:=λi h=>h.SetOf (strKind prog w) s.heap.objs.size (λy=>ω<|y∈xs.take i) i) hh hl (λled=>?_) ?_ ?_ λh' tk q kp=>?_;have gg:=zb {cls:=.type "list_iterator",data:=.fields #[.ref l,.int 0 0]}<|zi (o:={cls:=.type "set",dict:=none,data:=.set #[] 0 (.fresh 0 0 led)}) s.heap rfl;exact SetOf_congr ((setObjOf_fresh (knd:=strKind prog w) led).setOf gg<|by unfold scanBound;lia) (λ_=>rfl) rfl;rintro i h h' kp ⟨o,es,ep,tb,ho,rest⟩;exact{o,es,ep,tb,kp _ _ (by lia) ho,rest};intro i v s' Q E lt hv q k;obtain⟨x,t,ex,rfl⟩:=hi i v hv;have fr:x∉xs.take i:=λhm=>by obtain⟨j,hj⟩:=yh hm;have hj':=(ze.mp hj).1;rw[yn]at hj';rw[List.getElem?_take_of_lt<|by lia]at hj;have:=(List.getElem?_inj (i:=j) (j:=i) (by lia) nd).mp<|hj.trans ex.symm;lia
 unfold setAdd;refine yD ?_;refine zc<|(strKind prog w).pyHash (k:=x) (strKind_is _ _ _ _) ?_;refine wpAny_setAddHashed_of (knd:=strKind prog w) (s:={s' with toks:=s'.toks+1}) (strKind_is _ _ _ _) rfl q (by unfold scanBound;lia) λh' Dh q2=>k _ h' _ (y4 _) Dh<|SetOf_congr q2 (λy=>?_) ?_;rw[List.take_succ,ex];simp;rw[xz<|by simpa using fr];obtain⟨o,es,ep,t,a1,a2,a3,_,_,_,a4,a5⟩:=q;exact h h' tk ⟨o,es,ep,t,a1,a2,a3,a4,a5⟩ kp
theorem IB{ph:δ<|δ Key}(hh:A.handled=none)(hl:s.heap.IsList l items)(hx:ph.length=items.size)(nd:ph.Nodup) (hi:∀(i:π)(v:ξ),items[i]?=some v->∃ks b,ph[i]?=some ks/\v=.ref b/\IsTupleKey (aw prog w) s.heap ks b) (hb:items.size<300) (hu:A.units+64<cLine) (h:∀(h':Γ)(tk:π),QE h' s.heap.objs.size items.size->(∀b o,b<s.heap.objs.size->s.heap.get? b=some o->h'.get? b=some o)->Q (.ref s.heap.objs.size) {s with heap:=h',toks:=tk}): wpAny (model prog w) A (call (.type "set") [.ref l]) Q E s:=by
 refine tP (Z:=λi h=>(∀b o,b<s.heap.objs.size->s.heap.get? b=some o->h.get? b=some o)/\aak prog w s.heap s.heap.objs.size ph s.heap.objs.size i h) hh hl (λled=>?_) ?_ ?_ λh' tk q kp=>?_;have gg:=zb {cls:=.type "list_iterator",data:=.fields #[.ref l,.int 0 0]}<|zi (o:={cls:=.type "set",dict:=none,data:=.set #[] 0 (.fresh 0 0 led)}) s.heap rfl;exact{λb o _ e=>zb _<|zb _ e,_,_,_,_,gg,⟨rfl,rfl,rfl⟩,rfl,{.inl rfl,rfl,rfl,show 0*5<7*3 by decide},rfl,λe he=>by simp at he};rintro i h h' kp ⟨q,o,es,ep,tb,ho,rest⟩;exact{λb o hb e=>kp b o (by lia)<|q b o hb e,o,es,ep,tb,kp _ _ (by lia) ho,rest};rintro i v s' Q E lt hv ⟨h0,o,es,ep,t,ho,hex,hd,T,hz,L5⟩ k;obtain⟨ks,b,ex,rfl,kb⟩:=hi i v hv;have hbN:b<s.heap.objs.size:=by obtain⟨o3,aeO,n3,g3,_⟩:=id kb;exact zx g3
 have tk:ph.take (i+1)=ph.take i++[ks]:=by rw[List.take_succ,ex];rfl
 refine LZ (knd:=aw prog w) ho hd T (by lia) (DY kb λo e=>h0 b o hbN e) (λe he=>?_) (by simp only[Around.in1_units];lia) λhh h' tok rG OA t' aaq Dh wG T' Xa aar=>k _ h' tok aaq Dh {λc o hc e=>by rw[Dh.2 c<|zB hc];exact h0 c o hc e,_,rG,OA,t',wG,hex,rfl,T',by lia,λe he=>?_};obtain⟨AM,b',m1,m2,m3,m4⟩:=L5 e he;refine{AM,b',m2,DY m4 λo e=>h0 b' o m3 e,?_};rintro rfl;obtain⟨j,hj⟩:=yh m1;have hj':=(ze.mp hj).1;rw[yn]at hj';rw[List.getElem?_take_of_lt<|by lia]at hj;have:=(List.getElem?_inj (i:=j) (j:=i) (by lia) nd).mp<|hj.trans ex.symm;lia;rcases aar e he with he|rfl;obtain⟨AM,b',m1,m2⟩:=L5 e he;exact{AM,b',by rw[tk];exact zV _ m1,m2};exact{ks,b,by rw[tk];exact zC _ zj,rfl,hbN,kb};obtain⟨_,o,es,ep,t,a1,a2,a3,a4,a5,_⟩:=q;exact h h' tk ⟨o,es,ep,t,a1,a2,a3,a4.fits,a5⟩ kp
end
section
variable{X:Cx}
theorem FC{K:Φ}(hK:X.K=K)(hc:X.calm=true)(hu:X.A.units+64<cLine): eI X (.type "set") (λvs H Q=>∃p xs,vs=[.ref p]/\iu K H p xs/\xs.length<300/\((∃ss:δ ρ,xs=ss.map V.str/\ss.Nodup)\/∃ph,VS H xs ph/\ph.Nodup)/\∀l,H l=none->Q (.ref l) (upd H l<|Iv l xs.length)):=by
 subst hK;intro pins s σ H vs us Q I r h;obtain⟨p,xs,rfl,hq,hz,hk,q⟩:=h;obtain⟨u,rfl,rx⟩:=vals1 r;cases rx;obtain⟨ar,r',pl,_⟩:=I.list hq;have hlen:xs.length=ar.toArray.size:=by have:=r'.length;simpa using this
 have fin:∀(h':Γ)(tk:π),QE h' s.heap.objs.size ar.toArray.size->(∀b o,b<s.heap.objs.size->s.heap.get? b=some o->h'.get? b=some o)->∃v,∃H',Inv X pins σ H' {s with heap:=h',toks:=tk}/\RelV v (.ref s.heap.objs.size)/\Q v H':=by rintro h' tk ⟨o,es,ep,t,a1,a2,a3,a4,a5⟩ kp;have ok:∀H':Hp,aS X.prog X.w H' h' s.heap.objs.size (Iv s.heap.objs.size xs.length):=λ_=>{{o,es,ep,t,a1,a2,a3,a4,by lia,hz},⟨o,a1⟩,by rintro h1 h2 ⟨o,es,ep,t,ho,rest⟩ k;exact{o,es,ep,t,k _ ho,rest}};exact{.ref s.heap.objs.size,_,I.laid (t':=tk) (λb o e=>kp b o (zx e) e) (zm _)<|ok _,rfl,q _<|I.aI.fresh<|zm _}
 rcases hk with⟨ss,rfl,nd⟩|⟨ph,⟨hl,hT⟩,nd⟩;exact IA (I.ok.hd hc) pl.isList (by rw[<-hlen,za]) nd (λi v e=>w4 r' i v<|by simpa using e) (by lia) fin;refine IB (I.ok.hd hc) pl.isList (by lia) nd (λi v e=>?_) (by lia) hu fin;have e':ar[i]?=some v:=by simpa using e
 obtain⟨x,ex,rv⟩:∃x,xs[i]?=some x/\RelV x v:=by have hi:=(ze.mp e').1;have Qy:i<xs.length:=(by have:=r'.length;lia);obtain⟨u,e3,ru⟩:=r'.get<|zf Qy;rw[e']at e3;cases e3;exact{_,zf Qy,ru}
 obtain⟨ks,b,e1,rfl,hb⟩:=hT i x ex;cases rv;obtain⟨_,it2,r2,o,go,co,no,m2,do2⟩:=(show aS X.prog X.w H s.heap b (.tup<|ks.map kV) from I.aI b _ hb);exact{ks,b,e1,rfl,o,it2.toArray,m2,go,co,do2,by simpa using qu r2}
end
section
variable{K:Φ}{X:Cx}{pos:Pos}
def IC(t:TD):TD:=λσ S R Z=>t σ S (λx S1=>∃ds,o9 S1 x ds/\ds.length<300/\((∃ss:δ ρ,ds=ss.map D.str/\ss.Nodup)\/∃ph:δ (δ Key),ds=ph.map XG/\ph.Nodup)/\R (.int ds.length) S1) Z
theorem lsG{t:TD}(hu:X.A.units+64<cLine)(h:DE K X e t)(hm:X.mg "len"= none)(hm':X.mg "set"= none)(hp:ψ (isPlain e=true) qQJ)(hg:ψ (Gl X "len") qQJ)(hg':ψ (Gl X "set") qQJ)(he:ψ (starEach [e] X.env=[(false,eval e X.env)]) qQJ) (he2:ψ (starEach [Expr.Call (.Name "set" p') [e] [] pos'] X.env=[(false,eval (.Call (.Name "set" p') [e] [] pos') X.env)]) qQJ) (hK:ψ (X.K=K) qQJ) (hc:ψ (X.calm=true) qQJ): DE K X (.Call (.Name "len" p) [.Call (.Name "set" p') [e] [] pos'] [] pos) (IC t):=by subst hK;refine⟨λy=>(wN (X:=y.cx) (BQ (X:=y.cx)) hg hm aH (YX (s9 (X:=y.cx) (FC (X:=y.cx) rfl hc hu) hg' hm' PH (YX (h.of y) A7 hp) (by decide) (by decide) he rfl) A7 rfl) (by decide) (by decide) he2 rfl).mono λτ H Q ⟨σ,S,R,Z,aA,hS,q,hR,hZ⟩=>?_⟩;refine{σ,S,_,Z,aA,hS,q,λx S1 v H1 ⟨ds,h1,hl,hk,r1⟩ v1 s1 k1=>?_,hZ};obtain⟨a,xs,rfl,hq,t⟩:=h1.at s1 v1;rw[<-t.len]at hl r1;refine{a,xs,rfl,hq,hl,?_,λl hl=>{l,_,rfl,aB,hR _ _ _ _ r1 (aM _) (s1.grow hl)<|k1.trans<|.new hl}};rcases hk with⟨ss,rfl,nd⟩|⟨ph,rfl,nd⟩;exact .inl ⟨ss,t.strs,nd⟩;exact .inr {ph,Iy t,nd}
end
noncomputable def eY(N:π)(v:π->ξ):Array Value:=((List.range N).map v).toArray
structure ZN(n N:π)(l:π->ε)(i:π)(h:Γ):η where
 z:IsZip h (n+N+2) (n+N) (n+N+1) .none
 t:kW h (n+N) (eY N λj=>.ref<|n+j)
 o:∃arr:Array ξ,arr.size=N/\kW h (n+N+1) arr
 it:∀j,j<N->h.IsTupleIter (n+j) (l j) i
theorem jt:(eY N v).size=N:=by unfold eY;simp
theorem iU:(eY N v).toList.length=N:=by unfold eY;simp
theorem L6(h:arr.size=N)(e:∀j,j<N->arr[j]?=some (v j)):arr=eY N v:=by refine Array.ext (by rw[h,jt]) λj h1 h2=>?_;have:=e j (by lia);rw[Array.getElem?_eq_getElem h1]at this;rw[zS this];simp[eY]
section
variable{prog:Ψ}{w:Ω}{A:ϕ}{E:ξ->ζ->η}{s:ζ}{n N:π}{l:π->ε}{i:π}{xs:π->Array ξ}
theorem FD{v:π->ξ}{Q:ξ->ζ->η}(h1:1<=N)(h3:N<=3)(lt:∀j,j<N->l j<n)(hs:ZN n N l i s.heap)(tu:∀j,j<N->s.heap.IsTuple (l j) (xs j))(ev:∀j,j<N->(xs j)[i]?=some (v j)) (hQ:∀h',IsZip h' (n+N+2) (n+N) (n+N+1) (rawInt s.heap.objs.size)->kW h' (n+N+1) (eY N v)->(∀j,j<N->h'.IsTupleIter (n+j) (l j) (i+1))->kW h' s.heap.objs.size (eY N v)->(∀c o,c≠n+N+2->c≠n+N+1->(∀j,j<N->c≠n+j)->s.heap.get? c=some o->h'.get? c=some o)->Q (.ref s.heap.objs.size) {s with heap:=h'}): wpAny (model prog w) A (Builtin.«zip.__next__» {[.ref<|n+N+2],[]}) (λfin s'=>∃v,fin=.done (.ret v)/\Q v s') E s:=by
 obtain⟨hz,hI,⟨arr,na,hO⟩,hit⟩:=hs;show wpAny _ _ (field (.ref<|n+N+2) 2 >>=_) _ _ _;refine zc<|yk hz rfl (x:=.bool false) rfl ?_;show wpAny _ _ (field (.ref<|n+N+2) 3 >>=_) _ _ _;refine zc<|yk hz rfl (x:=.ref<|n+N) rfl ?_;refine zc<|yR hI rfl ?_;have he:(eY N λj=>Value.ref<|n+j).isEmpty=false:=by rw[Array.isEmpty_eq_false_iff];intro e;have:=congrArg Array.size e;rw[jt]at this;simp at this;lia
 dsimp only;rw[xz<|by rw[he];exact zd];refine zc ?_;unfold Builtin.SmallTypes.ownedTupleIsFree;refine zc<|yk hz rfl (x:=.none) rfl<|zo ?_;simp only[if_true];refine zc<|yW ?_;refine zc<|yk hz rfl (x:=.ref<|n+N+1) rfl ?_;refine zc<|wpAny_setField_rec hz (by simp) λh0 L7 q0=>?_;replace L7:IsZip h0 (n+N+2) (n+N) (n+N+1) .ellipsis:=L7;have k0:∀c o,c≠n+N+2->s.heap.get? c=some o->h0.get? c=some o:=λc o d e=>q0.extBut _ _ d e;refine zc<|wpAny_forIn_list _ (λrest b s'=>∃(k:π)(h':Γ)(a':Array ξ),k<=N/\rest=((eY N λj=>Value.ref<|n+j).toList.zipIdx).drop k/\b=(none,())/\s'={s with heap:=h'}/\kW h' (n+N+1) a'/\a'.size=N/\(∀j,j<k->a'[j]?=some (v j))/\(∀j,j<N->h'.IsTupleIter (n+j) (l j) (if j<k then i+1 else i))/\IsZip h' (n+N+2) (n+N) (n+N+1) .ellipsis/\h'.objs.size=s.heap.objs.size/\(∀c o,c≠n+N+2->c≠n+N+1->(∀j,j<N->c≠n+j)->s.heap.get? c=some o->h'.get? c=some o)) _ ?_ ?_ _ _ ?_;rintro x rest b s' ⟨k,h',a',hk,e1,rfl,rfl,O,ha,hv,J,Z,sz,kp⟩;have c_:k<N:=by have:=congrArg List.length e1;rw[zO,List.length_drop,List.length_zipIdx,iU]at this;lia
 have e2:((eY N λj=>Value.ref<|n+j).toList.zipIdx).drop k=(Value.ref<|n+k,k)::((eY N λj=>Value.ref<|n+j).toList.zipIdx).drop (k+1):=by rw[ym<|by rw[List.length_zipIdx,iU];exact c_];simp[eY]
 rw[e2]at e1;cases e1;have lk:@LT.lt π _ (l k) n:=lt k c_;have Jk:=J k c_;rw[xz<|yG _]at Jk;have T0:Heap.IsTuple h' (l k) (xs k):=by obtain⟨o,a1,a2⟩:=tu k c_;exact{o,kp _ _ (by show @Ne π _ _;lia) (by show @Ne π _ _;lia) (λj _=>by show @Ne π _ _;lia) a1,a2}
 refine zc<|wpAny_onRaise ?_;show wpAny _ _ (Builtin.SmallTypes.nextOf (.ref<|n+k) >>=_) _ _ _;refine zc<|Bq (s:={s with heap:=h'}) Jk T0 (ev k c_) λg1 m0 q1=>zo ?_;have O1:kW g1 (n+N+1) a':=q1.extBut _ _ (by show @Ne π _ _;lia) O;refine zc<|yR (s:={s with heap:=g1}) O1 rfl ?_;refine zc<|Fc (s:={s with heap:=g1}) O1 (by lia) λg2 O2 q2=>?_;refine zc<|wpAny_letGo<|zo ?_;refine{k+1,g2,_,c_,rfl,rfl,rfl,O2,by rw[Array.size_setIfInBounds];exact ha,λj hj=>?_,λj hj=>?_,q2.extBut _ _ (by show @Ne π _ _;lia)<|q1.extBut _ _ (by show @Ne π _ _;lia) Z,by rw[q2.1,q1.1];exact sz,λc o d1 d2 d3 e=>q2.extBut _ _ d2<|q1.extBut _ _ (d3 k c_)<|kp c o d1 d2 d3 e};by_cases z:j=k;subst z;rw[Array.getElem?_setIfInBounds_self_of_lt<|by lia];rw[Array.getElem?_setIfInBounds_ne<|Ne.symm z];exact hv j (by lia);by_cases z:j=k;subst z;rw[xL<|yK _];exact uI q2.extBut (by show @Ne π _ _;lia) m0;have:=J j hj;rw[show(if j<k+1 then i+1 else i)=if j<k then i+1 else i by by_cases y:j<k;rw[xL y,xL<|by lia];rw[xz y,xz<|by lia]];exact uI q2.extBut (by show @Ne π _ _;lia)<|uI q1.extBut (by show @Ne π _ _;lia) this;rintro b s' ⟨k,h',a',hk,e1,rfl,rfl,O,ha,hv,J,Z,sz,kp⟩;have c_:k=N:=by have:=congrArg List.length e1;rw[List.length_nil,List.length_drop,List.length_zipIdx,iU]at this;lia
 subst c_;have ea:=L6 ha hv;subst ea;refine zc<|yR (s:={s with heap:=h'}) O rfl ?_;refine zc<|wpAny_newTuple ?_ (hsz:=by rw[iU];exact Y7 h3);have lz:n+k+2<h'.objs.size:=zx Z;show wpAny _ _ (Builtin.SmallTypes.ownedTupleHandOut (.ref<|n+k+2) (.ref h'.objs.size) >>=_) _ _ _;refine zc ?_;unfold Builtin.SmallTypes.ownedTupleHandOut;have hzM:IsZip (h'.push {cls:=.type "tuple",data:=.seq<|eY k v}) (n+k+2) (n+k) (n+k+1) .ellipsis:=zb _ Z;refine zc<|wpAny_setField_rec (s:={s with heap:=h'.push {cls:=.type "tuple",data:=.seq<|eY k v}}) hzM (by simp) λg1 SH r1=>?_;replace SH:IsZip g1 (n+k+2) (n+k) (n+k+1) (rawInt h'.objs.size):=SH;refine wpAny_setField_rec (s:={s with heap:=g1}) SH (by simp) λg2 HW r2=>?_;replace HW:IsZip g2 (n+k+2) (n+k) (n+k+1) (rawInt h'.objs.size):=HW;have up:∀c o,c≠n+k+2->h'.get? c=some o->g2.get? c=some o:=λc o d e=>r2.extBut _ _ d<|r1.extBut _ _ d<|zb _ e;have hT:kW g2 h'.objs.size (eY k v):=r2.extBut _ _ (yA lz)<|r1.extBut _ _ (yA lz)<|zi _ rfl;rw[sz]at HW hT;refine zo !⟨?_⟩;show Q (.ref h'.objs.size) _;rw[sz];refine hQ g2 HW (up _ _ (by show @Ne π _ _;lia) O) (λj hj=>?_) hT λc o d1 d2 d3 e=>up c o d1<|kp c o d1 d2 d3 e;have:=J j hj;rw[xL hj]at this;exact Nb (λo e=>up _ o (by show @Ne π _ _;lia) e) this;refine{0,h0,arr,zY _,rfl,rfl,rfl,k0 _ _ (by show @Ne π _ _;lia) hO,na,λj hj=>absurd hj<|Nat.not_lt_zero _,λj hj=>?_,L7,q0.1,λc o d _ _ e=>k0 c o d e};rw[xz<|Nat.not_lt_zero _];obtain⟨o,a1,a2⟩:=hit j hj;exact{o,k0 _ _ (by show @Ne π _ _;lia) a1,a2}
theorem ID(h1:1<=N)(hh:A.handled=none)(hs:ZN n N l i s.heap)(lt:l 0<n)(t0:s.heap.IsTuple (l 0)<|xs 0)(e0:(xs 0)[i]?=none) (hE:∀h' e,(∀c o,c≠n+N+2->c≠n+0->s.heap.get? c=some o->h'.get? c=some o)->(∃o,h'.get? e=some o/\o.cls=.type "StopIteration")->E (.ref e) {s with heap:=h'}): wpAny (model prog w) A (Builtin.«zip.__next__» {[.ref<|n+N+2],[]}) Q E s:=by
 obtain⟨hz,hI,⟨arr,na,hO⟩,hit⟩:=hs;show wpAny _ _ (field (.ref<|n+N+2) 2 >>=_) _ _ _;refine zc<|yk hz rfl (x:=.bool false) rfl ?_;show wpAny _ _ (field (.ref<|n+N+2) 3 >>=_) _ _ _;refine zc<|yk hz rfl (x:=.ref<|n+N) rfl ?_;refine zc<|yR hI rfl ?_;have he:(eY N λj=>Value.ref<|n+j).isEmpty=false:=by rw[Array.isEmpty_eq_false_iff];intro e;have:=congrArg Array.size e;rw[jt]at this;simp at this;lia
 dsimp only;rw[xz<|by rw[he];exact zd];refine zc ?_;unfold Builtin.SmallTypes.ownedTupleIsFree;refine zc<|yk hz rfl (x:=.none) rfl<|zo ?_;simp only[if_true];refine zc<|yW ?_;refine zc<|yk hz rfl (x:=.ref<|n+N+1) rfl ?_;refine zc<|wpAny_setField_rec hz (by simp) λh0 L7 q0=>?_;replace L7:IsZip h0 (n+N+2) (n+N) (n+N+1) .ellipsis:=L7;have lk:@LT.lt π _ (l 0) n:=lt;have J0:Heap.IsTupleIter h0 (n+0) (l 0) i:=by obtain⟨o,a1,a2⟩:=hit 0 h1;exact{o,q0.extBut _ _ (by show @Ne π _ _;lia) a1,a2}
 have T0:Heap.IsTuple h0 (l 0) (xs 0):=by obtain⟨o,a1,a2⟩:=t0;exact{o,q0.extBut _ _ (by show @Ne π _ _;lia) a1,a2}
 have e2:(eY N λj=>Value.ref<|n+j).toList.zipIdx=(Value.ref<|n+0,0)::((eY N λj=>Value.ref<|n+j).toList.zipIdx).drop 1:=by have:=ym (l:=(eY N λj=>Value.ref<|n+j).toList.zipIdx) (i:=0) (by rw[List.length_zipIdx,iU];exact h1);rw[List.drop_zero]at this;rw[this];simp[eY]
 rw[e2,List.forIn_cons];refine zc<|zc<|zc<|wpAny_onRaise ?_;show wpAny _ _ (Builtin.SmallTypes.nextOf (.ref<|n+0) >>=_) _ _ _;refine zc<|p5 (s:={s with heap:=h0}) hh J0 T0 e0 λh1 e q1 he=>?_;obtain⟨oe,hoe,hce⟩:=he;have SH:IsZip h1 (n+N+2) (n+N) (n+N+1) .ellipsis:=q1 _ _ (by show @Ne π _ _;lia) L7;have ez:e≠n+N+2:=λx=>by subst x;rw[SH]at hoe;cases hoe;simp at hce
 refine wpAny_setField_rec (s:={s with heap:=h1}) SH (by simp) λh2 _ q2=>hE h2 e (λc o dz d0 x=>q2.extBut _ _ dz<|q1 _ _ d0<|q0.extBut _ _ dz x) {oe,q2.extBut _ _ ez hoe,hce}
end
noncomputable def QF(K:Φ)(N:π)(l:π->ε):It:={λi H=>∃(xs:π->δ V)(x:π->V),∀j,j<N->hW K H (l j) (xs j)/\(xs j)[i]?=some (x j),λi H y H'=>∃T,H T=none/\y=.ref T/\∀(xs:π->δ V)(x:π->V),(∀j,j<N->hW K H (l j) (xs j)/\(xs j)[i]?=some (x j))->H'=upd H T (.tup<|(List.range N).map x),λi H=>∃xs:π->δ V,(∀j,j<N->hW K H (l j) (xs j))/\(xs 0).length<=i}
noncomputable def SI(n N:π):δ Addr:=(List.range<|N+3).map λj=>n+j
theorem pj(h:b∈SI n N):∃j,j<N+3/\b=n+j:=by obtain⟨j,hj,e⟩:=zg.mp h;exact{j,zU.mp hj,e.symm}
theorem eZ(h:j<N+3):(n+j:π)∈SI n N:=zg.mpr {j,zU.mpr h,rfl}
theorem BU(h:∀j,j<N->RelV (x j) (u j)):Vals ((List.range N).map x) ((List.range N).map u):=by
 have:∀l:δ π,(∀j∈l,j<N)->Vals (l.map x) (l.map u):=by intro l;induction l with|nil=>exact λ_=>.nil|cons a l ih=>exact λhl=>.cons (h a<|hl a zj)<|ih λj hj=>hl j<|zh _ hj
 exact this _ λj hj=>zU.mp hj
theorem tQ{P:Ψ}{w:Ω}{K:Φ}{es:δ Δ}{kk:π}{tp:Pos}{n N:π}{l:π->ε}(h1:1<=N)(h3:N<=3)(lt:∀j,j<N->l j<n):Turn P w K (.Tuple es kk tp) (QF K N l) (SI n N) (n+N+2) (ZN n N l) where
 mem:=eZ (j:=N+2)<|by lia
 obj:=λi h st b hb=>by
  obtain⟨j,hj,rfl⟩:=pj hb
  by_cases q:j<N
  ·obtain⟨o,e,c,d⟩:=st.it j q;exact{o,e,λv z=>by rw[d]at z;cases z}
  ·obtain⟨arr,na,hO⟩:=st.o
   have:j=N\/j=N+1\/j=N+2:=by lia
   rcases this with rfl|rfl|rfl
   ·exact{_,st.t,λv z=>by cases z}
   ·exact{_,hO,λv z=>by cases z}
   ·exact{_,st.z,λv z=>by cases z}
 keep:=λi h h' st k=>by
  obtain⟨hz,hI,⟨arr,na,hO⟩,J⟩:=st
  exact{k _ (eZ (j:=N+2)<|by lia) _ hz,k _ (eZ (j:=N)<|by lia) _ hI,{arr,na,k _ (eZ (j:=N+1)<|by lia) _ hO},λj hj=>Nb (λo e=>k _ (eZ<|by lia) o e)<|J j hj}
 item:=by
  intro X hP hw hK hc i pins s σ H E I hf st hg
  subst hP hw hK
  obtain⟨xs,x,hx⟩:=hg
  have ex:∀j,∃(ar:δ ξ)(u:ξ),j<N->Vals (xs j) ar/\s.heap.IsTuple (l j) ar.toArray/\ar[i]?=some u/\RelV (x j) u:=λj=>by
   by_cases q:j<N
   ·obtain⟨ar,rv,p,_⟩:=I.tuple (hx j q).1
    obtain⟨u,hu,ru⟩:=rv.get (hx j q).2
    exact{ar,u,λ_=>⟨rv,p,hu,ru⟩}
   ·exact{[],.none,λh=>absurd h q}
  have fx:=Classical.axiomOfChoice ex
  obtain⟨ar,fx⟩:=fx
  obtain⟨u,fx⟩:=Classical.axiomOfChoice fx
  have hT:s.TypeIs (.ref<|n+N+2) "zip":={_,st.z,rfl}
  have lz:@LT.lt π _ (n+N+2) s.heap.objs.size:=zx st.z
  unfold pyNext
  refine zc<|wpAny_attempt<|wpAny_callSpecial?_slot (name:=Str.ofString "__next__") hT F.slot_zip_next<|yQ F.slot_zip_next hT F.entry_zip_next (FD h1 h3 lt st (xs:=λj=>(ar j).toArray) (v:=u) (λj hj=>(fx j hj).2.1) (λj hj=>by simpa using (fx j hj).2.2.1) λg1 z1 O1 m1 T1 kp=>zo !⟨?_⟩)<|F.args_zip_next_1 _
  refine wpAny_letOwnedTupleGo_zip (s:={s with heap:=g1}) z1 λg2 z2 r2=>?_
  have Xv:∀c o,c∉SI n N->s.heap.get? c=some o->g2.get? c=some o:=λc o hc e=>r2.extBut _ _ (λz=>hc<|z ▸ eZ (j:=N+2) (by lia))<|kp c o (λz=>hc<|z ▸ eZ (j:=N+2) (by lia)) (λz=>hc<|z ▸ eZ (j:=N+1) (by lia)) (λj hj z=>hc<|z ▸ eZ (by lia)) e
  have T2:kW g2 s.heap.objs.size (eY N u):=r2.extBut _ _ (yA lz) T1
  have I2:Inv X pins σ (upd H s.heap.objs.size<|.tup<|(List.range N).map x) {s with heap:=g2}:=I.K8 (t':=s.toks) (SI n N) hf Xv (Heap.get?_none_of_le<|zm _) {by rw[za,List.length_range];exact smz<|zG h3<|by decide,_,BU λj hj=>(fx j hj).2.2.2,{_,T2,rfl,rfl,_,rfl}}
  refine{.ref s.heap.objs.size,_,I2,rfl,{_,I.aI.fresh<|zm _,rfl,λys y hy=>?_},{z2,?_,{_,jt,r2.extBut _ _ (by show @Ne π _ _;lia) O1},λj hj=>uI r2.extBut (by show @Ne π _ _;lia)<|m1 j hj},λb hb=>?_}
  ·congr 2
   refine zW λj hj=>?_
   have hj:=zU.mp hj
   have:=I.mq (hy j hj).1 (hx j hj).1
   have e:=(hy j hj).2
   rw[this,(hx j hj).2]at e
   exact zS e
  ·exact r2.extBut _ _ (by show @Ne π _ _;lia) (kp _ _ (by show @Ne π _ _;lia) (by show @Ne π _ _;lia) (λj hj=>by show @Ne π _ _;lia) st.t)
  ·obtain⟨j,hj,rfl⟩:=pj hb
   rw[av<|by show @Ne π _ _;lia]
   exact(hf _ hb).1
 done:=by
  intro X hP hw hK hc i pins s σ H E I hf st hg
  subst hP hw hK
  obtain⟨xs,hx,hl⟩:=hg
  obtain⟨IE,rv0,p0,_⟩:=I.tuple<|hx 0 h1
  have hT:s.TypeIs (.ref<|n+N+2) "zip":={_,st.z,rfl}
  have L8:=rv0.length
  unfold pyNext
  refine zc<|wpAny_attempt<|wpAny_callSpecial?_slot (name:=Str.ofString "__next__") hT F.slot_zip_next<|yQ F.slot_zip_next hT F.entry_zip_next (ID h1 (I.ok.hd hc) st (lt 0 h1) (xs:=λ_=>IE.toArray) p0 (by simp;lia) λh1 e kp he=>?_)<|F.args_zip_next_1 _
  obtain⟨o,ho,LF⟩:=he
  refine zc<|wpAny_isInstance (T:="StopIteration") (b:=true) ⟨o,ho,LF⟩ isSubtype_stop<|zo {rfl,?_}
  exact I.K7 (t':=s.toks) (SI n N) hf λc o hc e=>kp c o (λz=>hc<|z ▸ eZ (j:=N+2) (by lia)) (λz=>hc<|z ▸ eZ (j:=0) (by lia)) e
 self:=λA' i s Q E st h=>wpAny_pyIter_zip st.z h
noncomputable def two(a b:ε):π->Addr:=λj=>if j=0 then a else b
noncomputable def QG(a b c:ε):π->Addr:=λj=>if j=0 then a else if j=1 then b else c
theorem QH{p:π->η}(h0:p 0)(h1:p 1):∀j,j<2->p j|0,_=>h0|1,_=>h1|j+2,h=>by lia
theorem XI{p:π->η}(h0:p 0)(h1:p 1)(h2:p 2):∀j,j<3->p j|0,_=>h0|1,_=>h1|2,_=>h2|j+3,h=>by lia
section
variable{X:Cx}{a b c:Δ}{ta:TA}{p pos tp:Pos}{es:δ Δ}{kk:π}
theorem QI(hg:Gl X "zip")(hm:X.mg "zip"= none)(ha:PA X [a,b] ta)(hs:starEach [a,b] X.env=[(false,eval a X.env),(false,eval b X.env)])(wK:starEach [b] X.env=[(false,eval b X.env)]): PI X (.Tuple es kk tp) (.Call (.Name "zip" p) [a,b] [] pos) (λσ H R=>ta σ H λvs H1=>∃l0 l1,vs=[.ref l0,.ref l1]/\(∃xs,hW X.K H1 l0 xs)/\(∃xs,hW X.K H1 l1 xs)/\R (QF X.K 2<|two l0 l1) H1):=by intro pins s σ H R I h;refine Call_<|fU I hg hm boot_zip<|PyProof.Rows.callWith_type1 (bj (ha pos pins s σ H _ I h) λus s1 ⟨vs,H1,I1,r1,q1⟩=>?_) (by rw[hs,wK]) (by rw[wK];rfl);obtain⟨l0,l1,e,⟨Br,q0⟩,⟨Bu,q2⟩,q⟩:=q1;subst e;obtain⟨u,v,rfl,r,r'⟩:=r1.two;cases r;cases r';obtain⟨IE,rv0,p0,_⟩:=I1.tuple q0;obtain⟨QJ,VD,p1,_⟩:=I1.tuple q2;refine Bz (show s1.heap.IsTuple l0 IE.toArray from p0) (show s1.heap.IsTuple l1 QJ.toArray from p1) λh' zs kp=>?_;have zn:ZN s1.heap.objs.size 2 (two l0 l1) 0 h':={zs.1,zs.2.1,zs.2.2.1,QH zs.2.2.2.1 zs.2.2.2.2};refine wpAny_pyIter_zip (s:={s1 with heap:=h'}) zs.1 {_,_,_,_,H1,rfl,I1.kept (t':=s1.toks) kp,tQ (by decide) (by decide)<|QH p0.lt p1.lt,zn,λb hb=>?_,q};obtain⟨j,_,rfl⟩:=pj hb;exact I1.mr (Nat.le_add_right _ _)<|I1.aI.fresh<|Nat.le_add_right _ _
theorem QK(hg:Gl X "zip")(hm:X.mg "zip"= none)(ha:PA X [a,b,c] ta)(hs:starEach [a,b,c] X.env=[(false,eval a X.env),(false,eval b X.env),(false,eval c X.env)])(wK:starEach [b,c] X.env=[(false,eval b X.env),(false,eval c X.env)]): PI X (.Tuple es kk tp) (.Call (.Name "zip" p) [a,b,c] [] pos) (λσ H R=>ta σ H λvs H1=>∃l0 l1 l2,vs=[.ref l0,.ref l1,.ref l2]/\(∃xs,hW X.K H1 l0 xs)/\(∃xs,hW X.K H1 l1 xs)/\(∃xs,hW X.K H1 l2 xs)/\R (QF X.K 3<|QG l0 l1 l2) H1):=by intro pins s σ H R I h;refine Call_<|fU I hg hm boot_zip<|PyProof.Rows.callWith_type1 (bj (ha pos pins s σ H _ I h) λus s1 ⟨vs,H1,I1,r1,q1⟩=>?_) (by rw[hs,wK]) (by rw[wK];rfl);obtain⟨l0,l1,l2,e,⟨Br,q0⟩,⟨Bu,q2⟩,⟨Sa,q3⟩,q⟩:=q1;subst e;obtain⟨u,v,z,rfl,r,r',r''⟩:=r1.three;cases r;cases r';cases r'';obtain⟨IE,rv0,p0,_⟩:=I1.tuple q0;obtain⟨QJ,VD,p1,_⟩:=I1.tuple q2;obtain⟨uA,Sy,p2,_⟩:=I1.tuple q3;refine BF (show s1.heap.IsTuple l0 IE.toArray from p0) (show s1.heap.IsTuple l1 QJ.toArray from p1) (show s1.heap.IsTuple l2 uA.toArray from p2) λh' zs kp=>?_;have zn:ZN s1.heap.objs.size 3 (QG l0 l1 l2) 0 h':={zs.1,zs.2.1,zs.2.2.1,XI zs.2.2.2.1 zs.2.2.2.2.1 zs.2.2.2.2.2};refine wpAny_pyIter_zip (s:={s1 with heap:=h'}) zs.1 {_,_,_,_,H1,rfl,I1.kept (t':=s1.toks) kp,tQ (by decide) (by decide)<|XI p0.lt p1.lt p2.lt,zn,λb hb=>?_,q};obtain⟨j,_,rfl⟩:=pj hb;exact I1.mr (Nat.le_add_right _ _)<|I1.aI.fresh<|Nat.le_add_right _ _
end
section
variable{K:Φ}{X:Cx}{a c e:Δ}{t:iD}{p pos tp:Pos}{es:δ Δ}{kk:π}
theorem izn(hm:X.mg "zip"= none)(ha:DA K X [a,c] t)(hg:ψ (Gl X "zip") qQJ)(hs:ψ (starEach [a,c] X.env=[(false,eval a X.env),(false,eval c X.env)]) qQJ)(wK:ψ (starEach [c] X.env=[(false,eval c X.env)]) qQJ)(hK:ψ (X.K=K) qQJ): DI K X (.Tuple es kk tp) (.Call (.Name "zip" p) [a,c] [] pos) (Vn t):=by subst hK;exact⟨λy=>(QI (X:=y.cx) hg hm (ha.of y) hs wK).mono λτ H R ⟨σ,S,RI,Z,aA,hS,q,hR,hZ⟩=>{σ,S,_,Z,aA,hS,q,λds S1 vs H1 ⟨xs,ys,e,hl,r1⟩ v1 s1 k1=>by subst e;obtain⟨v,u,rfl,ra,rb⟩:=v1.two;obtain⟨a,va,rfl,qa,ta⟩:=ra.tup;obtain⟨b,vb,rfl,qb,tb⟩:=rb.tup;refine{a,b,rfl,{va,.of qa},{vb,.of qb},hR _ S1 _ H1 r1 (λi S2 H2 k2 s2 _=>?_) s1 k1};have V0:hW X.K H2 a va:=.of<|k2.t _ _ qa;have V1:hW X.K H2 b vb:=.of<|k2.t _ _ qb;have la:va.length=xs.length:=ta.len;let f:π->δ V:=λj=>if j=0 then va else vb;refine{λd hd=>?_,λh=>{f,QH V0 V1,by show va.length<=i;unfold gJ at h;rw[List.length_zipWith]at h;lia}};unfold gJ at hd;obtain⟨x,y',e1,e2,e3⟩:=List.getElem?_zipWith_eq_some.mp hd;subst e3;obtain⟨vx,f1,g1⟩:=(RvAll.ts k2 _ ta).get e1;obtain⟨vy,f2,g2⟩:=(RvAll.ts k2 _ tb).get e2;let g:π->V:=λj=>if j=0 then vx else vy;have ok:∀j,j<2->hW X.K H2 (two a b j) (f j)/\(f j)[i]?=some (g j):=QH ⟨V0,f1⟩ ⟨V1,f2⟩;refine{⟨f,g,ok⟩,λx' H' ⟨T,hT,e4,e5⟩=>?_};have:=e5 f g ok;subst this e4;have kk:Kp X.K H2 (upd H2 T<|.tup [vx,vy]):=.new hT;exact{mB aB<|RvAll.ts kk _<|aR g1<|aR g2 bA,kk,s2.grow hT},hZ}⟩
theorem aaw(hm:X.mg "zip"= none)(ha:DA K X [a,c,e] t)(hg:ψ (Gl X "zip") qQJ)(hs:ψ (starEach [a,c,e] X.env=[(false,eval a X.env),(false,eval c X.env),(false,eval e X.env)]) qQJ)(wK:ψ (starEach [c,e] X.env=[(false,eval c X.env),(false,eval e X.env)]) qQJ)(hK:ψ (X.K=K) qQJ): DI K X (.Tuple es kk tp) (.Call (.Name "zip" p) [a,c,e] [] pos) (Qu t):=by subst hK;exact⟨λy=>(QK (X:=y.cx) hg hm (ha.of y) hs wK).mono λτ H R ⟨σ,S,RI,Z,aA,hS,q,hR,hZ⟩=>{σ,S,_,Z,aA,hS,q,λds S1 vs H1 ⟨xs,ys,zs,e,hl,KJ,r1⟩ v1 s1 k1=>by subst e;obtain⟨v,u,w,rfl,ra,rb,rc⟩:=v1.thr;obtain⟨a,va,rfl,qa,ta⟩:=ra.tup;obtain⟨b,vb,rfl,qb,tb⟩:=rb.tup;obtain⟨c,vc,rfl,qc,tc⟩:=rc.tup;refine{a,b,c,rfl,{va,.of qa},{vb,.of qb},{vc,.of qc},hR _ S1 _ H1 r1 (λi S2 H2 k2 s2 _=>?_) s1 k1};have V0:hW X.K H2 a va:=.of<|k2.t _ _ qa;have V1:hW X.K H2 b vb:=.of<|k2.t _ _ qb;have qc2:hW X.K H2 c vc:=.of<|k2.t _ _ qc;have la:va.length=xs.length:=ta.len;let f:π->δ V:=λj=>if j=0 then va else if j=1 then vb else vc;refine{λd hd=>?_,λh=>{f,XI V0 V1 qc2,by show va.length<=i;rw[la,<-mJ hl KJ];exact h}};obtain⟨x,y',z,e1,e2,e3,e4⟩:=mK hd;subst e4;obtain⟨vx,f1,g1⟩:=(RvAll.ts k2 _ ta).get e1;obtain⟨vy,f2,g2⟩:=(RvAll.ts k2 _ tb).get e2;obtain⟨vz,f3,g3⟩:=(RvAll.ts k2 _ tc).get e3;let g:π->V:=λj=>if j=0 then vx else if j=1 then vy else vz;have ok:∀j,j<3->hW X.K H2 (QG a b c j) (f j)/\(f j)[i]?=some (g j):=XI ⟨V0,f1⟩ ⟨V1,f2⟩ ⟨qc2,f3⟩;refine{⟨f,g,ok⟩,λx' H' ⟨T,hT,e4,e5⟩=>?_};have:=e5 f g ok;subst this e4;have kk:Kp X.K H2 (upd H2 T<|.tup [vx,vy,vz]):=.new hT;exact{mB aB<|RvAll.ts kk _<|aR g1<|aR g2<|aR g3 bA,kk,s2.grow hT},hZ}⟩
end
end L2
namespace My
open PySem L2
def top(i:π):Stmt:=PySem.Challenge.pw_pageturns_k82_whole_told_once.main.body.getD i<|.Pass {0,0,0,0}
abbrev FE:Stmt:=top 19
abbrev IF:Stmt:=top 20
abbrev FF:Stmt:=top 21
abbrev oB:Stmt:=top 28
abbrev BV:Stmt:=top 30
abbrev u0:Stmt:=top 33
abbrev jS:Stmt:=top 41
abbrev BW:Stmt:=top 43
abbrev sx:Stmt:=top 51
abbrev xE:Stmt:=top 52
abbrev xG:Stmt:=top 56
abbrev qv:Stmt:=top 60
abbrev gm:Stmt:=top 62
abbrev gp:Stmt:=top 63
abbrev e8:Stmt:=top 64
abbrev BX:Stmt:=top 88
abbrev tR:Stmt:=top 90
abbrev qw:Stmt:=top 91
abbrev tT:Stmt:=top 93
abbrev IG:Stmt:=top 96
abbrev FG:Stmt:=top 97
abbrev qx:Stmt:=top 99
abbrev tU:Stmt:=top 101
abbrev iV:Stmt:=top 77
abbrev br:Stmt:=top 79
structure fA where
 (mL kj NJ lg qy u3 iW iX tV aE aq fM aK eK aG:ε)
 (gq e_ IH fN iY:FuncData)
 (lh mM lj qz jG xH jH lq xI L9 V2:Tok)
 ts:δ ε
 (f II BY:π->ε)
 (d Iz QL:π->FuncData)
structure Txt(w:Ω)(K:Φ)(mg:ρ->θ ξ)(t:fA):η where
 fn:Ft K mg top t.f t.d [16,17,18,19,20,21,22,23,24,25,28,29,30,31,32,33,34,39,40,41,42,43,44,45,51,52,53,54,55,56,57,59,60,61,63,67,68,69,70,71,72,73,80,82,83,84,85,86,87,88,89,90,91,92,93,94,95,96,97,98,99,100]
 mN:BP K t.aE "Walk." iV t.II t.Iz [0,1,4,10,11,12,13,14]
 dS:BP K t.aq "Shelf." br t.BY t.QL [0,1,2,3,4,5,6,7,8,13]
 fb:ND K mg "sorted_by_keys" (top 62) ["rows","way"] t.mL t.gq
 dM:ND K mg "sorted_by_values" (top 64) ["columns","part","rows"] t.kj t.e_
 law:ND K mg "law" (top 101) ["_law_script"] t.NJ t.IH
 cT:NF K t.aq "worths_at" "Shelf.worths_at" (inClass br 9) ["self","key","moment"] t.lg t.fN
 eL:Binds K t.fN ["self","key","moment"] [.none]
 gM:NF K t.aq "all_at" "Shelf.all_at" (inClass br 10) ["self","moment"] t.qy t.iY
 FH:Binds K t.iY ["self","moment"] [.none]
 kl:mg "MOST_NAME_SIGNS"= some (.int 8 t.lh)
 lA:mg "MOST_KEY_SIGNS"= some (.int 12 t.mM)
 km:mg "MOST_WORD_SIGNS"= some (.int 40 t.lj)
 oE:mg "MOST_COLUMNS"= some (.int 8 t.qz)
 iZ:mg "MOST_PARTS_orders"= some (.int 8 t.jG)
 u4:mg "MOST_DEEP"= some (.int 8 t.xH)
 i4:mg "MOST_PARTS_sieves"= some (.int 200 t.jH)
 ko:mg "MOST_IN_A_TUPLE"= some (.int 8 t.lq)
 u5:mg "MOST_ROWS"= some (.int 1000 t.xI)
 qA:mg "START"= some (.str "start" t.L9)
 QM:mg "END"= some (.str "end" t.V2)
 IJ:mg "KINDS"= some (.ref t.u3)
 IK:∀H,Rv K H (.kt [.str "number",.str "word"])<|.ref t.u3
 u6:mg "OTHER_WAY"= some (.ref t.iW)
 xJ:Le w K t.iW [("up",.str "down"),("down",.str "up")]
 u7:mg "OTHER_END"= some (.ref t.iX)
 xK:Le w K t.iX [("first",.str "last"),("last",.str "first")]
 BZ:mg "LENGTHS"= some (.ref t.tV)
 FI:Le w K t.tV [("every",.int 1),("is",.int 3),("below",.int 3),("above",.int 3),("begins",.int 3),("key",.int 2),("not",.int 2),("and",.int 2),("or",.int 2)]
 aT:mg "len"= none
 jT:mg "all"= none
 NK:mg "any"= none
 aD:mg "isinstance"= none
 fO:mg "range"= none
 D0:mg "int"= none
 qB:mg "str"= none
 QN:mg "bool"= none
 bP:mg "tuple"= none
 QO:mg "list"= none
 B4:mg "dict"= none
 IL:mg "set"= none
 NL:mg "zip"= none
 gs:mg "sorted"= none
 NM:mg "min"= none
 aco:mg "max"= none
 qC:mg "reversed"= none
 L_:mg "Walk"= some (.ref t.aE)
 aY:oV K t.aE
 Ma:Mk K t.aE (t.II 0)
 dU:findIn K (.ref t.aE) "shelf"= some none
 dW:findIn K (.ref t.aE) "order"= some none
 jU:findIn K (.ref t.aE) "sieve"= some none
 lB:findIn K (.ref t.aE) "size"= some none
 lC:findIn K (.ref t.aE) "fore"= some none
 fc:findIn K (.ref t.aE) "hinder"= some none
 IM:mg "Shelf"= some (.ref t.aq)
 ao:oV K t.aq
 IP:Mk K t.aq (t.BY 0)
 cJ:findIn K (.ref t.aq) "columns"= some none
 cD:findIn K (.ref t.aq) "deeds"= some none
 bM:findIn K (.ref t.aq) "runs"= some none
 fP:t.gq.code=.ref t.fM
 du:codeHdIn K t.fM t.aK=true
 lE:t.aK∈t.ts
 eM:t.e_.code=.ref t.eK
 cO:codeHdIn K t.eK t.aG=true
 jI:t.aG∈t.ts
 np:[t.aK,t.aG].Nodup
 ta:∀b∈t.ts,b=t.aK\/b=t.aG
 bl:∀(s:ζ)(u:ξ),BindsTo s t.IH {[u],[]} [("_law_script",u)]
section
variable{w:Ω}{K:Φ}{mg:ρ->θ ξ}{t:fA}(T:Txt w K mg t)
def Txt.i5:=T.fn 16<|by decide
def Txt.gu:=T.fn 17<|by decide
def Txt.mO:=T.fn 18<|by decide
def Txt.pq:=T.fn 19<|by decide
def Txt.mP:=T.fn 20<|by decide
def Txt.u9:=T.fn 21<|by decide
def Txt.u_:=T.fn 22<|by decide
def Txt.lF:=T.fn 23<|by decide
def Txt.compared:=T.fn 24<|by decide
def Txt.cZ:=T.fn 25<|by decide
def Txt.fY:=T.fn 28<|by decide
def Txt.mQ:=T.fn 29<|by decide
def Txt.lG:=T.fn 30<|by decide
def Txt.fe:=T.fn 31<|by decide
def Txt.ju:=T.fn 32<|by decide
def Txt.kr:=T.fn 33<|by decide
def Txt.cu:=T.fn 34<|by decide
def Txt.vd:=T.fn 39<|by decide
def Txt.B5:=T.fn 40<|by decide
def Txt.i6:=T.fn 41<|by decide
def Txt.ve:=T.fn 42<|by decide
def Txt.i7:=T.fn 43<|by decide
def Txt.d_:=T.fn 44<|by decide
def Txt.qD:=T.fn 45<|by decide
def Txt.i8:=T.fn 51<|by decide
def Txt.mR:=T.fn 52<|by decide
def Txt.dw:=T.fn 53<|by decide
def Txt.i9:=T.fn 54<|by decide
def Txt.fZ:=T.fn 55<|by decide
def Txt.passes:=T.fn 56<|by decide
def Txt.gN:=T.fn 57<|by decide
def Txt.fg:=T.fn 59<|by decide
def Txt.gO:=T.fn 60<|by decide
def Txt.qE:=T.fn 61<|by decide
def Txt.fh:=T.fn 63<|by decide
def Txt.mS:=T.fn 67<|by decide
def Txt.gQ:=T.fn 69<|by decide
def Txt.ku:=T.fn 70<|by decide
def Txt.i_:=T.fn 71<|by decide
def Txt.vf:=T.fn 72<|by decide
def Txt.ja:=T.fn 73<|by decide
def Txt.fQ:=T.fn 80<|by decide
def Txt.dN:=T.fn 82<|by decide
def Txt.jv:=T.fn 83<|by decide
def Txt.pz:=T.fn 84<|by decide
def Txt.mT:=T.fn 85<|by decide
def Txt.pA:=T.fn 86<|by decide
def Txt.D1:=T.fn 87<|by decide
def Txt.qF:=T.fn 88<|by decide
def Txt.vg:=T.fn 89<|by decide
def Txt.gR:=T.fn 90<|by decide
def Txt.fj:=T.fn 91<|by decide
def Txt.B6:=T.fn 92<|by decide
def Txt.pB:=T.fn 93<|by decide
def Txt.vh:=T.fn 94<|by decide
def Txt.mU:=T.fn 95<|by decide
def Txt.qG:=T.fn 96<|by decide
def Txt.vi:=T.fn 97<|by decide
def Txt.B7:=T.fn 98<|by decide
def Txt.gT:=T.fn 99<|by decide
def Txt.vj:=T.fn 100<|by decide
def Txt.f9:=T.mN 0<|by decide
def Txt.vk:=T.mN 1<|by decide
def Txt.gU:=T.mN 10<|by decide
def Txt.eC:=T.mN 12<|by decide
def Txt.eE:=T.mN 13<|by decide
def Txt.dy:=T.mN 14<|by decide
def Txt.fk:=T.dS 0<|by decide
def Txt.eS:=T.dS 1<|by decide
def Txt.cK:=T.dS 2<|by decide
def Txt.dO:=T.dS 3<|by decide
def Txt.b_:=T.dS 4<|by decide
def Txt.bI:=T.dS 5<|by decide
def Txt.cg:=T.dS 6<|by decide
def Txt.aN:=T.dS 7<|by decide
def Txt.eT:=T.dS 8<|by decide
def Txt.cj:=T.dS 13<|by decide
end
def xM:=bV<|top 16
def vm:=bV<|top 17
def vn:=bV<|top 18
def B8:=bV<|top 19
def FJ:=bV<|top 20
def B9:=bV<|top 21
def B_:=bV<|top 22
def xN:=bV<|top 23
def nN:=bV<|top 24
def dF:=bV<|top 25
def mV:=bV<|top 28
def vo:=bV<|top 29
def xO:=bV<|top 30
def sy:=bV<|top 31
def vp:=bV<|top 32
def sA:=bV<|top 33
def xP:=bV<|top 34
def FK:=bV<|top 39
def FL:=bV<|top 40
def fm:=bV<|top 41
def Ca:=bV<|top 42
def nO:=bV<|top 43
def bB:=bV<|top 44
def nQ:=bV<|top 45
def bC:=bV<|top 51
def vq:=bV<|top 52
def lH:=bV<|top 53
def jb:=bV<|top 54
def dP:=bV<|top 55
def tW:=bV<|top 56
def oF:=bV<|top 57
def lI:=bV<|top 59
def ig:=bV<|top 60
def fR:=bV<|top 61
def lJ:=bV<|top 62
def cA:=bV<|top 63
def jJ:=bV<|top 64
def vt:=bV<|top 67
def oG:=bV<|top 69
def sC:=bV<|top 70
def bT:=bV<|top 71
def qH:=bV<|top 72
def jc:=bV<|top 73
def jd:=bV<|top 80
def vA:=bV<|top 82
def cE:=bV<|top 83
def Cb:=bV<|top 84
def cL:=bV<|top 85
def qI:=bV<|top 86
def xQ:=bV<|top 87
def xR:=bV<|top 88
def dQ:=bV<|top 89
def cF:=bV<|top 90
def dY:=bV<|top 91
def eU:=bV<|top 92
def qJ:=bV<|top 93
def gv:=bV<|top 94
def FN:=bV<|top 95
def FO:=bV<|top 96
def cG:=bV<|top 97
def FP:=bV<|top 98
def aW:=bV<|top 99
def gW:=bV<|top 100
def bc:=bV<|top 101
def mW:=bV<|inClass iV 0
def Cc:=bV<|inClass iV 1
def eF:=bV<|inClass iV 10
def kx:=bV<|inClass iV 12
def kz:=bV<|inClass iV 13
def dZ:=bV<|inClass iV 14
def lK:=bV<|inClass br 0
def vB:=bV<|inClass br 1
def oH:=bV<|inClass br 2
def sD:=bV<|inClass br 3
def iA:=bV<|inClass br 4
def gx:=bV<|inClass br 5
def dG:=bV<|inClass br 6
def je:=bV<|inClass br 7
def vE:=bV<|inClass br 8
def fq:=bV<|inClass br 9
def eG:=bV<|inClass br 10
def iB:=bV<|inClass br 13
theorem sm(h:n<=1000):n<=sizeLine:=yO<|jq h
theorem kB:0<=sizeLine:=sm<|by decide
theorem IQ:1<=sizeLine:=sm<|by decide
theorem cz:2<=sizeLine:=sm<|by decide
theorem qL:3<=sizeLine:=sm<|by decide
theorem sE:4<=sizeLine:=sm<|by decide
theorem aay:6<=sizeLine:=sm<|by decide
theorem FQ:8<=sizeLine:=sm<|by decide
theorem V3:12<=sizeLine:=sm<|by decide
def Gt(S:ak)(d:D):Prop:=(∃k,UW S d k)/\∀z,d=.str z->z.cps.size<=1000
noncomputable def isLet(c:π):Bool:=ω (97<=c)&&ω (c<=122)
noncomputable def D2(c:π):Bool:=ω (48<=c)&&ω (c<=57)
noncomputable def D5(c:π):Bool:=ω (32<=c)&&ω (c<=126)
noncomputable def lL(z:ρ):Bool:=ω (1<=z.cps.size)&&ω (z.cps.size<=8)&&z.cps.toList.all isLet
noncomputable def kC(z:ρ):Bool:=ω (1<=z.cps.size)&&ω (z.cps.size<=12)&&(z.cps.toList.head?.any isLet)&&z.cps.toList.all λc=>isLet c||D2 c
noncomputable def nR(z:ρ):Bool:=ω (z.cps.size<=40)&&z.cps.toList.all D5
noncomputable def ofStr(f:ρ->χ):D->χ|.str z=>f z|_=>false
noncomputable def qM:D->χ|.int _=>true|_=>false
noncomputable def gX(kind:ρ)(d:D):Bool:=ag d||if kind ="number" then qM d else ofStr nR d
def Mb(f:D->χ):qh:=λds S R _=>∃d,ds=[d]/\Gt S d/\R (.bl<|f d) S
def IS(f:π->χ):qh:=λds S R _=>∃c,ds=[.str ⟨#[c]⟩]/\R (.bl<|f c) S
theorem nS:∀{xs ys:δ D}{a b:D},Paired rel xs ys->rel a b->Paired rel (xs++[a]) (ys++[b])|_,_,_,_,.nil,r=>.cons r .nil|_,_,_,_,.cons q t,r=>.cons q<|nS t r
theorem take_snoc{α:Type}{l:δ α}{i:π}{d:α}(h:l[i]?=some d):l.take (i+1)=l.take i++[d]:=by rw[List.take_add_one,h];rfl
theorem lM{I:ke}{S1:ak}{g:xb}{te:TD}{σ:SD}{src:δ<|θ π}{R:KD}(rel:D->D->η)(aI:I.ok S1)(hz:I.xs.length<=1000) (step:∀d,d∈I.xs->∀Q:KD,(∀v,rel d v->Q v S1)->g d (k7 σ src) S1 λfC S3=>te fC S3 Q Zf) (fin:∀out,Paired rel I.xs out->∀p,S1 p=none->R (.ref p) (S1.set p<|.lst out)): xc σ src g k8 te R I S1:=by
 refine{λi out S=>S=S1/\Paired rel (I.xs.take i) out,{rfl,.nil},λi out S h=>by rw[h.1];exact aI,?_,?_};rintro i d out S hd ⟨rfl,hp⟩;have hlen:=y0 hp;rw[yn]at hlen;refine{jq<|by lia,?_};have e:(λ(fC:SD)(S3:ak)=>k8 fC S3 (λb S4=>if b=true then te fC S4 (λv S5=>S5=S/\Paired rel (I.xs.take<|i+1) (out++[v])) Zf else S4=S/\Paired rel (I.xs.take<|i+1) out) Zf)=λfC S3=>te fC S3 (λv S5=>S5=S/\Paired rel (I.xs.take<|i+1) (out++[v])) Zf:=by funext fC S3;simp[k8]
 rw[e];exact step d (zH hd) _ λv hv=>{rfl,by rw[take_snoc hd];exact nS hp hv};rintro out S2 ⟨rfl,hp⟩;rw[List.take_length]at hp;exact fin out hp
theorem qN:∀{xs out:δ D},Paired (λd v=>v=f d) xs out->out=xs.map f|_,_,.nil=>rfl|_,_,.cons r t=>by rw[r,qN t];rfl
theorem comp_map(f:D->D)(aI:I.ok S1)(hz:I.xs.length<=1000) (step:∀d,d∈I.xs->∀Q:KD,Q (f d) S1->g d (k7 σ src) S1 λfC S3=>te fC S3 Q Zf) (fin:∀p,S1 p=none->R (.ref p) (S1.set p<|.lst<|I.xs.map f)): xc σ src g k8 te R I S1:=lM (λd v=>v=f d) aI hz (λd hd Q h=>step d hd Q<|h _ rfl) λout hp p LV=>by rw[qN hp];exact fin p LV
theorem df{I:ke}{S1:ak}{g:xb}{tc:jE}{te:TD}{σ:SD}{src:δ<|θ π}{R:KD}(keep:D->χ)(f:D->D)(aI:I.ok S1)(hz:I.xs.length<=1000) (step:∀d,d∈I.xs->∀(Q:KD)(Q':ak->η),(keep d=true->Q (f d) S1)->(keep d=false->Q' S1)->g d (k7 σ src) S1 λfC S3=>tc fC S3 (λb S4=>if b=true then te fC S4 Q Zf else Q' S4) Zf) (fin:∀p,S1 p=none->R (.ref p) (S1.set p<|.lst<|(I.xs.filter keep).map f)): xc σ src g tc te R I S1:=by refine{λi out S=>S=S1/\out=((I.xs.take i).filter keep).map f,⟨rfl,rfl⟩,λi out S h=>by rw[h.1];exact aI,?_,?_};rintro i d out S hd ⟨rfl,rfl⟩;have hlen:((I.xs.take i).filter keep).length<=(I.xs.take i).length:=yt _ _;rw[yn]at hlen;refine{by rw[za];exact jq<|by lia,?_};refine step d (zH hd) _ (λS4=>S4=S/\_=_) (λhk=>{rfl,?_}) λhk=>{rfl,?_};rw[take_snoc hd,List.filter_append,zL,List.filter_cons,xL hk];rfl;rw[take_snoc hd,List.filter_append,List.filter_cons,xz<|by rw[hk];exact zd];simp;rintro out S2 ⟨rfl,rfl⟩;rw[List.take_length];exact fin
variable{P:Ψ}{w:Ω}{K:Φ}{mg:ρ->θ ξ}{base:Γ}{t:fA}
theorem jf(T:Txt w K mg t):Ok P w base T.i5 1 (Mb qM):=by
 refine T.i5.F.ck xM ?_;obtain⟨d,e,⟨⟨k,hk⟩,hz⟩,q⟩;refine{_,(s1<|sr<|p_ (cb dE T.aD ay<|ap 0<|ac (wz T.D0 uF) an)<|Hz<|P1<|cb dE T.aD ay<|ap 0<|ac (wz T.QN K0) an),?_};refine !{_,_,_,_,rfl,K2,hk,_,rfl,?_};have:(Bl k=true/\((qM d=true/\uH k=false)\/(qM d=false/\uH k=true)))\/(Bl k=false/\qM d=false):=by cases d with|au=>(cases hk;exact .inr ⟨rfl,rfl⟩)|bl b=>(cases hk;exact .inl {rfl,.inr ⟨rfl,rfl⟩})|int b=>(cases hk;exact .inl {rfl,.inl ⟨rfl,rfl⟩})|str b=>(cases hk;exact .inr ⟨rfl,rfl⟩)|tup b=>(cases hk;exact .inr ⟨rfl,rfl⟩)|ref a=>(rcases hk with⟨rfl,_⟩|⟨rfl,_⟩<;>exact .inr ⟨rfl,rfl⟩)|_=>exact hk.elim
 rcases this with⟨h1,h2⟩|⟨h1,h2⟩;rw[h1];refine dX !{_,_,_,_,rfl,Ho,hk,_,rfl,?_};rcases h2 with⟨h2,h3⟩|⟨h2,h3⟩<;>(rw[h3];rw[h2]at q;exact fo q);rw[h1];rw[h2]at q;exact bt<|fo q
theorem gY(T:Txt w K mg t):Ok P w base T.gu 1 (IS isLet):=by refine T.gu.F.ck vm ?_;obtain⟨c,e,q⟩;refine{_,(s1<|sr<|cc iP iP hr.u ds (dv 0) ds),?_};refine !!⟨?_⟩;have e1:Gw "a" ⟨#[c]⟩=ω (97<=c):=jr 97 c;have e2:Gw ⟨#[c]⟩ "z"= ω (c<=122):=jr c 122;unfold isLet at q;refine bQ (λh=>?_) λh=>?_;rw[e1.symm.trans h,yi,<-e2]at q;exact fo q;rw[e1.symm.trans h,zX]at q;exact fo q
theorem vF(T:Txt w K mg t):Ok P w base T.mO 1 (IS D2):=by refine T.mO.F.ck vn ?_;obtain⟨c,e,q⟩;refine{_,(s1<|sr<|cc iP iP hr.u ds (dv 0) ds),?_};refine !!⟨?_⟩;have e1:Gw "0" ⟨#[c]⟩=ω (48<=c):=jr 48 c;have e2:Gw ⟨#[c]⟩ "9"= ω (c<=57):=jr c 57;unfold D2 at q;refine bQ (λh=>?_) λh=>?_;rw[e1.symm.trans h,yi,<-e2]at q;exact fo q;rw[e1.symm.trans h,zX]at q;exact fo q
theorem FR(h:d∈eW z):∃c,c∈z.cps.toList/\d=.str ⟨#[c]⟩:=by unfold eW at h;obtain⟨c,hc,e⟩:=zg.mp h;exact⟨c,hc,e.symm⟩
noncomputable def D6(f:π->χ):D->D|.str z=>.bl (z.cps.toList.head?.any f)|_=>.au
theorem FT:(eW z).map (D6 f)=(z.cps.toList.map f).map D.bl:=by unfold eW;rw[zq,zq];rfl
theorem all_map{α:Type}{l:δ α}{f:α->χ} : (l.map f).all id=l.all f:=by rw[List.all_map];rfl
theorem mX{z:ρ}{f:π->χ}{g:xb}{te:TD}{σ:SD}{src:δ<|θ π}{S:ak}{R:KD}{Z:KX}{i:π}(hv:σ[i]?=some (some<|.str z))(hz:z.cps.size<=1000) (step:∀c,c∈z.cps.toList->∀Q:KD,Q (.bl<|f c) S->g (.str ⟨#[c]⟩) (k7 σ src) S λfC S3=>te fC S3 Q Zf) (q:R (.bl<|z.cps.toList.all f) S): Xd U0 (Nf (tJ (Nt<|UH i) src g k8 te) Lo) σ S (λd S'=>Fo S'<|R d) Z:=by refine{_,hv,z,rfl,?_};refine My.comp_map (I:={eW z,λ_=>True}) (D6 f) trivial (by show(eW z).length<=1000;unfold eW;rw[za,zT];exact hz) (λd hd Q hQ=>?_) λp hp=>?_;obtain⟨c,hc,rfl⟩:=FR hd;exact step c hc Q (by simpa [D6]using hQ);refine{.ref p,z.cps.toList.map f,rfl,?_,S,.new hp,?_};show(S.set p<|.lst<|(eW z).map<|D6 f) p=_;rw[aa,FT];rw[all_map];exact q
theorem Cd{S:ak}{d:D}{k:Kd}(hk:UW S d k):(∃z,d=.str z/\Bn k=true)\/(Bn k=false/\∀f,ofStr f d=false):=by cases d with|str b=>(cases hk;exact .inl ⟨b,rfl,rfl⟩)|au=>(cases hk;exact .inr {rfl,λ_=>rfl})|bl b=>(cases hk;exact .inr {rfl,λ_=>rfl})|int b=>(cases hk;exact .inr {rfl,λ_=>rfl})|tup b=>(cases hk;exact .inr {rfl,λ_=>rfl})|ref a=>(rcases hk with⟨rfl,_⟩|⟨rfl,_⟩<;>exact .inr {rfl,λ_=>rfl})|_=>exact hk.elim
theorem QP{S:ak}{d:D}{k:Kd}(hk:UW S d k):(∃ds,d=.tup ds/\pZ k=true)\/(pZ k=false/\∀ds,d≠.tup ds):=by cases d with|tup b=>(cases hk;exact .inl ⟨b,rfl,rfl⟩)|au=>(cases hk;exact .inr {rfl,λ_=>nofun})|bl b=>(cases hk;exact .inr {rfl,λ_=>nofun})|int b=>(cases hk;exact .inr {rfl,λ_=>nofun})|str b=>(cases hk;exact .inr {rfl,λ_=>nofun})|ref a=>(rcases hk with⟨rfl,_⟩|⟨rfl,_⟩<;>exact .inr {rfl,λ_=>nofun})|_=>exact hk.elim
theorem qO(T:Txt w K mg t):Ok P w base T.pq 2 (Mb<|ofStr lL):=by
 refine T.pq.F.ck B8 ?_;obtain⟨d,e,⟨⟨k,hk⟩,hz⟩,q⟩;refine{_,(sc (si (twd<|twor (cY<|tv<|cb dE T.aD ay<|ap 0<|ac (wz T.qB j_) an)<|tw1<|cY<|Xc iP iP hr.u di (cb aZ T.aT aH<|ap 0 an)<|dg (v:=.int 8) T.kl {_,rfl} λ_=>aM _) (s1<|sr db) s0)<|s1<|sr<|cb jP T.jT fX<|ac (su (N:=["sign"]) (src:=[none]) (js FE) (Qd<|dv 0) nK<|bp T.gu (gY T) hr<|ap 0 an) an),?_};refine !{_,_,_,_,rfl,cS,hk,_,rfl,?_};rcases Cd hk with⟨z,rfl,h0⟩|⟨h0,h1⟩;have hz:=hz z rfl;rw[h0];refine bt ?_;refine !!⟨{sm hz,?_}⟩;refine{_,rfl,?_};have e1:ω ((1:ν)<=(z.length:π))=ω (1<=z.cps.size):=by rw[decide_eq_decide];show(1:ν)<=((z.cps.size:π):ν)↔_;omega
 have e2:ω (((z.length:π):ν)<=8)=ω (z.cps.size<=8):=by rw[decide_eq_decide];show((z.cps.size:π):ν)<=8↔_;omega
 unfold ofStr lL at q;dsimp only at q;refine bQ (λh2=>?_) λh2=>?_;rw[e1.symm.trans h2,yi]at q;refine{_,rfl,?_};refine bQ (λh3=>?_) λh3=>?_;rw[e2.symm.trans<|nt h3,zX]at q;exact fo q;rw[e2.symm.trans<|nf h3,yi]at q;exact mX rfl hz (λc hc Q hQ=>!⟨c,rfl,hQ⟩) q;rw[e1.symm.trans h2,zX,zX]at q;refine{_,rfl,?_};exact dX<|fo q;rw[h0];rw[h1]at q;exact dX<|dX<|fo q
def az(c:ρ×ρ):D:=.tup [.str c.1,.str c.2]
def Gd(cs:δ<|ρ×ρ):Prop:=cs.length<=8/\(cs.map Prod.fst).Nodup/\∀c∈cs,lL c.1=true/\(c.2 ="number"\/c.2 ="word")
noncomputable def lN(cs:δ<|ρ×ρ):D->χ|.tup ws=>ω (ws.length=cs.length)&&(List.zipWith (λc v=>gX c.2 v) cs ws).all id|_=>false
noncomputable def mY(cs:δ<|ρ×ρ)(k v:D):Bool:=ofStr kC k&&lN cs v
def SJ(S:ak)(d:D):Prop:=Gt S d/\∀ws,d=.tup ws->ws.length<=1000/\∀v∈ws,Gt S v
theorem jw(T:Txt w K mg t):Ok P w base T.mP 2 (Mb<|ofStr kC):=by
 refine T.mP.F.ck FJ ?_;obtain⟨d,e,⟨⟨k,hk⟩,hz⟩,q⟩;refine{_,(sc (si (twd<|twor (cY<|tv<|cb dE T.aD ay<|ap 0<|ac (wz T.qB j_) an)<|tw1<|cY<|Xc iP iP hr.u di (cb aZ T.aT aH<|ap 0 an)<|dg (v:=.int 12) T.lA {_,rfl} λ_=>aM _) (s1<|sr db) s0)<|sc (si (cY<|tv<|bp T.gu (gY T) hr<|ac (ix hr.u (dv 0) di) an) (s1<|sr db) s0)<|s1<|sr<|cb jP T.jT fX<|ac (su (N:=["sign"]) (src:=[none]) (js IF) (Qd<|dv 0) nK<|eor (bp T.gu (gY T) hr<|ap 0 an)<|Hz<|bp T.mO (vF T) hr<|ap 0 an) an),?_};refine !{_,_,_,_,rfl,cS,hk,_,rfl,?_};rcases Cd hk with⟨z,rfl,h0⟩|⟨h0,h1⟩;have hz:=hz z rfl;rw[h0];refine bt ?_;refine !!⟨{sm hz,?_}⟩;refine{_,rfl,?_};have e1:ω ((1:ν)<=(z.length:π))=ω (1<=z.cps.size):=by rw[decide_eq_decide];show(1:ν)<=((z.cps.size:π):ν)↔_;omega
 have e2:ω (((z.length:π):ν)<=12)=ω (z.cps.size<=12):=by rw[decide_eq_decide];show((z.cps.size:π):ν)<=12↔_;omega
 unfold ofStr kC at q;dsimp only at q;refine bQ (λh2=>?_) λh2=>?_;have h2':=e1.symm.trans h2;rw[h2',yi]at q;refine{_,rfl,?_};refine bQ (λh3=>?_) λh3=>?_;rw[e2.symm.trans<|nt h3,zX,zX]at q;exact fo q;rw[e2.symm.trans<|nf h3,yi]at q;obtain⟨c,r,ec⟩:=len_pos (z:=z)<|zE h2';have eh:z.cps.toList.head?.any isLet=isLet c:=by rw[ec];rfl
 rw[eh]at q;refine !{c,sm hz,at0 ec,c,rfl,_,rfl,?_};refine bQ (λh4=>?_) λh4=>?_;rw[nt h4,zX]at q;exact fo q;rw[nf h4,yi]at q;refine mX (f:=λc=>isLet c||D2 c) rfl hz (λc hc Q hQ=>?_) q;refine !{c,rfl,_,rfl,?_};refine bQ (λh5=>?_) λh5=>?_;rw[h5,Bool.true_or]at hQ;exact hQ;rw[h5,y1]at hQ;exact{_,rfl,c,rfl,hQ};rw[e1.symm.trans h2,zX,zX,zX]at q;refine{_,rfl,?_};exact dX<|fo q;rw[h0];rw[h1]at q;exact dX<|dX<|fo q
theorem Cf(T:Txt w K mg t):Ok P w base T.u9 2 (Mb<|ofStr nR):=by
 refine T.u9.F.ck B9 ?_;obtain⟨d,e,⟨⟨k,hk⟩,hz⟩,q⟩;refine{_,(sc (si (twd<|twor (cY<|tv<|cb dE T.aD ay<|ap 0<|ac (wz T.qB j_) an)<|tw1<|aX mD hr.u (cb aZ T.aT aH<|ap 0 an)<|dg (v:=.int 40) T.km {_,rfl} λ_=>aM _) (s1<|sr db) s0)<|s1<|sr<|cb jP T.jT fX<|ac (su (N:=["sign"]) (src:=[none]) (js FF) (Qd<|dv 0) nK<|cc iP iP hr.u ds (dv 0) ds) an),?_};refine !{_,_,_,_,rfl,cS,hk,_,rfl,?_};rcases Cd hk with⟨z,rfl,h0⟩|⟨h0,h1⟩;have hz:=hz z rfl;rw[h0];refine bt ?_;refine !!⟨{sm hz,?_}⟩;refine{_,rfl,?_};have e2:ω ((40:ν)<((z.length:π):ν))=!decide (z.cps.size<=40):=by rw[yq];simp only[decide_eq_true_iff,Bool.not_eq_true',yw];show(40:ν)<((z.cps.size:π):ν)↔_;omega
 unfold ofStr nR at q;dsimp only at q;refine bQ (λh3=>?_) λh3=>?_;rw[nt<|e2.symm.trans h3,zX]at q;exact fo q;rw[nf<|e2.symm.trans h3,yi]at q;refine mX (f:=D5) rfl hz (λc hc Q hQ=>?_) q;refine !!⟨?_⟩;have e3:Gw " " ⟨#[c]⟩=ω (32<=c):=jr 32 c;have e4:Gw ⟨#[c]⟩ "~"= ω (c<=126):=jr c 126;unfold D5 at hQ;refine bQ (λh=>?_) λh=>?_;rw[e3.symm.trans h,yi,<-e4]at hQ;exact hQ;rw[e3.symm.trans h,zX]at hQ;exact hQ;rw[h0];rw[h1]at q;exact dX<|dX<|fo q
inductive qP (ds:δ D) (S:ak) (R:KD) (Z:KX):η where
 |mk (kind d) (h0:ds=[.str kind,d]) (h1:Gt S d) (h2:R (.bl<|gX kind d) S)
theorem nU(T:Txt w K mg t):Ok P w base T.lF 3 qP:=by refine T.lF.F.ck xN ?_;obtain⟨kind,d,e,hd,q⟩;refine{_,(sc (si (aX gH hr.u (dv 1) dn) (s1<|sr db) s0)<|sc (si (aX aQ hr.u (dv 0) ds) (s1<|sr<|bp T.i5 (jf T) hr<|ap 1 an) s0)<|s1<|sr<|bp T.u9 (Cf T) hr<|ap 1 an),?_};refine !!⟨?_⟩;unfold gX at q;refine bQ (λh=>?_) λh=>?_;rw[h,Bool.true_or]at q;exact fo q;rw[h,y1]at q;refine !!⟨?_⟩;refine bQ (λh=>?_) λh=>?_;rw[xL<|zE h]at q;exact !{d,rfl,hd,fo q};rw[xz<|ye h]at q;exact !{d,rfl,hd,fo q}
theorem gt_str(h:z.cps.size<=1000):Gt S (.str z):={{.str,rfl},λy e=>by cases e;exact h}
theorem mZ(h:lL z=true):z.cps.size<=1000:=by unfold lL at h;simp only[zJ,zK]at h;lia
theorem FU(h:∀c v,f (.tup [az c,v])=.bl (gX c.2 v)):(gJ (cs.map az) ws).map f=(List.zipWith (λc v=>gX c.2 v) cs ws).map D.bl:=by unfold gJ;induction cs generalizing ws with|nil=>(cases ws<;>rfl)|cons c cs ih=>cases ws with|nil=>rfl|cons v ws=>show f (.tup [az c,v])::(List.zipWith _ (cs.map az) ws).map f=.bl (gX c.2 v)::_;rw[h,ih]
noncomputable def pairF:D->D|.tup [.tup [_,.str k],v]=>.bl (gX k v)|_=>.au
inductive tX (ds:δ D) (S:ak) (R:KD) (Z:KX):η where
 |mk (z) (h0:ds=[.str z]) (h1:(z ="number"\/z ="word")) (h2:R (.bl true) S)
theorem Ci(T:Txt w K mg t):Ok P w base T.u_ 1 tX:=by
 refine T.u_.F.ck B_ ?_;obtain⟨z,e,hz,q⟩;refine{_,(s1<|sr<|p_ (cb dE T.aD ay<|ap 0<|ac (wz T.qB j_) an)<|Hz<|cm r9 hr.u (dv 0)<|dg (v:=.ref t.u3) T.IJ rfl T.IK),?_};refine !{_,_,_,_,rfl,cS,rfl,_,rfl,dX !{rfl,rfl,?_}};have e:Bb (jF<|.str z) ([D.str "number",D.str "word"].map jF)=true:=by rcases hz with rfl|rfl<;>decide +kernel
 show Fo S (R<|.bl<|if false=true then _ else Bb (jF<|.str z) ([D.str "number",D.str "word"].map jF));rw[xz zd,e];exact fo q
inductive nV (ds:δ D) (S:ak) (R:KD) (Z:KX):η where
 |mk (c) (h0:ds=[az c]) (h1:lL c.1=true) (h2:(c.2 ="number"\/c.2 ="word")) (h3:R (.bl true) S)
theorem vG(T:Txt w K mg t):Ok P w base T.mQ 3 nV:=by refine T.mQ.F.ck vo ?_;obtain⟨c,e,h1,h2,q⟩;refine{_,(sc (si (twd<|twor (cY<|tv<|cb dE T.aD ay<|ap 0<|ac (wz T.bP bu) an)<|tw1<|aX iQ hr.u (cb aZ T.aT aH<|ap 0 an) di) (s1<|sr db) s0)<|s1<|sr<|p_ (bp T.pq (qO T) hr<|ac (ix hr.u (dv 0) di) an)<|Hz<|bp T.u_ (Ci T) hr<|ac (ix hr.u (dv 0) di) an),?_};refine !{_,_,_,_,rfl,bq,rfl,_,rfl,?_};refine bt !!!⟨bt ?_⟩;refine !!!{gt_str<|mZ h1,_,rfl,?_};show if lL c.1=true then _ else _;rw[h1];exact dX !!!{h2,fo q}
inductive qQ (ds:δ D) (S:ak) (R:KD) (Z:KX):η where
 |mk (cs:δ<|ρ×ρ) (h0:ds=[.tup<|cs.map az]) (h1:cs.length<=8) (h2:∀p,S p=none->R (.ref p) (S.set p<|.lst<|(cs.map Prod.fst).map D.str))
theorem nW(T:Txt w K mg t):Ok P w base T.lG 1 qQ:=by
 refine T.lG.F.ck xO ?_;obtain⟨cs,e,hl,q⟩;refine{_,(s1<|sr<|Vi (N:=["name","kind"]) (src:=[none,none]) (js BV) (GB<|dv 0) (Xj<|show(["name","kind"]:δ ρ).Nodup by trivial) (oX rfl rfl) pd (λ_ _ _ _ _=>nK) λ_ _ _ _ _=>(dv 0)),?_};refine !{_,.inl rfl,?_};refine comp_map (λd=>match d with|.tup (x::_)=>x|_=>.au) trivial (by show(cs.map az).length<=1000;rw[za];lia) (λd hd Q hQ=>?_) λp hp=>?_;obtain⟨c,hc,rfl⟩:=zg.mp hd;exact !{rfl,_,_,rfl,_,_,rfl,rfl,_,rfl,hQ};have e:(cs.map az).map (λd=>match d with|.tup (x::_)=>x|_=>.au)=(cs.map Prod.fst).map D.str:=by rw[zq,zq];rfl
 show Fo (S.set p<|.lst<|(cs.map az).map _) (R<|.ref p);rw[e];exact fo<|q p hp
inductive ij (ds:δ D) (S:ak) (R:KD) (Z:KX):η where
 |mk (cs) (h0:ds=[.tup<|cs.map az]) (h1:Gd cs) (h2:R .au S)
theorem m6(T:Txt w K mg t):Ok P w base T.fY 4 ij:=by
 refine T.fY.F.ck mV ?_;obtain⟨cs,e,⟨hl,hn,hg⟩,q⟩;refine{_,(sc (si (twd<|twor (cY<|tv<|cb dE T.aD ay<|ap 0<|ac (wz T.bP bu) an)<|tw1<|aX mD hr.u (cb aZ T.aT aH<|ap 0 an)<|dg (v:=.int 8) T.oE {_,rfl} λ_=>aM _) (s1 wD) s0)<|sc (si (cY<|tv<|cb jP T.jT fX<|ac (su (N:=["column"]) (src:=[none]) (js oB) (GB<|dv 0) nK<|bp T.mQ (vG T) hr<|ap 0 an) an) (s1 wD) s0)<|s1<|si (aX iQ hr.u (lsG hr.u (bp T.lG (nW T) hr<|ap 0 an) T.aT T.IL)<|cb aZ T.aT aH<|ap 0 an) (s1 wD) s0),?_};refine !{_,_,_,_,rfl,bq,rfl,_,rfl,?_};have e1:ω ((8:ν)<((cs.map az).length:π))=false:=zy (by rw[za];lia);refine bt !!!⟨?_⟩;show if ω ((8:ν)<((cs.map az).length:π))=true then _ else _;rw[e1];refine bt ?_;refine !{_,.inl rfl,?_};refine comp_map (λ_=>.bl true) trivial (by show(cs.map az).length<=1000;rw[za];lia) (λd hd Q hQ=>?_) λp hp=>?_;obtain⟨c,hc,rfl⟩:=zg.mp hd;exact !{c,rfl,(hg c hc).1,(hg c hc).2,hQ};have e2:(cs.map az).map (λ_=>D.bl true)=(cs.map λ_=>true).map D.bl:=by rw[zq,zq];rfl
 have e3:(cs.map λ_=>true).all id=true:=by rw[all_map];exact zZ.mpr λ_ _=>rfl
 refine{.ref p,cs.map λ_=>true,rfl,?_,_,rfl,?_};show(S.set p<|.lst<|(cs.map az).map _) p=_;rw[aa,e2];rw[e3];refine bt ?_;refine !{cs,rfl,hl,λp2 iy=>?_};refine{(cs.map Prod.fst).map D.str,aa,by rw[za,za];lia,.inl !⟨hn⟩,_,rfl,_,rfl,_,rfl,?_};have e4:ω (((((cs.map Prod.fst).map D.str).length:π):ν)=(((cs.map az).length:π):ν))=true:=zu (by rw[za,za,za]);show if (if true=true then !decide (((((cs.map Prod.fst).map D.str).length:π):ν)=(((cs.map az).length:π):ν)) else _)=true then _ else _;rw[xL rfl,e4];exact bt {S,(Sub.new hp).trans<|.new iy,q}
inductive lO (ds:δ D) (S:ak) (R:KD) (Z:KX):η where
 |mk (cs d) (h0:ds=[.tup<|cs.map az,d]) (h1:cs.length<=8) (h2:SJ S d) (h3:R (.bl<|lN cs d) S)
theorem sF(T:Txt w K mg t):Ok P w base T.kr 4 lO:=by
 refine T.kr.F.ck sA ?_;obtain⟨cs,d,e,hl,⟨⟨⟨k,hk⟩,hz⟩,hw⟩,q⟩;refine{_,(sc (si (twd<|twor (cY<|tv<|cb dE T.aD ay<|ap 1<|ac (wz T.bP bu) an)<|tw1<|aX iQ hr.u (cb aZ T.aT aH<|ap 1 an)<|cb aZ T.aT aH<|ap 0 an) (s1<|sr db) s0)<|s1<|sr<|cb jP T.jT fX<|ac (Vi (N:=["column","value"]) (src:=[none,none]) (js u0) (izn T.NL<|ap 0<|ap 1 an) (Xj<|show(["column","value"]:δ ρ).Nodup by trivial) (oX rfl rfl) pd (λ_ _ _ _ _=>nK) λ_ _ _ _ _=>(bp T.lF (nU T) hr<|ac (ix hr.u (dv 0) di)<|ap 1 an)) an),?_};refine !{_,_,_,_,rfl,bq,hk,_,rfl,?_};rcases QP hk with⟨ws,rfl,h0⟩|⟨h0,h1⟩;obtain⟨hw1,U8⟩:=hw ws rfl;rw[h0];refine bt !!!!!⟨?_⟩;have e1:ω (((ws.length:π):ν)=(((cs.map az).length:π):ν))=ω (ws.length=cs.length):=by rw[decide_eq_decide,za];lia
 unfold lN at q;dsimp only at q;show if (if true=true then !decide (((ws.length:π):ν)=(((cs.map az).length:π):ν)) else _)=true then _ else _;rw[xL rfl,e1];refine bQ (λh=>?_) λh=>?_;rw[nt h,zX]at q;exact fo q;have h:=nf h;rw[h,yi]at q;have h:=zE h;refine !!{cs.map az,ws,rfl,by rw[za];exact h.symm,?_};refine comp_map pairF trivial (by show(gJ (cs.map az) ws).length<=1000;unfold gJ;rw[List.length_zipWith,za];lia) (λd hd Q hQ=>?_) λp hp=>?_;unfold gJ at hd;obtain⟨i,ei⟩:=yh hd;obtain⟨x,y,e2,e3,e4⟩:=List.getElem?_zipWith_eq_some.mp ei;subst e4;rw[zp]at e2;cases e5:cs[i]? with|none=>(rw[e5]at e2;cases e2)|some c=>rw[e5]at e2;cases e2;exact !{rfl,_,_,rfl,_,_,rfl,rfl,_,rfl,_,rfl,_,rfl,c.2,y,rfl,U8 y<|zH e3,hQ}
 refine{.ref p,List.zipWith (λc v=>gX c.2 v) cs ws,rfl,?_,S,.new hp,q};show(S.set p<|.lst<|(gJ (cs.map az) ws).map pairF) p=_;rw[aa,FU λ_ _=>rfl];rw[h0];have e:lN cs d=false:=by cases d with|tup ws=>exact absurd rfl (h1 ws)|_=>rfl
 rw[e]at q;exact dX<|dX<|fo q
inductive nX (t:fA) (ds:δ D) (S:ak) (R:KD) (Z:KX):η where
 |mk (cs k v) (h0:ds=[.tup<|cs.map az,.tup [k,v]]) (h1:cs.length<=8) (h2:Gt S k) (h3:SJ S v) (h4:(mY cs k v=true->R .au S)) (h5:mY cs k v=false->False)
theorem lP(T:Txt w K mg t):Ok P w base T.ju 5 (nX t):=by refine T.ju.F.ck vp ?_;obtain⟨cs,k,v,e,hl,hk,hv,q1,q2⟩;refine{_,(sc (si (twd<|twor (cY<|tv<|cb dE T.aD ay<|ap 1<|ac (wz T.bP bu) an)<|tw1<|aX iQ hr.u (cb aZ T.aT aH<|ap 1 an) di) (s1 wD) s0)<|sc (si (cY<|tv<|bp T.mP (jw T) hr<|ac (ix hr.u (dv 1) di) an) (s1 wD) s0)<|s1<|si (cY<|tv<|bp T.kr (sF T) hr<|ap 0<|ac (ix hr.u (dv 1) di) an) (s1 wD) s0),?_};refine !{_,_,_,_,rfl,bq,rfl,_,rfl,?_};refine bt !!!⟨bt ?_⟩;refine !!{k,rfl,hk,_,rfl,?_};unfold mY at q1 q2;refine bQ (λh=>?_) λh=>?_;rw[nt h,zX]at q2;exact q2 rfl;rw[nf h,yi]at q1 q2;refine !!!{cs,v,rfl,hl,hv,_,rfl,?_};refine bQ (λh=>?_) λh=>?_;exact q2<|nt h;exact fo<|q1<|nf h
theorem bg(h:n<=100000):n<sizeLine:=by rw[yj];lia
structure Std where
 b:π
 e:θ π
 ws:δ D
def eD:θ π->D|none=>.au|some n=>.int (n:π)
def jg(s:Std):D:=.tup [.int (s.b:π),eD s.e,.tup s.ws]
noncomputable def SK:δ Std->ν->D|[],_=>.au|s::r,m=>if (s.b:ν)<=m then (match s.e with|none=>.tup s.ws|some n=>if m<=(n:ν) then .tup s.ws else .au) else SK r m
noncomputable def wt(l:δ Std)(m:ν):D:=SK l.reverse m
abbrev Ra:=δ<|ρ×ε×δ Std
abbrev lQ:=δ<|ρ×δ Std
def gy(ra:Ra):lQ:=ra.map λr=>(r.1,r.2.2)
def dA(ra:Ra):δ (Key×D):=ra.map λr=>(Sum.inr r.1,D.ref r.2.1)
noncomputable def lu(rs:lQ)(k:ρ):θ (δ Std):=(rs.find? λr=>ω<|r.1=k).map (·.2)
noncomputable def rN(ra:Ra)(k:ρ):θ (ε×δ Std):=(ra.find? λr=>ω<|r.1=k).map (·.2)
noncomputable def rO(ra:Ra)(k:ρ)(s:δ Std):Ra:=ra.map λr=>if r.1=k then (r.1,r.2.1,s) else r
noncomputable def Cj(rs:lQ)(k:ρ)(s:δ Std):lQ:=if (lu rs k).isSome then rs.map λr=>if r.1=k then (r.1,s) else r else rs++[(k,s)]
theorem f_(ra:Ra)(k:ρ):lu (gy ra) k=(rN ra k).map (·.2):=by unfold lu rN gy;induction ra with|nil=>rfl|cons r ra ih=>rw[zw,yd,yd];by_cases h:r.1=k;rw[zu h];rfl;rw[zy h];exact ih
theorem gz(ra:Ra)(k:ρ):bL (dA ra) (.inr k)=(rN ra k).map λp=>D.ref p.1:=by unfold bL rN dA;induction ra with|nil=>rfl|cons r ra ih=>rw[zw,yd,yd];by_cases h:r.1=k;rw[zu h];have:ω ((Sum.inr r.1:Key)=.inr k)=true:=zu (by rw[h]);dsimp only;rw[this];rfl;rw[zy h];have:ω ((Sum.inr r.1:Key)=.inr k)=false:=zy λe=>h<|yN e;dsimp only;rw[this];exact ih
theorem cU(h:rN ra k=some (l,s)):(k,l,s)∈ra:=by unfold rN at h;cases q:ra.find? λr=>ω (r.1=k) with|none=>(rw[q]at h;cases h)|some r=>rw[q]at h;have h1:=List.find?_some q;have h2:=List.mem_of_find?_eq_some q;obtain⟨k',l',s'⟩:=r;have e:k'=k:=zE h1;cases h;rw[<-e];exact h2
theorem lR(h:rN ra k=none):∀r∈ra,r.1≠k:=by unfold rN at h;intro r hr e;have:=List.find?_eq_none.mp (Option.map_eq_none_iff.mp h) r hr;simp[e]at this
theorem gZ:∀{l:δ α}{x y:α},(l.map f).Nodup->x∈l->y∈l->f x=f y->x=y|z::l,x,y,nd,hx,hy,e=>by rw[zw]at nd;obtain⟨n1,n2⟩:=yf.mp nd;rcases zk.mp hx with ex|uw;rcases zk.mp hy with ey|Pm;rw[ex,ey];exact absurd (zg.mpr {y,Pm,by rw[<-e,ex]}) n1;rcases zk.mp hy with ey|Pm;exact absurd (zg.mpr {x,uw,by rw[e,ey]}) n1;exact gZ n2 uw Pm e
structure Ck(C:ε)(S:ak)(a ld lr:ε)(cs:δ (ρ×ρ))(dl:δ D)(ra:Ra):η where
 ins:S a=some (.ins C [("columns",.tup<|cs.map az),("deeds",.ref ld),("runs",.ref lr)])
 xS:S ld=some (.lst dl)
 run:S lr=some (.bG<|dA ra)
 cell:∀r∈ra,S r.2.1=some (.lst<|r.2.2.map jg)
 kn:(ra.map (·.1)).Nodup
 an:(ld::ra.map (·.2.1)).Nodup
 sz:∀r∈ra,r.2.2.length<=dl.length
def fp(a ld lr:ε)(ra:Ra):δ Addr:=a::ld::lr::ra.map (·.2.1)
def bX(C:ε)(S:ak)(a:ε)(F:δ ε)(cs:δ<|ρ×ρ)(dl:δ D)(rs:lQ):Prop:=∃ld lr ra,Ck C S a ld lr cs dl ra/\F=fp a ld lr ra/\rs=gy ra
def Co(F F':δ ε)(S S':ak):Prop:=∀b c,b∉F->S b=some c->b∉F'/\S' b=some c
theorem Co.trans(a:Co F F1 S S1)(b:Co F1 F2 S1 S2):Co F F2 S S2:=λp c h e=>by obtain⟨h1,e1⟩:=a p c h e;exact b p c h1 e1
section
variable{C a ld lr:ε}{S:ak}{cs:δ (ρ×ρ)}{dl:δ D}{ra:Ra}
theorem Ck.Cp(h:Ck C S a ld lr cs dl ra){l:ε}{ds:δ D}(e:S l=some (.lst ds)):l≠a/\l≠lr:=by constructor;rintro rfl;rw[h.ins]at e;cases e;rintro rfl;rw[h.run]at e;cases e
theorem Ck.put(h:Ck C S a ld lr cs dl ra)(hk:rN ra k=some (l,s))(hs:s'.length<=dl.length):Ck C (S.set l<|.lst<|s'.map jg) a ld lr cs dl (rO ra k s'):=by
 have hm:=cU hk;have hl:=h.cell _ hm;obtain⟨n1,n2⟩:=h.Cp hl;obtain⟨nd1,nd2⟩:=yf.mp h.an;have n3:l≠ld:=λe=>nd1 (by rw[<-e];exact zg.mpr {_,hm,rfl});have e1:(rO ra k s').map (·.1)=ra.map (·.1):=by unfold rO;rw[zq];exact zW λr _=>by dsimp only[Function.comp];split<;>rfl
 have e2:(rO ra k s').map (·.2.1)=ra.map (·.2.1):=by unfold rO;rw[zq];exact zW λr _=>by dsimp only[Function.comp];split<;>rfl
 have e3:dA (rO ra k s')=dA ra:=by unfold dA rO;rw[zq];exact zW λr _=>by dsimp only[Function.comp];split<;>rfl
 refine{by rw[ae n1.symm];exact h.ins,by rw[ae n3.symm];exact h.xS,by rw[ae n2.symm,e3];exact h.run,λr hr=>?_,by rw[e1];exact h.kn,by rw[e2];exact h.an,λr hr=>?_};unfold rO at hr;obtain⟨r0,D7,e⟩:=zg.mp hr;by_cases q:r0.1=k;rw[xL q]at e;have er:r0=(k,l,s):=gZ h.kn D7 hm q;subst er e;rw[aa];rw[xz q]at e;subst e;have:r0.2.1≠l:=λe=>q (by have:=gZ nd2 D7 hm e;rw[this]);rw[ae this];exact h.cell _ D7;unfold rO at hr;obtain⟨r0,D7,e⟩:=zg.mp hr;by_cases q:r0.1=k;rw[xL q]at e;subst e;exact hs;rw[xz q]at e;subst e;exact h.sz _ D7
theorem Ck.add(h:Ck C S a ld lr cs dl ra)(hk:rN ra k=none)(hl:S l=none)(hs:s.length<=dl.length)(e1:S' l=some (.lst<|s.map jg))(e2:S' lr=some (.bG<|dA<|ra++[(k,l,s)]))(e3:∀b,b≠l->b≠lr->S' b=S b):Ck C S' a ld lr cs dl (ra++[(k,l,s)]):=by
 have n1:a≠l:=gC h.ins hl;have n2:ld≠l:=gC h.xS hl;have n3:a≠lr:=by rintro rfl;have:=h.run;rw[h.ins]at this;cases this
 have n4:ld≠lr:=by rintro rfl;have:=h.run;rw[h.xS]at this;cases this
 refine{by rw[e3 _ n1 n3];exact h.ins,by rw[e3 _ n2 n4];exact h.xS,e2,λr hr=>?_,?_,?_,λr hr=>?_};rcases zN.mp hr with hr|hr;have hc:=h.cell r hr;rw[e3 _ (gC hc hl) (h.Cp hc).2];exact hc;rw[zI.mp hr];exact e1;rw[zL];exact oW h.kn λm=>by obtain⟨r,hr,e⟩:=zg.mp m;exact lR hk r hr e
 rw[zL,<-List.cons_append];refine oW h.an λm=>?_;rcases zk.mp m with e|m;exact n2 e.symm;obtain⟨r,hr,e⟩:=zg.mp m;exact gC (h.cell r hr) hl e;rcases zN.mp hr with hr|hr;exact h.sz r hr;rw[zI.mp hr];exact hs
theorem Ck.xT(h:Ck C S a ld lr cs dl ra)(d:D):Ck C (S.set ld<|.lst<|dl++[d]) a ld lr cs (dl++[d]) ra:=by obtain⟨n1,n2⟩:=h.Cp h.xS;obtain⟨nd1,nd2⟩:=yf.mp h.an;refine{by rw[ae n1.symm];exact h.ins,aa,by rw[ae n2.symm];exact h.run,λr hr=>?_,h.kn,h.an,λr hr=>by rw[zA];exact zG (h.sz r hr)<|Nat.le_add_right _ _};rw[ae λe=>nd1<|by rw[<-e];exact zg.mpr ⟨r,hr,rfl⟩];exact h.cell r hr
end
inductive NN (C:ε) (ds:δ D) (S:ak) (R:KD) (Z:KX):η where
 |mk (a F cs dl rs) (h0:ds=[.ref a]) (h1:bX C S a F cs dl rs) (h2:R (.int (dl.length:π)) S)
theorem vH(T:Txt w K mg t):r_ P w mg base T.eT 1 (NN t.aq):=by refine T.eT.F.ck vE ?_;obtain⟨a,F,cs,dl,rs,e,⟨ld,lr,ra,h,_⟩,q⟩;refine{_,(s1<|sr<|cb aZ T.aT aH<|ac (fl T.ao T.cD<|dv 0) an),?_};exact !{a,_,_,rfl,h.ins,rfl,_,rfl,.inl {dl,h.xS,fo q}}
inductive eN (t:fA) (ds:δ D) (S:ak) (R:KD) (Z:KX):η where
 |mk (a F cs dl rs) (h0:ds=[.ref a]) (h1:bX t.aq S a F cs dl rs) (h2:R (.tup<|cs.map az) S)
theorem bU(T:Txt w K mg t):r_ P w mg base T.aN 1 (eN t):=by refine T.aN.F.ck je ?_;obtain⟨a,F,cs,dl,rs,e,⟨ld,lr,ra,h,_⟩,q⟩;refine{_,(s1<|sr<|fl T.ao T.cJ<|dv 0),?_};exact !{a,_,_,rfl,h.ins,rfl,fo q}
noncomputable def sG(n:π):D->θ ν|.au=>some n|.int i=>(if 0<=i/\i<=(n:ν) then some i else none)|_=>none
inductive D8 (C:ε) (ds:δ D) (S:ak) (R:KD) (Z:KX):η where
 |mk (a F cs dl rs m) (h0:ds=[.ref a,m]) (h1:bX C S a F cs dl rs) (h2:Gt S m) (h3:(∀i,sG dl.length m=some i->R (.int i) S)) (h4:sG dl.length m=none->False)
theorem ik(T:Txt w K mg t):r_ P w mg base T.cj 2 (D8 t.aq):=by
 refine T.cj.F.ck iB ?_;obtain⟨a,F,cs,dl,rs,m,e,hS,hm,q1,q2⟩;obtain⟨ld,lr,ra,h,hF,rM⟩:=id hS;refine{_,(sc (si (aX gH hr.u (dv 1) dn) (s1<|sr<|oA (dv 0) T.ao T.eT (vH T) hr) s0)<|sc (si (twd<|twor (cY<|tv<|bp T.i5 (jf T) hr<|ap 1 an)<|tw1<|cY<|Xc iP iP hr.u di (dv 1)<|oA (dv 0) T.ao T.eT (vH T) hr) (s1 wD) s0)<|s1<|sr<|dv 1),?_};refine !!⟨?_⟩;refine bQ (λh1=>?_) λh1=>?_;have e:m=.au:=by cases m<;>first|rfl|cases h1
 subst e;exact !{a,_,rfl,h.ins,rfl,a,F,cs,dl,rs,rfl,hS,fo<|q1 _ rfl};refine !{m,rfl,hm,_,rfl,?_};refine bQ (λh2=>?_) λh2=>?_;have h2:=nt h2;have e:sG dl.length m=none:=by cases m with|au=>(cases h1)|int i=>(cases h2)|_=>rfl
 exact dX<|q2 e;have h2:=nf h2;obtain⟨i,rfl⟩:∃i,m=.int i:=by cases m<;>first|exact{_,rfl}|cases h2
 refine !!⟨?_⟩;refine bQ (λh3=>?_) λh3=>?_;have h3:0<=i:=zE h3;refine !{a,_,rfl,h.ins,rfl,a,F,cs,dl,rs,rfl,hS,_,rfl,?_};refine bQ (λh4=>?_) λh4=>?_;have h4:¬i<=((dl.length:π):ν):=ye<|nt h4;exact q2<|xz λz=>h4 z.2;have h4:i<=((dl.length:π):ν):=zE<|nf h4;exact{_,rfl,fo<|q1 i<|xL ⟨h3,h4⟩};have h3:¬0<=i:=ye h3;exact{_,rfl,dX<|q2<|xz λz=>h3 z.1}
inductive jV (ds:δ D) (S:ak) (R:KD) (Z:KX):η where
 |mk (l tY m) (h0:ds=[.ref l,.int m]) (h1:S l=some (.lst<|tY.map jg)) (h2:R (wt tY m) S)
theorem jh(T:Txt w K mg t):Ok P w base T.fQ 1 jV:=by
 refine T.fQ.F.ck jd ?_;obtain⟨l,tY,m,e,hl,q⟩;refine{_,(sc (nL<|HJ (irv T.qC<|ap 0 an) (gn (i:=2) jd.nd)<|s1<|si (aX iP hr.u (ix hr.u (dv 2) di)<|dv 1) (s1<|sr<|UK (twd<|twor (aX gH hr.u (ix hr.u (dv 2) di) dn)<|tw1<|aX iP hr.u (dv 1)<|ix hr.u (dv 2) di) (ix hr.u (dv 2) di) dn) s0)<|s1<|sr dn),?_};refine{λax S'=>S'=S/\wt tY m=.au,?_,?_};refine !{_,_,rfl,hl,?_};refine{λi ax S'=>(∃o,ax=[some<|.ref l,some<|.int m,o])/\S'=S/\wt tY m=SK (tY.reverse.drop i) m,{⟨none,rfl⟩,rfl,by rw[List.drop_zero];rfl},λi ax S' h=>by rw[h.2.1];exact hl,?_,?_};rintro i d ax S' hd ⟨⟨o,rfl⟩,rfl,hw⟩;rw[<-List.map_reverse,zp]at hd;cases e1:tY.reverse[i]? with|none=>(rw[e1]at hd;cases hd)|some sd=>rw[e1]at hd;cases hd;have e2:tY.reverse.drop i=sd::tY.reverse.drop (i+1):=(by obtain⟨hi,e⟩:=ze.mp e1;rw[ym hi,e]);obtain⟨sb,se,sw⟩:=sd;rw[e2]at hw;refine !!!!⟨?_⟩;unfold SK at hw;refine bQ (λh=>?_) λh=>?_;rw[xL<|zE h]at hw;refine !!!⟨?_⟩;(cases se with|none=>refine dX<|dX !!⟨?_⟩;rw[hw]at q;exact fo q|some n=>refine bt !!!!⟨?_⟩;dsimp only at hw;refine bQ (λh=>?_) λh=>?_;rw[xL<|zE h]at hw;rw[hw]at q;exact !!⟨fo q⟩;rw[xz<|ye h]at hw;rw[hw]at q;exact fo q);rw[xz<|ye h]at hw;exact{{_,rfl},rfl,hw}
 rintro ax S' ⟨_,rfl,hw⟩;refine fo {rfl,?_};rw[hw,yI,za,List.drop_eq_nil_of_le<|by rw[yI];exact zm _];rfl;rintro ax S' ⟨rfl,hw⟩;rw[hw]at q;exact fo q
noncomputable def AO(rs:lQ)(k:D)(i:ν):D:=match k with|.str z=>(if kC z=true then wt ((lu rs z).getD []) i else .au)|_=>.au
inductive NO (C:ε) (ds:δ D) (S:ak) (R:KD) (Z:KX):η where
 |mk (a F cs dl rs k m) (h0:ds=[.ref a,k,m]) (h1:bX C S a F cs dl rs) (h2:Gt S k) (h3:Gt S m) (h4:(∀i,sG dl.length m=some i->R (AO rs k i) S)) (h5:sG dl.length m=none->False)
theorem lS(T:Txt w K mg t):r_ P w mg base T.cT 3 (NO t.aq):=by
 refine T.cT.F.ck fq ?_;obtain⟨a,F,cs,dl,rs,k,m,e,hS,hk,hm,q1,q2⟩;obtain⟨ld,lr,ra,h,hF,rM⟩:=id hS;refine{_,(sc (bW (i:=3) fq.nd<|so (dv 0) T.ao T.cj (ik T) hr<|ap 2 an)<|sc (si (cY<|tv<|bp T.mP (jw T) hr<|ap 1 an) (s1<|sr dn) s0)<|s1<|sr<|bp T.fQ (jh T) hr<|ac (mg2 hr.u (fl T.ao T.bM<|dv 0) (dv 1)<|b8 an)<|ap 3 an),?_};refine !{a,_,rfl,h.ins,rfl,_,rfl,a,F,cs,dl,rs,m,rfl,hS,hm,λi hi=>?_,q2};have q:=q1 i hi;refine !{k,rfl,hk,_,rfl,?_};refine bQ (λh1=>?_) λh1=>?_;have e:AO rs k i=.au:=by cases k with|str z=>exact xz (by rw[show kC z=false from nt h1];exact zd)|_=>rfl
 rw[e]at q;exact fo q;have h1:=nf h1;obtain⟨z,rfl⟩:∃z,k=.str z:=by cases k with|str z=>exact⟨z,rfl⟩|_=>cases h1
 have e:AO rs (.str z) i=wt ((lu rs z).getD []) i:=xL h1;rw[e]at q;refine !{a,_,_,rfl,h.ins,rfl,lr,_,rfl,h.run,_,rfl,sm<|by decide,λp hp=>{dA ra,.inr z,?_,rfl,?_}};rw[ae<|gC h.run hp];exact h.run;rw[gz];refine{_,rfl,?_};cases e1:rN ra z with|none=>have e2:lu rs z=none:=(by rw[rM,f_,e1];rfl);rw[e2]at q;exact{p,[],i,rfl,aa,S,.new hp,q}|some ls=>obtain⟨l,tY⟩:=ls;have e2:lu rs z=some tY:=(by rw[rM,f_,e1];rfl);rw[e2]at q;have hc:=h.cell _<|cU e1;exact{l,tY,i,rfl,by rw[ae<|gC hc hp];exact hc,S,.new hp,q}
theorem NP(h:rN ra k=some (l,s)):Cj (gy ra) k s'=gy (rO ra k s'):=by unfold Cj;rw[f_,h,xL<|show(Option.map (λx:ε×δ Std=>x.2)<|some (l,s)).isSome=true from rfl];unfold gy rO;rw[zq,zq];exact zW λr _=>by dsimp only[Function.comp];split<;>rfl
theorem QQ(h:rN ra k=none):Cj (gy ra) k s=gy (ra++[(k,l,s)]):=by unfold Cj;rw[f_,h,xz<|show ¬(Option.map (λx:ε×δ Std=>x.2) none).isSome=true from zd];unfold gy;rw[zL];rfl
theorem QR(h:rN ra k=none):dput (dA ra) (.inr k) (.ref l)=dA (ra++[(k,l,s)]):=by
 unfold dput;have e:((dA ra).any λkv=>ω<|kv.1=.inr k)=false:=by rw[List.any_eq_false];intro x hx;unfold dA at hx;obtain⟨r,hr,rfl⟩:=zg.mp hx;simp only[zK];exact λe=>lR h r hr<|yN e
 rw[e,xz zd];unfold dA;rw[zL];rfl
theorem IT:fp a ld lr (rO ra k s)=fp a ld lr ra:=by unfold fp rO;rw[zq];congr 3;exact zW λr _=>by dsimp only[Function.comp];split<;>rfl
theorem qR(h:l∈F):Co F F S (S.set l c):=λb x hb e=>{hb,by rw[ae<|show b≠l from λz=>hb<|by rw[z];exact h];exact e}
theorem IU(h:r∈ra):r.2.1∈fp a ld lr ra:=zh _<|zh _<|zh _<|zg.mpr ⟨r,h,rfl⟩
inductive D9 (C:ε) (ds:δ D) (S:ak) (R:KD) (Z:KX):η where
 |mk (a F cs dl rs z ws) (h0:ds=[.ref a,.str z,.tup ws]) (h1:bX C S a F cs dl rs) (h2:((lu rs z).getD []).length<dl.length) (h3:dl.length<=9000) (h4:rs.length<=9000) (h5:∀S' F',bX C S' a F' cs dl (Cj rs z<|(lu rs z).getD []++[Std.mk dl.length none ws])->Co F F' S S'->R .au S')
theorem xU(T:Txt w K mg t):r_ P w mg base T.bI 2 (D9 t.aq):=by
 refine T.bI.F.ck gx ?_;rintro _ _ _ _ _ _ _ S R Z hr ⟨a,F,cs,dl,rs,z,ws,e,⟨ld,lr,ra,h,hF,rM⟩,hl,hd,hn,q⟩;subst e hF rM;have Kf:(dA ra).length<=9000:=by unfold gy at hn;unfold dA;rw[za]at hn⊢;exact hn
 refine{_,(s1<|se<|bm zQ yb yc cC (ms2 (fl T.ao T.bM<|dv 0) (dv 1)<|b8 an)<|ac (b9<|ac (oA (dv 0) T.ao T.eT (vH T) hr)<|ac dn<|ap 2 an) an),?_};refine !{a,_,_,rfl,h.ins,rfl,lr,dA ra,rfl,h.run,_,rfl,sm<|by decide,λp hp=>{dA ra,.inr z,?_,rfl,bg<|by lia,λd AU=>?_,λhn=>?_}};rw[ae<|gC h.run hp];exact h.run;rw[gz]at AU;cases e1:rN ra z with|none=>(rw[e1]at AU;cases AU)|some ls=>obtain⟨l,tY⟩:=ls;rw[e1]at AU;cases AU;have e2:lu (gy ra) z=some tY:=(by rw[f_,e1];rfl);rw[e2]at q hl;have hc:=h.cell _<|cU e1;have Tp:(S.set p<|.lst []) l=some (.lst<|tY.map jg):=(by rw[ae<|gC hc hp];exact hc);have Qy:(S.set p<|.lst []) a=some (.ins t.aq [("columns",.tup<|cs.map az),("deeds",.ref ld),("runs",.ref lr)]):=(by rw[ae<|gC h.ins hp];exact h.ins);have o_:Ck t.aq (S.set p<|.lst []) a ld lr cs dl ra:={Qy,by rw[ae<|gC h.xS hp];exact h.xS,by rw[ae<|gC h.run hp];exact h.run,λr hr=>by rw[ae<|gC (h.cell r hr) hp];exact h.cell r hr,h.kn,h.an,h.sz};refine{{rfl,_,Tp},_,rfl,a,_,rfl,Qy,rfl,a,_,cs,dl,_,rfl,⟨ld,lr,ra,o_,rfl,rfl⟩,_,rfl,qL,?_};have hle:tY.length<dl.length:=hl;refine{l,tY.map jg,_,rfl,rfl,Tp,bg<|by rw[za];lia,S.set l<|.lst<|(tY++[Std.mk dl.length none ws]).map jg,λb c hb=>?_,q _ _ {ld,lr,_,h.put e1<|by rw[zA];show tY.length+1<=_;lia,rfl,NP e1} ?_};by_cases hbl:b=l;subst hbl;rw[aa]at hb⊢;rw[zL]at hb;exact hb;rw[ae hbl]at hb;rw[ae hbl,ae<|gC hb hp];exact hb;rw[IT];exact qR<|IU<|cU e1
 rw[gz]at hn;cases e1:rN ra z with|some ls=>(rw[e1]at hn;cases hn)|none=>have e2:lu (gy ra) z=none:=(by rw[f_,e1];rfl);rw[e2]at q hl;have npr:p≠lr:=(gC h.run hp).symm;generalize D_:(S.set p<|.lst []).set lr _=S1;have s1p:S1 p=some (.lst []):=(by rw[<-D_,ae npr,aa]);have s1r:S1 lr=some (.bG<|dA<|ra++[(z,p,[])]):=(by rw[<-D_,aa,QR e1]);have s1o:∀b,b≠p->b≠lr->S1 b=S b:=λb h1 h2=>(by rw[<-D_,ae h2,ae h1]);have o_:Ck t.aq S1 a ld lr cs dl (ra++[(z,p,[])]):=h.add e1 hp (zY _) s1p s1r s1o;refine{{rfl,_,s1p},_,rfl,a,_,rfl,o_.ins,rfl,a,_,cs,dl,_,rfl,{ld,lr,_,o_,rfl,rfl},_,rfl,qL,?_};refine{p,[],_,rfl,rfl,s1p,bg<|by show 0<=_;lia,S1.set p<|.lst<|[Std.mk dl.length none ws].map jg,.refl _,q _ _ {ld,lr,ra++[(z,p,[Std.mk dl.length none ws])],h.add e1 hp (by show 1<=_;have:0<dl.length:=hl;lia) aa ?_ λb h1 h2=>by rw[ae h1];exact s1o b h1 h2,rfl,QQ e1} ?_};rw[ae npr.symm,s1r];unfold dA;rw[zL,zL];rfl;intro b c hb e;have h1:b≠p:=gC e hp;have h2:b≠lr:=λz=>hb (by rw[z];exact zh _<|zh _ zj);refine{λm=>?_,by rw[ae h1,s1o b h1 h2];exact e};unfold fp at m hb;rw[zL]at m;rcases zk.mp m with m|m;exact hb<|m ▸ zj;rcases zk.mp m with m|m;exact hb<|m ▸ zh _ zj;rcases zk.mp m with m|m;exact h2 m;rcases zN.mp m with m|m;exact hb<|zh _<|zh _<|zh _ m;exact h1<|zI.mp m
noncomputable def m7(n:π)(l:δ Std):δ Std:=l.dropLast++(l.getLast?.map λs=>Std.mk s.b (some n) s.ws).toList
noncomputable def qS(rs:lQ)(z:ρ)(n:π):lQ:=Cj rs z<|m7 n<|(lu rs z).getD []
noncomputable def xV(rs:lQ)(z:ρ)(n:π)(ws:δ D):lQ:=Cj rs z<|(lu rs z).getD []++[Std.mk n none ws]
theorem IV(h:bX C S a F cs dl rs)(z:ρ):((lu rs z).getD []).length<=dl.length:=by obtain⟨ld,lr,ra,h,_,rfl⟩:=h;rw[f_];cases e:rN ra z with|none=>exact zY _|some ls=>exact h.sz _<|cU (l:=ls.1) (s:=ls.2) e
theorem Mc(rs:lQ)(z:ρ)(s:δ Std):(Cj rs z s).length<=rs.length+1:=by unfold Cj;split;rw[za];lia;rw[zA];exact zm _
theorem eO:lu (r::rs) k=if r.1=k then some r.2 else lu rs k:=by unfold lu;rw[yd];by_cases h:r.1=k;rw[zu h,xL h];rfl;rw[zy h,xz h]
theorem m8:lu (Cj rs z s) k=if k=z then some s else lu rs k:=by
 unfold Cj;by_cases hs:(lu rs z).isSome=true;rw[xL hs];by_cases hk:k=z;subst hk;rw[xL rfl];induction rs with|nil=>(cases hs)|cons r rs ih=>rw[zw,eO];by_cases h:r.1=k;rw[xL h,xL h];rw[xz h,xz h];rw[eO,xz h]at hs;exact ih hs
 rw[xz hk];clear hs;induction rs with|nil=>rfl|cons r rs ih=>rw[zw,eO,eO,ih];by_cases h:r.1=z;rw[xL h,xz<|show ¬r.1=k from λe=>hk<|e.symm.trans h,xz<|show ¬r.1=k from λe=>hk<|e.symm.trans h];rw[xz h]
 rw[xz hs];have hn:lu rs z=none:=by cases e:lu rs z<;>simp_all
 clear hs;induction rs with|nil=>rw[List.nil_append,eO];by_cases hk:k=z;rw[xL hk,xL hk.symm];rw[xz hk,xz λe=>hk e.symm]|cons r rs ih=>rw[eO]at hn;by_cases h:r.1=z;rw[xL h]at hn;cases hn;rw[xz h]at hn;rw[List.cons_append,eO,eO,ih hn];by_cases h2:r.1=k;rw[xL h2,xL h2,xz<|show ¬k=z from λe=>h<|h2.trans e];rw[xz h2,xz h2]
inductive NQ (C:ε) (ds:δ D) (S:ak) (R:KD) (Z:KX):η where
 |mk (a F cs dl rs z) (h0:ds=[.ref a,.str z]) (h1:bX C S a F cs dl rs) (h2:(∃s,lu rs z=some s/\s≠[])) (h3:dl.length<=9000) (h4:∀S',bX C S' a F cs dl (qS rs z dl.length)->Co F F S S'->R .au S')
theorem pC(h:l≠[]):∃r s,l=r++[s]:={l.dropLast,l.getLast h,(List.dropLast_concat_getLast h).symm}
theorem ji(n:π)(r:δ Std)(s:Std):m7 n (r++[s])=r++[Std.mk s.b (some n) s.ws]:=by unfold m7;rw[List.dropLast_concat,List.getLast?_concat];rfl
theorem IW(T:Txt w K mg t):r_ P w mg base T.cg 2 (NQ t.aq):=by refine T.cg.F.ck dG ?_;rintro _ _ _ _ _ _ _ S R Z hr ⟨a,F,cs,dl,rs,z,e,⟨ld,lr,ra,h,hF,rM⟩,⟨s0,Sb,jx⟩,hd,q⟩;subst e hF rM;rw[f_]at Sb;cases e1:rN ra z with|none=>(rw[e1]at Sb;cases Sb)|some ls=>obtain⟨l,tY⟩:=ls;rw[e1]at Sb;cases Sb;obtain⟨r,sd,rfl⟩:=pC jx;have hlen:=h.sz _<|cU e1;dsimp only at hlen;rw[zA]at hlen;have hlen:r.length+1<=dl.length:=hlen;have hc:=h.cell _<|cU e1;dsimp only at hc;have ed:bL (dA ra) (.inr z)=some (.ref l):=(by rw[gz,e1];rfl);refine{_,(sc (bW (i:=2) dG.nd<|bm0 zQ PySem.F.slot_list_pop PySem.F.type_list_pop US<|ix hr.u (fl T.ao T.bM<|dv 0)<|dv 1)<|s1<|se<|bm zQ yb yc cC (ix hr.u (fl T.ao T.bM<|dv 0)<|dv 1)<|ac (b9<|ac (ix hr.u (dv 2) di)<|ac (oA (dv 0) T.ao T.eT (vH T) hr)<|ac (ix hr.u (dv 2) di) an) an),?_};refine !{a,_,_,rfl,h.ins,rfl,_,rfl,dA ra,_,h.run,ed,{rfl,_,hc},l,_,jg sd,rfl,rfl,hc,?_,?_};rw[zL,zA];show(r.map jg++[jg sd])[(r.map jg).length+1-1]?=_;simp;have e2:((r++[sd]).map jg).dropLast=r.map jg:=(by rw[zL];exact List.dropLast_concat);rw[e2];have h1:Ck t.aq (S.set l<|.lst<|r.map jg) a ld lr cs dl (rO ra z r):=h.put e1 (by lia);generalize D_:S.set l _=S1 at h1;have e1':rN (rO ra z r) z=some (l,r):=(by have hm:(z,l,r)∈rO ra z r:=(by unfold rO;exact zg.mpr {_,cU e1,xL rfl});cases e3:rN (rO ra z r) z with|none=>exact absurd rfl (lR e3 _ hm)|some x=>exact congrArg some<|congrArg Prod.snd<|gZ (f:=λr:ρ×ε×δ Std=>r.1) h1.kn (cU (l:=x.1) (s:=x.2) e3) hm rfl);have ed':bL (dA<|rO ra z r) (.inr z)=some (.ref l):=(by rw[gz,e1'];rfl);have XJ:=h1.cell _<|cU e1';refine !{a,_,_,rfl,h1.ins,rfl,_,rfl,_,_,h1.run,ed',{rfl,_,XJ},_,rfl,_,rfl,_,rfl,a,_,rfl,h1.ins,rfl,a,_,cs,dl,_,rfl,{ld,lr,_,h1,rfl,rfl},_,rfl,_,rfl,qL,l,_,_,rfl,rfl,XJ,bg<|by rw[za];show r.length<=_;lia,?_};have h2:=h1.put (s':=r++[Std.mk sd.b (some dl.length) sd.ws]) e1' (by rw[zA];exact hlen);have e4:qS (gy ra) z dl.length=gy (rO (rO ra z r) z<|r++[Std.mk sd.b (some dl.length) sd.ws]):=(by unfold qS;rw[f_,e1];show Cj (gy ra) z (m7 dl.length<|r++[sd])=_;rw[ji,NP e1];unfold gy rO;rw[zq,zq,zq];exact zW λx _=>by dsimp only[Function.comp];by_cases hx:x.1=z<;>simp[hx]);refine{_,?_,q _ {ld,lr,_,h2,by rw[IT,IT],e4} ?_};show Sub (S1.set l<|.lst<|(r++[_]).map jg) (S1.set l<|.lst<|r.map jg++[_]);rw[zL];exact .refl _;rw[<-D_,ba];exact qR<|IU<|cU e1
theorem Ea(h:ofStr kC d=true):∃z,d=.str z/\kC z=true:=by cases d with|str z=>exact⟨z,rfl,h⟩|_=>cases h
theorem Eb(h:mY cs k v=true):∃z ws,k=.str z/\v=.tup ws/\kC z=true:=by unfold mY at h;rw[zJ]at h;obtain⟨z,rfl,hz⟩:=Ea h.1;cases v with|tup ws=>exact⟨z,ws,rfl,rfl,hz⟩|_=>exact absurd h.2 zd
theorem vI:Gt S .au:={{.au,rfl},λ_=>nofun}
theorem NR(h:ag (wt l m)=false):l≠[]:=by rintro rfl;cases h
theorem vJ(hz:kC z=true)(i:ν):AO rs (.str z) i=wt ((lu rs z).getD []) i:=xL hz
inductive d9 (t:fA) (ds:δ D) (S:ak) (R:KD) (Z:KX):η where
 |mk (a F cs dl rs k) (h0:ds=[.ref a,k]) (h1:bX t.aq S a F cs dl rs) (h2:Gt S k) (h3:(ag (AO rs k dl.length)=false->R .au S)) (h4:ag (AO rs k dl.length)=true->False)
theorem ip(T:Txt w K mg t):r_ P w mg base T.b_ 4 (d9 t):=by refine T.b_.F.ck iA ?_;obtain⟨a,F,cs,dl,rs,k,e,hS,hk,q1,q2⟩;obtain⟨ld,lr,ra,h,_⟩:=id hS;refine{_,(s1<|si (aX gH hr.u (Zz (dv 0) T.ao T.cT.e ((lS T).mono<|by decide) hr T.eL d1<|ap 1 an) dn) (s1 wD) s0),?_};refine !{a,_,rfl,h.ins,rfl,_,rfl,a,F,cs,dl,rs,k,.au,rfl,hS,hk,vI,λi hi=>?_,λhn=>by cases hn};cases hi;refine{_,rfl,?_};refine bQ (λh1=>?_) λh1=>?_;exact q2 h1;exact fo<|q1 h1
inductive jj (t:fA) (ds:δ D) (S:ak) (R:KD) (Z:KX):η where
 |mk (a F cs dl rs k v) (h0:ds=[.ref a,k,v]) (h1:bX t.aq S a F cs dl rs) (h2:cs.length<=8) (h3:Gt S k) (h4:SJ S v) (h5:dl.length<=8000) (h6:rs.length<=8000) (h7:mY cs k v=false->False) (h8:(mY cs k v=true->ag (AO rs k dl.length)=false->False)) (h9:(∀z ws,k=.str z->v=.tup ws->mY cs k v=true->ag (AO rs k dl.length)=true->∀S' F',bX t.aq S' a F' cs (dl++[.tup [.str "put",k,v]]) (xV rs z (dl.length+1) ws)->Co F F' S S'->R .au S'))
theorem QS(T:Txt w K mg t):r_ P w mg base T.eS 6 (jj t):=by refine T.eS.F.ck vB ?_;obtain⟨a,F,cs,dl,rs,k,v,e,hS,hc,hk,hv,hd,hn,q1,q2,q3⟩;obtain⟨ld,lr,ra,h,hF,rM⟩:=id hS;refine{_,(sc (se<|bp T.ju (lP T) hr<|ac (fl T.ao T.cJ<|dv 0)<|ac (b9<|ap 1<|ap 2 an) an)<|sc (si (aX mE hr.u (Zz (dv 0) T.ao T.cT.e ((lS T).mono<|by decide) hr T.eL d1<|ap 1 an) dn) (s1 wD) s0)<|sc (se<|bm zQ yb yc cC (fl T.ao T.cD<|dv 0)<|ac (b9<|ac ds<|ap 1<|ap 2 an) an)<|s1<|se<|so (dv 0) T.ao T.bI (xU T) hr<|ap 1<|ap 2 an),?_};refine !{a,_,_,rfl,h.ins,rfl,_,rfl,_,rfl,cz,cs,k,v,rfl,hc,hk,hv,λxW=>?_,q1};refine !{a,_,rfl,h.ins,rfl,_,rfl,a,F,cs,dl,rs,k,.au,rfl,hS,hk,vI,λi hi=>?_,λhn=>by cases hn};cases hi;refine{_,rfl,?_};refine bQ (λh1=>?_) λh1=>?_;exact q2 xW<|nt h1;obtain⟨z,ws,rfl,rfl,hz⟩:=Eb xW;refine !{a,_,_,rfl,h.ins,rfl,{rfl,_,h.xS},_,rfl,_,rfl,qL,ld,dl,_,rfl,rfl,h.xS,bg<|by lia,?_};have GH:=h.xT<|.tup [.str "put",.str z,.tup ws];have D_:bX t.aq (S.set ld<|.lst<|dl++[.tup [.str "put",.str z,.tup ws]]) a F cs (dl++[.tup [.str "put",.str z,.tup ws]]) rs:=⟨ld,lr,ra,GH,hF,rM⟩;have hl:=IV hS z;refine !{a,_,rfl,GH.ins,rfl,_,rfl,_,rfl,a,F,cs,_,rs,z,ws,rfl,D_,by rw[zA];exact Nat.lt_succ_of_le hl,by rw[zA];show dl.length+1<=_;lia,by lia,λS' F' o_ hK=>fo<|q3 z ws rfl rfl xW (nf h1) S' F' ?_ ?_};have:(dl++[D.tup [.str "put",.str z,.tup ws]]).length=dl.length+1:=zA;rw[this]at o_;exact o_;refine Co.trans (qR ?_) hK;rw[hF];exact zh _ zj
inductive ft (t:fA) (ds:δ D) (S:ak) (R:KD) (Z:KX):η where
 |mk (a F cs dl rs k v) (h0:ds=[.ref a,k,v]) (h1:bX t.aq S a F cs dl rs) (h2:cs.length<=8) (h3:Gt S k) (h4:SJ S v) (h5:dl.length<=8000) (h6:rs.length<=8000) (h7:mY cs k v=false->False) (h8:(mY cs k v=true->ag (AO rs k dl.length)=true->False)) (h9:(∀z ws,k=.str z->v=.tup ws->mY cs k v=true->ag (AO rs k dl.length)=false->∀S' F',bX t.aq S' a F' cs (dl++[.tup [.str "change",k,v]]) (xV (qS rs z dl.length) z (dl.length+1) ws)->Co F F' S S'->R .au S'))
theorem FV(T:Txt w K mg t):r_ P w mg base T.cK 6 (ft t):=by
 refine T.cK.F.ck oH ?_;obtain⟨a,F,cs,dl,rs,k,v,e,hS,hc,hk,hv,hd,hn,q1,q2,q3⟩;obtain⟨ld,lr,ra,h,hF,rM⟩:=id hS;refine{_,(sc (se<|bp T.ju (lP T) hr<|ac (fl T.ao T.cJ<|dv 0)<|ac (b9<|ap 1<|ap 2 an) an)<|sc (se<|so (dv 0) T.ao T.b_ (ip T) hr<|ap 1 an)<|sc (se<|so (dv 0) T.ao T.cg (IW T) hr<|ap 1 an)<|sc (se<|bm zQ yb yc cC (fl T.ao T.cD<|dv 0)<|ac (b9<|ac ds<|ap 1<|ap 2 an) an)<|s1<|se<|so (dv 0) T.ao T.bI (xU T) hr<|ap 1<|ap 2 an),?_};refine !{a,_,_,rfl,h.ins,rfl,_,rfl,_,rfl,cz,cs,k,v,rfl,hc,hk,hv,λxW=>?_,q1};refine !{a,_,rfl,h.ins,rfl,_,rfl,a,F,cs,dl,rs,k,rfl,hS,hk,λh1=>?_,q2 xW};obtain⟨z,ws,rfl,rfl,hz⟩:=Eb xW;have jx:∃s,lu rs z=some s/\s≠[]:=by rw[vJ hz]at h1;have:=NR h1;cases e:lu rs z with|none=>rw[e]at this;exact absurd rfl this|some s=>rw[e]at this;exact⟨s,rfl,this⟩
 refine !{a,_,rfl,h.ins,rfl,_,rfl,a,F,cs,dl,rs,z,rfl,hS,jx,by lia,λS1 D_ V4=>?_};obtain⟨SM,lr1,ra1,GH,V5,QT⟩:=id D_;refine !{a,_,_,rfl,GH.ins,rfl,{rfl,_,GH.xS},_,rfl,_,rfl,qL,SM,dl,_,rfl,rfl,GH.xS,bg<|by lia,?_};have h2:=GH.xT<|.tup [.str "change",.str z,.tup ws];have hS2:bX t.aq (S1.set SM<|.lst<|dl++[.tup [.str "change",.str z,.tup ws]]) a F cs (dl++[.tup [.str "change",.str z,.tup ws]]) (qS rs z dl.length):=⟨SM,lr1,ra1,h2,V5,QT⟩;have hl:=IV D_ z;have rL:(qS rs z dl.length).length<=rs.length+1:=Mc _ _ _;refine !{a,_,rfl,h2.ins,rfl,_,rfl,_,rfl,a,F,cs,_,_,z,ws,rfl,hS2,by rw[zA];exact Nat.lt_succ_of_le hl,by rw[zA];show dl.length+1<=_;lia,by lia,λS' F' o_ hK=>fo<|q3 z ws rfl rfl xW h1 S' F' ?_ ?_};have:(dl++[D.tup [.str "change",.str z,.tup ws]]).length=dl.length+1:=zA;rw[this]at o_;exact o_;refine V4.trans<|Co.trans (qR ?_) hK;rw[V5];exact zh _ zj
inductive g8 (t:fA) (ds:δ D) (S:ak) (R:KD) (Z:KX):η where
 |mk (a F cs dl rs k) (h0:ds=[.ref a,k]) (h1:bX t.aq S a F cs dl rs) (h2:Gt S k) (h3:dl.length<=8000) (h4:ofStr kC k=false->False) (h5:(ofStr kC k=true->ag (AO rs k dl.length)=true->False)) (h6:(∀z,k=.str z->kC z=true->ag (AO rs k dl.length)=false->∀S',bX t.aq S' a F cs (dl++[.tup [.str "take",k]]) (qS rs z dl.length)->Co F F S S'->R .au S'))
theorem Md(T:Txt w K mg t):r_ P w mg base T.dO 6 (g8 t):=by
 refine T.dO.F.ck sD ?_;obtain⟨a,F,cs,dl,rs,k,e,hS,hk,hd,q1,q2,q3⟩;obtain⟨ld,lr,ra,h,hF,rM⟩:=id hS;refine{_,(sc (si (cY<|tv<|bp T.mP (jw T) hr<|ap 1 an) (s1 wD) s0)<|sc (se<|so (dv 0) T.ao T.b_ (ip T) hr<|ap 1 an)<|sc (se<|so (dv 0) T.ao T.cg (IW T) hr<|ap 1 an)<|s1<|se<|bm zQ yb yc cC (fl T.ao T.cD<|dv 0)<|ac (b9<|ac ds<|ap 1 an) an),?_};refine !{k,rfl,hk,_,rfl,?_};refine bQ (λh0=>?_) λh0=>?_;exact q1<|nt h0;have h0:=nf h0;refine !{a,_,rfl,h.ins,rfl,_,rfl,a,F,cs,dl,rs,k,rfl,hS,hk,λh1=>?_,q2 h0};obtain⟨z,rfl,hz⟩:=Ea h0;have jx:∃s,lu rs z=some s/\s≠[]:=by rw[vJ hz]at h1;have:=NR h1;cases e:lu rs z with|none=>rw[e]at this;exact absurd rfl this|some s=>rw[e]at this;exact⟨s,rfl,this⟩
 refine !{a,_,rfl,h.ins,rfl,_,rfl,a,F,cs,dl,rs,z,rfl,hS,jx,by lia,λS1 D_ V4=>?_};obtain⟨SM,lr1,ra1,GH,V5,QT⟩:=id D_;refine !{a,_,_,rfl,GH.ins,rfl,{rfl,_,GH.xS},_,rfl,cz,SM,dl,_,rfl,rfl,GH.xS,bg<|by lia,?_};refine fo<|q3 z rfl hz h1 _ {SM,lr1,ra1,GH.xT _,V5,QT}<|V4.trans<|qR ?_;rw[V5];exact zh _ zj
inductive gA (t:fA) (ds:δ D) (S:ak) (R:KD) (Z:KX):η where
 |mk (a cs) (h0:ds=[.ref a,.tup<|cs.map az]) (h1:Gd cs) (h2:S a=some (.ins t.aq [])) (h3:∀S' F,bX t.aq S' a F cs [] []->Co [a] F S S'->R .au S')
theorem Me(T:Txt w K mg t):r_ P w mg base T.fk 5 (gA t):=by
 refine T.fk.F.ck lK ?_;obtain⟨a,cs,e,hg,ha,q⟩;refine{_,(sc (se<|bp T.fY (m6 T) hr<|ap 1 an)<|sc (sf T.ao T.cJ (dv 0)<|dv 1)<|sc (sf T.ao T.cD (dv 0)<|b8 an)<|s1<|sf T.ao T.bM (dv 0) UL),?_};refine !{cs,rfl,hg,_,rfl,_,rfl,a,[],rfl,ha,(show 0<1000 by decide),?_};refine{kB,λld SN=>!{a,[("columns",.tup<|cs.map az)],rfl,?_,(show 1<1000 by decide),λlr rL=>!{a,[("columns",.tup<|cs.map az),("deeds",.ref ld)],rfl,?_,(show 2<1000 by decide),?_}}};have nl:a≠ld:=by rintro rfl;rw[aa]at SN;cases SN
 rw[ae nl,aa];rfl;have nl:a≠lr:=by rintro rfl;rw[aa]at rL;cases rL
 rw[ae nl,aa];rfl;have n1:a≠ld:=by rintro rfl;rw[aa]at SN;cases SN
 have n2:a≠lr:=by rintro rfl;rw[aa]at rL;cases rL
 have n3:ld≠lr:=by rintro rfl;rw[ae n1.symm,aa]at rL;cases rL
 rw[ae n1.symm]at SN;rw[ae n2.symm,ae n3.symm,ae n2.symm]at rL;refine fo<|q _ (fp a ld lr []) {ld,lr,[],{aa,?_,?_,λr hr=>(nomatch hr),List.nodup_nil,(by simp),λr hr=>(nomatch hr)},rfl,rfl} λb c hb e=>?_;rw[ae n1.symm,ae n3,ae n1.symm,aa];rw[ae n2.symm,aa];rfl;have b1:b≠a:=λz=>hb (by rw[z];exact zj);have b2:b≠ld:=gC e SN;have b3:b≠lr:=gC e rL;refine{λm=>?_,by rw[ae b1,ae b3,ae b1,ae b2,ae b1];exact e};unfold fp at m;simp only[yY,zk,zP,or_false]at m;rcases m with m|m|m;exact b1 m;exact b2 m;exact b3 m
noncomputable def vK(rs:lQ)(i:ν)(z:ρ):D:=.tup [.str z,wt ((lu rs z).getD []) i]
noncomputable def kD(rs:lQ)(i:ν)(ss:δ ρ):δ D:=(ss.filter λz=>!ag (wt ((lu rs z).getD []) i)).map<|vK rs i
noncomputable def vL:D->χ|.tup [_,x]=>!ag x|_=>false
theorem xX(ss:δ ρ):((ss.map<|vK rs i).filter vL).map id=kD rs i ss:=by unfold kD;rw[List.map_id,List.filter_map];rfl
inductive NS (C:ε) (ds:δ D) (S:ak) (R:KD) (Z:KX):η where
 |mk (a F cs dl rs m) (h0:ds=[.ref a,m]) (h1:bX C S a F cs dl rs) (h2:rs.length<64) (h3:Gt S m) (h4:(∀i ss,sG dl.length m=some i->ss.Perm (rs.map (·.1))->PyProof.Rows.sortedS ss=true->∀p,S p=none->R (.ref p) (S.set p<|.lst<|kD rs i ss))) (h5:sG dl.length m=none->False)
theorem FW(T:Txt w K mg t):r_ P w mg base T.gM 3 (NS t.aq):=by
 refine T.gM.F.ck eG ?_;obtain⟨a,F,cs,dl,rs,m,e,hS,hn,hm,q1,q2⟩;obtain⟨ld,lr,ra,h,hF,rM⟩:=id hS;have ek:(dA ra).map (·.1)=(rs.map (·.1)).map Sum.inr:=by rw[rM];unfold dA gy;rw[zq,zq,zq];rfl
 have el:(dA ra).length<64:=by rw[rM]at hn;unfold gy at hn;unfold dA;rw[za]at hn⊢;exact hn
 refine{_,(sc (bW (i:=2) eG.nd<|so (dv 0) T.ao T.cj (ik T) hr<|ap 1 an)<|sc (qr (N:=["key","then","self"]) (src:=[none,some 2,some 0]) 3 eG.nd (js<|inClass br 10) (il<|cb xg T.gs eR<|ac (fl T.ao T.bM<|dv 0) an) nK<|b9<|ap 0<|ac (bp T.fQ (jh T) hr<|ac (ix hr.u (fl T.ao T.bM<|dv 2)<|dv 0)<|ap 1 an) an)<|s1<|sr<|su (N:=["row"]) (src:=[none]) (js<|inClass br 10) (il<|dv 3) (if1<|aX mE hr.u (ix hr.u (dv 0) di) dn)<|dv 0),?_};refine !{a,_,rfl,h.ins,rfl,_,rfl,a,F,cs,dl,rs,m,rfl,hS,hm,λi hi=>?_,q2};refine !{a,_,_,rfl,h.ins,rfl,lr,dA ra,rs.map (·.1),rfl,h.run,ek,el,λss hp hs p m9=>?_};have hlen:ss.length<64:=by rw[hp.length_eq,za];exact hn
 refine{_,aa,?_};refine comp_map (λd=>match d with|.str z=>vK rs i z|_=>.au) aa (by show(ss.map D.str).length<=1000;rw[za];omega) (λd hd Q hQ=>?_) λp2 iy=>?_;obtain⟨z,hz,rfl⟩:=zg.mp hd;have Xa:z∈rs.map (·.1):=hp.mem_iff.mp hz;obtain⟨r,eP,e⟩:=zg.mp Xa;rw[rM]at eP;unfold gy at eP;obtain⟨r0,D7,rfl⟩:=zg.mp eP;have e1:rN ra z=some r0.2:=by cases e3:rN ra z with|none=>exact absurd e (lR e3 _ D7)|some x=>exact congrArg some<|congrArg Prod.snd<|gZ (f:=λr:ρ×ε×δ Std=>r.1) h.kn (cU (l:=x.1) (s:=x.2) e3) D7 e.symm
 have ed:bL (dA ra) (.inr z)=some (.ref r0.2.1):=by rw[gz,e1];rfl
 have hc:=h.cell _ D7;have eq:(lu rs z).getD []=r0.2.2:=by rw[rM,f_,e1];rfl
 have hQ:Q (.tup [.str z,wt ((lu rs z).getD []) i]) (S.set p<|.lst<|ss.map D.str):=hQ;rw[eq]at hQ;have hi1:(S.set p<|.lst<|ss.map D.str) a=_:=(ae<|gC h.ins m9).trans h.ins;have xW:(S.set p<|.lst<|ss.map D.str) lr=_:=(ae<|gC h.run m9).trans h.run;have XJ:(S.set p<|.lst<|ss.map D.str) r0.2.1=_:=(ae<|gC hc m9).trans hc;exact !!{a,_,_,rfl,hi1,rfl,_,rfl,dA ra,_,xW,ed,_,rfl,_,_,i,rfl,XJ,cz,hQ};have em:(ss.map D.str).map (λd=>match d with|.str z=>vK rs i z|_=>.au)=ss.map (vK rs i):=by rw[zq];rfl
 refine !{ss.map<|vK rs i,by show((S.set p _).set p2<|.lst<|(ss.map D.str).map _) p2=_;rw[aa,em],?_};refine df vL id (by show((S.set p _).set p2<|.lst<|(ss.map D.str).map _) p2=_;rw[aa,em]) (by show(ss.map<|vK rs i).length<=1000;rw[za];omega) (λd hd Q Q' hQ AQ=>?_) λp3 XM=>?_;obtain⟨z,hz,rfl⟩:=zg.mp hd;refine !!!⟨?_⟩;exact bQ (λh=>!⟨hQ h⟩) λh=>AQ h;have aaG:S p3=none:=by cases e:S p3 with|none=>rfl|some c=>exact absurd XM<|by rw[ae (gC e<|by have:(S.set p<|.lst<|ss.map D.str) p2=none:=iy;cases e':S p2 with|none=>rfl|some c'=>rw[ae<|gC e' m9,e']at this;cases this),ae<|gC e m9,e];exact nofun
 refine{S.set p3<|.lst<|kD rs i ss,λb c hb=>?_,q1 i ss hi hp hs p3 aaG};show((((S.set p<|.lst<|ss.map D.str).set p2 _).set p3<|.lst<|((ss.map<|vK rs i).filter vL).map id)) b=some c;rw[xX];by_cases hb3:b=p3;subst hb3;rw[aa]at hb⊢;exact hb;rw[ae hb3]at hb;have aaI:S p2=none:=by cases e':S p2 with|none=>rfl|some c'=>have:(S.set p<|.lst<|ss.map D.str) p2=none:=iy;rw[ae<|gC e' m9,e']at this;cases this
 rw[ae hb3,ae<|gC hb aaI,ae<|gC hb m9];exact hb
theorem FX{S:ak}{p:ε}{c:Ce}(h:S p=some c):S.set p c=S:=by funext b;by_cases e:b=p;subst e;rw[aa,h];rw[ae e]
theorem IX{S:ak}{p q:ε}{c e:Ce}(h:S q=none)(hn:p≠q):Sub (S.set p c) ((S.set q e).set p c):=λb x hb=>by by_cases V6:b=p;subst V6;rw[aa]at hb⊢;exact hb;rw[ae V6]at hb⊢;exact(Sub.new h) _ _ hb
theorem dpI:∀xs:δ ν,DpAll S (xs.map D.int) (xs.map PyData.int)/\PyData.canLayAll0 (xs.map PyData.int)=true/\PyData.depthAll (xs.map PyData.int)<=0|[]=>{by simp only[yY,DpAll],rfl,zY _}|x::xs=>by obtain⟨a,b,c⟩:=dpI (S:=S) xs;exact{by simp only[zw,DpAll];exact{_,_,rfl,by simp only[Dp],a},by simp only[zw,PyData.canLayAll0,PyData.canLay0,b,Bool.and_self],by simp only[zw,PyData.depthAll,PyData.depth];lia}
theorem Mf{S:ak}{a b:ε}{xs:δ ν}{R:KD}(e1:S a=some (.lst<|xs.map D.int))(e2:S b=some (.lst []))(q:R (.bl xs.isEmpty) S):Gy false (.ref a) (.ref b) S R:=by obtain⟨k1,k2,k3⟩:=dpI (S:=S) xs;refine{.list<|xs.map PyData.int,.list [],{_,_,e1,rfl,k1},{[],[],e2,rfl,by simp only[DpAll]},by simp only[PyData.canLay0];exact k2,by simp only[PyData.canLay0,PyData.canLayAll0],.inl<|by simp only[PyData.depth];lia,?_};rw[xz zd,show PyData.eqv (.list<|xs.map PyData.int) (.list [])=xs.isEmpty by cases xs<;>simp[PyData.eqv,PyData.eqvAll]];exact q
theorem Mg{k n:π}(h:k<n):seqIndex? ((k:π):ν) n=some k:=by have e:(if ((k:π):ν)<0 then ((k:π):ν)+(n:ν) else ((k:π):ν))=((k:π):ν):=xz (by lia);unfold seqIndex?;dsimp only;rw[e,xL<|by simp;lia];rfl
theorem lT{p:χ}{A B:η}(h:p=false)(q:B):if p=true then A else B:=by rw[h];exact bt q
theorem XN{p:χ}{A B:η}(h:p=true)(q:A):if p=true then A else B:=by rw[h];exact dX q
theorem cB{L:δ D}{S:ak}{p:ε}{n:ν}{R:KD}(h0:0<=n)(h1:n<(L.length:ν))(hp:S p=none)(q:∀d,d∈L->R d S):Zp p n (S.set p<|.lst L) λd S'=>Fo S' (R d):=by obtain⟨v,e1,e2⟩:=oY (l:=L) h0 h1;exact{L,v,aa,e1,S,.new hp,q v<|zH e2}
theorem xY{xs:δ ν}{i:ν}{P:ν->η}(h0:0<=i)(h1:i<((xs.map D.int).length:ν))(h:∀x∈xs,P x):∃x,iK (xs.map D.int) i=some (.int x)/\P x:=by obtain⟨d,e1,e2⟩:=oY (l:=xs.map D.int) h0 h1;obtain⟨x,hx,rfl⟩:=zg.mp<|zH e2;exact{x,e1,h x hx}
inductive nY (ds:δ D) (S:ak) (R:KD) (Z:KX):η where
 |mk (ns:δ ν) (k:π) (h0:ds=[.jD<|ns.map D.int,.int k]) (h1:∀c:ν,R (.int c) S)
theorem fu(T:Txt w K mg t):Ok P w base T.dN 1 nY:=by
 refine T.dN.F.ck vA ?_;obtain⟨ns,k,e,q⟩;refine{_,(sc (si (aX mC hr.u (dv 1)<|cb aZ T.aT aH<|ap 0 an) (s1<|sr<|ix hr.u (dv 0)<|dv 1) s0)<|s1<|sr di),?_};refine !!!!⟨?_⟩;refine bQ (λh=>?_) λh=>?_;have h:(k:ν)<(((ns.map D.int).length:π):ν):=zE h;have hk:k<ns.length:=by rw[za]at h;lia
 exact !!{.int ns[k],bE<|by rw[zp];simp[hk],fo<|q _};exact fo<|q 0
inductive Dv (S:ak) (c:ν) (n:π) (lf:ε) (ax:SD) (S':ak):η where
 |mk (r:ν) (xs:δ ν) (h0:ax=[some<|.int c,some<|.int (n:π),some<|.ref lf,some<|.int r,none,none]) (h1:S'=S.set lf (.lst<|xs.map D.int)) (h2:xs.length<=n) (h3:∀x∈xs,0<=x):Dv S c n lf ax S'
inductive Dw (S:ak) (c:ν) (n:π) (lf:ε) (m:π) (ax:SD) (S':ak):η where
 |mk (r:ν) (xs:δ ν) (h0:ax=[some<|.int c,some<|.int (n:π),some<|.ref lf,some<|.int r,none,none]) (h1:S'=S.set lf (.lst<|xs.map D.int)) (h2:xs.length+m=n) (h3:∀x∈xs,0<=x):Dw S c n lf m ax S'
inductive Dx (S:ak) (c:ν) (n:π) (lf:ε) (r:ν) (ax:SD) (S':ak):η where
 |mk (o4 o5:θ D) (xs:δ ν) (h0:ax=[some<|.int c,some<|.int (n:π),some<|.ref lf,some<|.int r,o4,o5]) (h1:S'=S.set lf (.lst<|xs.map D.int)) (h2:n<=xs.length) (h3:xs.length<=40) (h4:∀x∈xs,0<=x):Dx S c n lf r ax S'
inductive Dy (S:ak) (c:ν) (n:π) (lf:ε) (r:ν) (xl i:π) (ax:SD) (S':ak):η where
 |mk (nu:ν) (o5:θ D) (xs:δ ν) (h0:ax=[some<|.int c,some<|.int (n:π),some<|.ref lf,some<|.int r,some<|.int nu,o5]) (h1:0<=nu) (h2:nu<1000000000000048280) (h3:S'=S.set lf (.lst<|xs.map D.int)) (h4:xs.length=xl+(i-3)) (h5:∀x∈xs,0<=x):Dy S c n lf r xl i ax S'
inductive tZ (ds:δ D) (S:ak) (R:KD) (Z:KX):η where
 |mk (c:ν) (n:π) (h0:ds=[.int c,.int (n:π)]) (h1:n<=20) (h2:∀(xs:δ ν) p,xs.length=n->(∀x∈xs,0<=x)->S p=none->R (.ref p) (S.set p<|.lst<|xs.map D.int))
theorem lU(T:Txt w K mg t):Ok P w base T.jv 1 tZ:=by
 refine T.jv.F.ck cE ?_;obtain⟨c,n,e,hn,q⟩;refine{_,(sc (bW (i:=2) cE.nd<|b8 an)<|sc (bW (i:=3) cE.nd di)<|sc (nL<|si (aX Zn hr.u (dv 0)<|bo kX hr.u di di) (s1<|bW (i:=3) cE.nd<|bo tH hr.u (dv 0)<|bo kX hr.u di di) s0)<|sc (nL<|Xx (twd<|twand (aX mD hr.u (dv 3) di)<|tw1<|aX mC hr.u (cb aZ T.aT aH<|ap 2 an)<|dv 1)<|sc (se<|bm zQ yb yc cC (dv 2)<|ac (bo bz hr.u (dv 3)<|bo kX hr.u di di) an)<|s1<|bW (i:=3) cE.nd<|bo bS hr.u (dv 3)<|bo kX hr.u di di)<|sc (bW (i:=4) cE.nd<|bo aV hr.u (bo bz hr.u (dv 0)<|bo aV hr.u (bo kX hr.u di di) di) di)<|sc (nL<|HJ (Nq T.fO<|ac (bo aV hr.u (dv 1) di) an) (gn (i:=5) cE.nd)<|sc (bW (i:=4) cE.nd<|bo bz hr.u (bo aV hr.u (bo aV hr.u (bo qd hr.u (dv 4)<|dv 4)<|bo qd hr.u di<|dv 4)<|dv 5)<|bo aV hr.u (bo kX hr.u di di) di)<|s1<|si (aX mD hr.u (dv 5) di) (s1<|se<|bm zQ yb yc cC (dv 2)<|ac (bo bz hr.u (bo qd hr.u (dv 4)<|bo aV hr.u (bo bS hr.u (dv 4) di) di)<|bo aV hr.u (bo kX hr.u di di) di) an) s0)<|s1<|sr<|Qv (dv 2) o0<|o1<|dv 1),?_};refine{kB,λlf Mh=>?_};refine{λax S'=>∃r:ν,ax=[some<|.int c,some<|.int (n:π),some<|.ref lf,some<|.int r,none,none]/\S'=S.set lf (.lst []),?_,?_};refine{_,rfl,{by decide,by decide,by decide},_,rfl,bQ (λh=>?_) λh=>fo {0,rfl,rfl}};exact{_,rfl,{by decide,by decide,by decide},fo !⟨rfl⟩};rintro ax S' ⟨r,rfl,rfl⟩;refine{Dv S c n lf,?_,?_};refine{Dw S c n lf,{n,r,[],rfl,rfl,y6 _,λ_ h=>(nomatch h)},?_};rintro m ax S' ⟨r,xs,rfl,rfl,hl,hx⟩;have hS:(S.set lf<|.lst<|xs.map D.int) lf=some (.lst<|xs.map D.int):=aa;refine !!⟨bQ (λh1=>!!⟨.inl {_,hS,_,rfl,_,rfl,bQ (λh2=>?_) λh2=>?_}⟩) λh1=>bt<|fo {r,xs,rfl,rfl,by lia,hx}⟩;have h2:(((xs.map D.int).length:π):ν)<((n:π):ν):=zE h2;rw[za]at h2;refine{_,rfl,{rfl,_,hS},_,rfl,{by decide,by decide,by decide},by decide,lf,_,_,rfl,rfl,hS,bg<|by rw[za];lia,?_};refine{_,rfl,{by decide,by decide,by decide},{by decide,by trivial},m-1,by lia,_,xs++[r%10^(15:ν).toNat],rfl,?_,by rw[zA];show xs.length+1+_=_;lia,λx uw=>?_};rw[ba,zL];rfl;rcases zN.mp uw with h|h;exact hx x h;rw[zI.mp h];exact zR _ (by decide);exact fo {r,xs,rfl,rfl,by lia,hx};rintro ax S' ⟨r,xs,rfl,rfl,hl,hx⟩;have nb:∀z:ν,0<=z%1000000000000000009/\z%1000000000000000009<1000000000000000009:=λz=>{zR z<|by decide,zM z<|by decide};have e18:((10:ν)^(18:ν).toNat+9)=1000000000000000009:=by decide
 refine{_,rfl,{by decide,by decide,by decide},by decide,?_};refine{Dx S c n lf r,?_,?_};refine !{((n:π):ν)+3,rfl,by lia,by lia,?_};refine{Dy S c n lf r xs.length,?_,λ_ _ _ _=>trivial,?_,?_};have:=nb c;rw[e18];exact{_,none,xs,rfl,by lia,by lia,rfl,rfl,hx};rintro i d ax S' hd ⟨nu,o5,ys,rfl,n0,n1,rfl,hyl,hy⟩;have hd:(dJ 0 (((n:π):ν)+3).toNat)[i]?=some d:=hd;obtain⟨hi,rfl⟩:=cQ hd;refine !!{.inl {by lia,by lia},_,rfl,.inl {by decide,by decide},_,rfl,{by decide,by decide,by decide},by decide,?_};rw[e18];have b1:=nb<|nu*nu+48271*nu+(0+(i:π));generalize (nu*nu+48271*nu+(0+(i:π)))%1000000000000000009=nu2 at b1⊢;have hS:(S.set lf<|.lst<|ys.map D.int) lf=some (.lst<|ys.map D.int):=aa;refine !!⟨bQ (λh=>?_) λh=>?_⟩;have h:(2:ν)<0+((i:π):ν):=zE h;refine{_,rfl,{rfl,_,hS},_,rfl,_,rfl,{by decide,by trivial},.inl {by lia,by lia},{by decide,by decide,by decide},by decide,lf,_,_,rfl,rfl,hS,bg<|by rw[za];lia,?_};refine{nu2,_,ys++[nu2*(nu2/1009+69621)%(10^(18:ν).toNat+9)],rfl,by lia,by lia,?_,by rw[zA];show ys.length+1=_;lia,λx uw=>?_};rw[ba,zL];rfl;rcases zN.mp uw with h|h;exact hy x h;rw[zI.mp h];exact zR _ (by decide);have h:¬(2:ν)<0+((i:π):ν):=ye h;exact{nu2,_,ys,rfl,by lia,by lia,rfl,by lia,hy};rintro ax S' ⟨nu,o5,ys,rfl,_,_,rfl,hyl,hy⟩;rw[show({dJ 0 (((n:π):ν)+3).toNat,λ_=>True}:ke).xs.length=(((n:π):ν)+3).toNat from cq]at hyl;exact fo {_,_,ys,rfl,rfl,by lia,by lia,hy};rintro ax S' ⟨o4,o5,ys,rfl,rfl,HR,G0,hy⟩;refine !!!{_,aa,λp hp=>?_};have hp0:S p=none:=by rw[ae<|show p≠lf by rintro rfl;rw[aa]at hp;cases hp]at hp;exact hp
 have e:cN (ys.map D.int) none (some ((n:π):ν))=(ys.take n).map D.int:=by unfold cN;rw[HT.sIx_nat,HT.sIx_none,za,Nat.min_eq_left HR,List.drop_zero,Nat.sub_zero,List.map_take]
 rw[e];refine{_,λb x hb=>?_,q (ys.take n) p (by rw[yn];lia) (λx uw=>hy x<|List.mem_of_mem_take uw) hp0};by_cases V6:b=p;subst V6;rw[aa]at hb⊢;exact hb;rw[ae V6]at hb⊢;exact(Sub.new Mh) _ _ hb
inductive t5 (ds:δ D) (S:ak) (R:KD) (Z:KX):η where
 |mk (p:ε) (xs:δ ν) (h0:ds=[.ref p]) (h1:S p=some (.lst<|xs.map D.int)) (h2:xs.length<=20) (h3:∀x∈xs,0<=x) (h4:∀(x:ν)(ys:δ ν),0<=x->ys.length<=xs.length->(∀y∈ys,0<=y)->R (.int x) (S.set p<|.lst<|ys.map D.int))
theorem xZ(T:Txt w K mg t):Ok P w base T.pz 1 t5:=by refine T.pz.F.ck Cb ?_;obtain⟨p,xs,e,hp,hl,hx,q⟩;refine{_,(sc (si (aX aQ hr.u (dv 0)<|b8 an) (s1<|sr di) s0)<|s1<|sr<|bm zQ PySem.F.slot_list_pop PySem.F.type_list_pop Ls (dv 0)<|ac di an),?_};refine !{kB,λp2 iy=>Mf ((Sub.new iy) _ _ hp) aa !⟨?_⟩};cases xs with|nil=>refine XN rfl {S.set p<|.lst [],?_,q 3 [] (by decide) (zm _) λ_ h=>(nomatch h)};rw[FX<|show S p=some (.lst []) from hp];exact .new iy|cons x xs=>refine lT rfl !⟨{rfl,_,(Sub.new iy) _ _ hp},p,_,_,0,.int x,rfl,rfl,(Sub.new iy) _ _ hp,by decide,by decide,Mg (k:=0)<|by simp,rfl,?_⟩;refine{_,?_,q x xs (hx x zj) (by simp) λy hy=>hx y<|zh _ hy};exact IX iy λe=>by rw[e,iy]at hp;cases hp
noncomputable abbrev KW:δ Str:=["a","ab","b","abc","z","a1","b22","aa","m","m0","ba","zzzzzzzzz"]
noncomputable abbrev KU:δ Str:=["","0","b7","zz","9"]
noncomputable abbrev KS:δ Str:=KW.flatMap λa=>KU.map λb=>a++b
theorem gb:∀z∈KS,kC z=true/\z.cps.size<=12/\PyData.strOk z=true:=by trivial
theorem V7:∀a∈KW,∀b∈KU,a.length+b.length<=1000:=by trivial
noncomputable abbrev AR:δ Str:=["key","a","ab","at","up","mark","b","price"]
theorem IY:∀z∈AR,lL z=true/\PyData.strOk z=true:=by trivial
noncomputable abbrev WDS:δ Str:=["","a","ab","b","a b","B","~","=b"]
theorem QU:∀z∈WDS,nR z=true:=by trivial
noncomputable def bx:D->χ|.au=>true|.int _=>true|.str z=>ω (z.cps.size<=40)&&PyData.strOk z|_=>false
theorem eQ(h:bx d=true):d=.au\/(∃i,d=.int i)\/∃z,d=.str z:=by cases d<;>first|exact .inl rfl|exact .inr (.inl {_,rfl})|exact .inr (.inr {_,rfl})|cases h
def Vg(kind:ρ)(d:D):Prop:=gX kind d=true/\bx d=true
theorem Mi(h:nR z=true):bx (.str z)=true:=by unfold nR at h;rw[zJ,zZ]at h;show(ω (z.cps.size<=40)&&PyData.strOk z)=true;rw[h.1,yi];unfold PyData.strOk;rw[<-Array.all_toList,zZ];intro c hc;have:=h.2 c hc;unfold D5 at this;simp only[zJ,zK]at this⊢;lia
theorem QV{k:ρ}(h:k ="number")(i:ν):Vg k (.int i):={by rw[h];rfl,rfl}
theorem QW{k:ρ}(h:¬k ="number")(hz:nR z=true):Vg k (.str z):={by unfold gX;rw[xz h];exact hz,Mi hz}
theorem QX(k:ρ):Vg k .au:=⟨rfl,rfl⟩
inductive t6 (ds:δ D) (S:ak) (R:KD) (Z:KX):η where
 |mk (k:ρ) (x:ν) (h0:ds=[.str k,.int x]) (h1:∀d,Vg k d->R d S)
theorem x5(T:Txt w K mg t):Ok P w base T.pA 1 t6:=by refine T.pA.F.ck qI ?_;obtain⟨k,x,e,q⟩;refine{_,(sc (si (aX aQ hr.u (bo bz hr.u (dv 1) di) di) (s1<|sr dn) s0)<|sc (si (aX aQ hr.u (dv 0) ds) (sc (bW (i:=2) qI.nd<|bo qd hr.u (bo bz hr.u (bo bS hr.u (dv 1) di)<|bo kX hr.u di di)<|bo kX hr.u di di)<|s1<|sr<|wB<|ix hr.u (b8<|ac di<|ac di<|ac di<|ac di<|ac (Ff di)<|ac (Ff di)<|ap 2<|ac (bo tH hr.u di<|dv 2) an)<|bo bz hr.u (bo bS hr.u (dv 1) di) di) s0)<|s1<|sr<|wB<|ix hr.u (b8<|ac ds<|ac ds<|ac ds<|ac ds<|ac ds<|ac ds<|ac ds<|ac ds an)<|bo bz hr.u (bo bS hr.u (dv 1) di) di),?_};refine !{by decide,_,rfl,bQ (λ_=>fo<|q _<|QX k) λ_=>!!⟨?_⟩};have i0:0<=x/5%8:=zR _ (by decide);have i1:x/5%8<8:=zM _ (by decide);refine bQ (λh=>?_) λh=>?_;have h:k ="number":=zE h;have g0:0<=x/40%10^(15:ν).toNat:=zR _ (by decide);have g1:x/40%10^(15:ν).toNat<10^(15:ν).toNat:=zM _ (by decide);refine{_,rfl,{by decide,by trivial},{by decide,by decide,by decide},by decide,{by decide,by decide,by decide},.inl {Int.lt_of_lt_of_le (by decide) g0,Int.lt_trans g1<|by decide},?_};generalize x/40%10^(15:ν).toNat*10^(44:ν).toNat=gr;refine !!!!{FQ,λp hp=>!⟨{by decide,by trivial},by decide,cB i0 i1 hp λd hd=>?_⟩};have hd:d∈[D.int 0,.int 1,.int 2,.int 10,.int (-1),.int (-2),.int gr,.int<|0-gr]:=hd;simp only[zk,zP,or_false]at hd;rcases hd with rfl|rfl|rfl|rfl|rfl|rfl|rfl|rfl<;>exact fo (q _<|QV h _);refine{FQ,λp hp=>!⟨{by decide,by trivial},by decide,cB i0 i1 hp λd hd=>?_⟩};have hd:d∈WDS.map D.str:=hd;obtain⟨z,hz,rfl⟩:=zg.mp hd;exact fo<|q _<|QW (ye h)<|QU z hz
inductive Ec (ds:δ D) (S:ak) (R:KD) (Z:KX):η where
 |mk (x:ν) (h0:ds=[.int x]) (h1:∀z∈KS,R (.str z) S)
theorem IZ(T:Txt w K mg t):Ok P w base T.D1 1 Ec:=by
 refine T.D1.F.ck xQ ?_;obtain⟨x,e,q⟩;refine{_,(sc (bW (i:=1) xQ.nd<|wB<|ix hr.u (b8<|ac ds<|ac ds<|ac ds<|ac ds<|ac ds<|ac ds<|ac ds<|ac ds<|ac ds<|ac ds<|ac ds<|ac ds an)<|bo bz hr.u (dv 0) di)<|s1<|sr<|bo aV hr.u (dv 1)<|wB<|ix hr.u (b8<|ac ds<|ac ds<|ac ds<|ac ds<|ac ds<|ac ds<|ac ds<|ac ds an)<|bo bz hr.u (bo bS hr.u (dv 0) di) di),?_};refine{V3,λp hp=>!{by decide,cB (zR _<|by decide) (zM _<|by decide) hp λd hd=>?_}};have hd:d∈KW.map D.str:=hd;obtain⟨a,ha,rfl⟩:=zg.mp hd;refine !{FQ,λp hp=>!⟨{by decide,by trivial},by decide,cB (zR _<|by decide) (zM _<|by decide) hp λd hd=>?_⟩};obtain⟨b,hb,rfl⟩:∃b∈KU,d=.str b:=by have hd:d∈[D.str "",.str "",.str "",.str "",.str "0",.str "b7",.str "zz",.str "9"]:=hd;simp only[zk,zP,or_false]at hd;rcases hd with h|h|h|h|h|h|h|h<;>exact{_,by simp,h}
 exact{sm<|V7 a ha b hb,fo<|q _<|List.mem_flatMap.mpr {a,ha,zg.mpr ⟨b,hb,rfl⟩}}
theorem dh{α β:Type}{rel:α->β->η}{l:δ α}{m:δ β}(h:Paired rel l m):∀{i:π}{b:β},m[i]?=some b->∃a,l[i]?=some a/\rel a b:=by induction h with|nil=>intro i a h;simp at h|cons r t ih=>intro i a h;cases i with|zero=>(rw[List.getElem?_cons_zero]at h⊢;cases h;exact{_,rfl,r})|succ i=>rw[List.getElem?_cons_succ]at h⊢;exact ih h
theorem t9{α β:Type}{rel:α->β->η} : ∀{l:δ α}{m:δ β},m.length=l.length->(∀(i:π) a b,l[i]?=some a->m[i]?=some b->rel a b)->Paired rel l m|[],[],_,_=>.nil|a::l,b::m,h,k=>.cons (k 0 a b rfl rfl)<|t9 (by simpa using h) λi x y e1 e2=>k (i+1) x y (by rw[List.getElem?_cons_succ];exact e1)<|by rw[List.getElem?_cons_succ];exact e2
def Wg(cs:δ<|ρ×ρ)(ws:δ D):Prop:=Paired (λ(c:ρ×ρ) v=>Vg c.2 v) cs ws
noncomputable def qU(tr j:π):Str:=AR.getD ((tr+3*j)%8) ""
theorem I0:∀tr<8,∀i<9,((List.range i).map<|qU tr).Nodup:=by trivial
theorem QY(tr j:π):qU tr j∈AR:=by have:(tr+3*j)%8<8:=Nat.mod_lt _ (by decide);unfold qU;rw[zD,zf<|show(tr+3*j)%8<AR.length from this];exact List.getElem_mem _
theorem QZ(tr j:π):qU (tr%8) j=qU tr j:=by unfold qU;rw[show(tr%8+3*j)%8=(tr+3*j)%8 by lia]
def Cg(cs:δ<|ρ×ρ):Prop:=Gd cs/\∀c∈cs,c.1∈AR
inductive Nw (S:ak) (c:ν) (lx ln lf:ε) (m tr:π) (x0:ν) (i:π) (ax:SD) (S':ak):η where
 |mk (cs:δ<|ρ×ρ) (y2:ν) (o6:θ D) (h0:ax=[some<|.int c,some<|.ref lx,some<|.ref ln,some<|.int (m:π),some<|.ref lf,o6]) (h1:cs.map Prod.fst=(List.range i).map (qU tr)) (h2:(∀c∈cs,c.2 ="number"\/c.2 ="word")) (h3:S' lx=some (.lst<|[x0,((tr:π):ν),y2].map D.int)) (h4:S' ln=some (.lst<|AR.map D.str)) (h5:S' lf=some (.lst<|cs.map az)) (h6:Sub S S'):Nw S c lx ln lf m tr x0 i ax S'
inductive nZ (ds:δ D) (S:ak) (R:KD) (Z:KX):η where
 |mk (c:ν) (h0:ds=[.int c]) (h1:∀cs,Cg cs->R (.tup<|cs.map az) S)
theorem Cq(T:Txt w K mg t):Ok P w base T.mT 2 nZ:=by
 refine T.mT.F.ck cL ?_;obtain⟨c,e,q⟩;refine{_,(sc (bW (i:=1) cL.nd<|bp T.jv (lU T) hr<|ap 0<|ac di an)<|sc (bW (i:=2) cL.nd<|b8<|ac ds<|ac ds<|ac ds<|ac ds<|ac ds<|ac ds<|ac ds<|ac ds an)<|sc (bW (i:=3) cL.nd<|wB<|ix hr.u (b8<|ac di<|ac di<|ac di<|ac di<|ac di<|ac di<|ac di<|ac di an)<|bo bz hr.u (ix hr.u (dv 1) di) di)<|sc (bW (i:=4) cL.nd<|b8 an)<|sc (nL<|HJ (Nq T.fO<|ap 3 an) (gn (i:=5) cL.nd)<|sc (se<|bm zQ yb yc cC (dv 4)<|ac (b9<|ac (ix hr.u (dv 2)<|bo bz hr.u (bo aV hr.u (ix hr.u (dv 1) di)<|bo qd hr.u di<|dv 5) di)<|ac (wB<|ix hr.u (b8<|ac ds<|ac ds an)<|bo bz hr.u (ix hr.u (dv 1) di) di) an) an)<|s1<|sls (dv 1) di<|bo bS hr.u (ix hr.u (dv 1) di) di)<|s1<|sr<|ct gI T.bP bu<|ap 4 an),?_};refine !{c,3,rfl,by decide,λxs lx NT hx Bk=>?_};obtain⟨x0,x1,x2,rfl⟩:∃x0 x1 x2,xs=[x0,x1,x2]:=by match xs,NT with|[a,b,c],_=>exact⟨a,b,c,rfl⟩
 obtain⟨tr,rfl⟩:=Int.eq_ofNat_of_zero_le<|hx x1 (by simp);refine{FQ,λln Vl=>?_};have GC:((S.set lx<|.lst<|[x0,((tr:π):ν),x2].map D.int).set ln<|.lst<|AR.map D.str) lx=some (.lst<|[x0,((tr:π):ν),x2].map D.int):=(ae<|gC aa Vl).trans aa;have HR:((S.set lx<|.lst<|[x0,((tr:π):ν),x2].map D.int).set ln<|.lst<|AR.map D.str) ln=some (.lst<|AR.map D.str):=aa;have s1:=(Sub.new (c:=.lst<|[x0,((tr:π):ν),x2].map D.int) Bk).trans<|.new (c:=.lst<|AR.map D.str) Vl;have nxn:lx≠ln:=gC aa Vl;rw[show[D.str "key",.str "a",.str "ab",.str "at",.str "up",.str "mark",.str "b",.str "price"]=AR.map D.str from rfl];generalize (S.set lx<|.lst<|[x0,((tr:π):ν),x2].map D.int).set ln (.lst<|AR.map D.str)=S1 at GC HR s1⊢;refine{FQ,λp hp=>!{_,_,(Sub.new hp) _ _ GC,rfl,by decide,cB (zR _<|by decide) (zM _<|by decide) hp λd hd=>?_}};obtain⟨m,rfl,hm⟩:∃m:π,d=.int m/\m<=8:=by have hd:d∈[D.int 1,.int 2,.int 3,.int 0,.int 2,.int 1,.int 8,.int 3]:=hd;simp only[zk,zP,or_false]at hd;rcases hd with h|h|h|h|h|h|h|h;exact{1,h,by decide};exact{2,h,by decide};exact{3,h,by decide};exact{0,h,by decide};exact{2,h,by decide};exact{1,h,by decide};exact{8,h,by decide};exact{3,h,by decide}
 refine{kB,λlf Mh=>?_};have aeZ:S1 lx≠none:=by rw[GC];nofun
 have nxf:lx≠lf:=gC GC Mh;have nnf:ln≠lf:=gC HR Mh;have sz:=s1.trans<|Sub.new (c:=.lst []) Mh;have aaK:S lf=none:=by cases e:S lf with|none=>rfl|some z=>have:=s1 _ _ e;rw[Mh]at this;cases this
 refine{λax S'=>∃(cs:δ (ρ×ρ))(o6:θ D),ax=[some<|.int c,some<|.ref lx,some<|.ref ln,some<|.int (m:π),some<|.ref lf,o6]/\Cg cs/\S' lf=some (.lst<|cs.map az)/\Sub S S',?_,?_};refine !{((m:π):ν),rfl,by lia,by lia,?_};refine{Nw S c lx ln lf m tr x0,{[],x2,none,rfl,rfl,λ_ h=>(nomatch h),(ae nxf).trans GC,(ae nnf).trans HR,aa,sz},λ_ _ _ _=>trivial,?_,?_};rintro i d ax S' hd ⟨cs,y2,o6,rfl,hn,hk,hX,hN,hF,hs⟩;have hd:(dJ 0 ((m:π):ν).toNat)[i]?=some d:=hd;obtain⟨hi,rfl⟩:=cQ hd;have Bi:cs.length=i:=by have:=congrArg List.length hn;simpa using this
 have enm:iK (AR.map D.str) ((((tr:π):ν)+3*(0+((i:π):ν)))%8)=some (.str<|qU tr i):=by rw[show(((tr:π):ν)+3*(0+((i:π):ν)))%8=(((tr+3*i)%8:π):ν) by lia];have dr:(tr+3*i)%8<8:=Nat.mod_lt _ (by decide);refine bE ?_;rw[zp];unfold qU;rw[zD,zf<|show(tr+3*i)%8<AR.length from dr];rfl
 refine{_,rfl,{rfl,_,hF},_,rfl,_,rfl,_,_,hX,rfl,_,rfl,.inl {by decide,by decide},by decide,_,_,hN,enm,cz,λp hp=>!{_,_,(Sub.new hp) _ _ hX,rfl,by decide,cB (zR _<|by decide) (zM _<|by decide) hp λd hd=>?_}};obtain⟨kd,rfl,SO⟩:∃kd:ρ,d=.str kd/\(kd ="number"\/kd ="word"):=by have hd:d∈[D.str "number",.str "word"]:=hd;simp only[zk,zP,or_false]at hd;rcases hd with h|h;exact{_,h,.inl rfl};exact{_,h,.inr rfl}
 refine{cz,lf,_,_,rfl,rfl,hF,bg<|by rw[za];lia,?_};have I9:(S'.set lf<|.lst<|cs.map az++[.tup [.str<|qU tr i,.str kd]]) lx=some (.lst<|[x0,((tr:π):ν),y2].map D.int):=(ae nxf).trans hX;refine !{_,_,I9,rfl,{by decide,by trivial},_,rfl,lx,_,2,2,rfl,rfl,I9,rfl,?_};refine{cs++[(qU tr i,kd)],y2/2,_,rfl,?_,?_,aa,(ae nxn.symm).trans<|(ae nnf).trans hN,?_,λb x hb=>?_};rw[zL,hn,List.range_succ,zL];rfl;intro c hc;rcases zN.mp hc with h|h;exact hk c h;rw[zI.mp h];exact SO;rw[ae nxf.symm,aa,zL];rfl;have hbx:b≠lx:=gC hb Bk;rw[ae hbx,ae<|gC hb aaK];exact hs b x hb;rintro ax S' ⟨cs,y2,o6,rfl,hn,hk,hX,hN,hF,hs⟩;rw[show({dJ 0 ((m:π):ν).toNat,λ_=>True}:ke).xs.length=((m:π):ν).toNat from cq,show((m:π):ν).toNat=m by lia]at hn;have Bi:cs.length=m:=by have:=congrArg List.length hn;simpa using this
 have Hr:∀c∈cs,c.1∈AR:=λc hc=>by have:c.1∈cs.map Prod.fst:=zg.mpr ⟨c,hc,rfl⟩;rw[hn]at this;obtain⟨j,_,e⟩:=zg.mp this;rw[<-e];exact QY tr j
 have XO:(cs.map Prod.fst).Nodup:=by rw[hn,zW λj _=>(QZ tr j).symm];exact I0 (tr%8) (Nat.mod_lt _<|by decide) m<|by lia
 exact fo {cs,_,rfl,{{by lia,XO,λc hc=>{(IY _<|Hr c hc).1,hk c hc}},Hr},hF,hs};rintro ax S' ⟨cs,o6,rfl,hc,hF,hs⟩;exact !{_,_,rfl,.inl hF,S,hs,q cs hc}
inductive qW (ds:δ D) (S:ak) (R:KD) (Z:KX):η where
 |mk (cs:δ<|ρ×ρ) (l:ε) (xs:δ ν) (h0:ds=[.tup<|cs.map az,.ref l]) (h1:Gd cs) (h2:S l=some (.lst<|xs.map D.int)) (h3:cs.length<=xs.length) (h4:∀ws,Wg cs ws->R (.tup ws) S)
theorem FY(T:Txt w K mg t):Ok P w base T.qF 2 qW:=by
 refine T.qF.F.ck xR ?_;obtain⟨cs,l,xs,e,hg,hl,NT,q⟩;have h8:=hg.1;refine{_,(s1<|sr<|ct gI T.bP bu<|ac (su (N:=["_law_k","_law_xs","_law_columns_here"]) (src:=[none,some 1,some 0]) (js BX) (Nq T.fO<|ac (cb aZ T.aT aH<|ap 0 an) an) nK<|bp T.pA (x5 T) hr<|ac (ix hr.u (ix hr.u (dv 2)<|dv 0) di)<|ac (ix hr.u (dv 1)<|dv 0) an) an),?_};refine !!!{by rw[za];lia,by rw[za];lia,?_};rw[za];refine lM (λd v=>∃(j:π)(c:ρ×ρ),d=.int (0+(j:π))/\cs[j]?=some c/\Vg c.2 v) trivial (by show(dJ 0 _).length<=_;rw[cq];lia) (λd hd Q hQ=>?_) λout hp p m9=>?_;obtain⟨j,hj⟩:=yh hd;have hj:(dJ 0 ((cs.length:π):ν).toNat)[j]?=some d:=hj;obtain⟨hjn,rfl⟩:=cQ hj;have hjc:j<cs.length:=by lia
 have ec:=zf hjc;generalize cs[j]=c at ec;have ex:(xs.map D.int)[j]?=some (.int<|xs[j]'(by lia)):=by rw[zp,zf<|show j<xs.length by lia];rfl
 generalize xs[j]'_=x at ex;have ej:(0:ν)+((j:π):ν)=((j:π):ν):=Int.zero_add _;refine !!{az c,by rw[ej];exact bE<|by rw[zp,ec];rfl,_,rfl,_,rfl,_,rfl,_,_,hl,by rw[ej];exact bE ex,c.2,x,rfl,λv hv=>hQ v ⟨j,c,rfl,ec,hv⟩};have hw:Wg cs out:=by have hlen:=y0 hp;rw[show({dJ 0 ((cs.length:π):ν).toNat,λ_=>True}:ke).xs=dJ 0 ((cs.length:π):ν).toNat from rfl,cq]at hlen;refine t9 (by lia) λj c v ec ev=>?_;obtain⟨d,hd,j',c',e1,e2,hv⟩:=dh hp ev;have hd:(dJ 0 ((cs.length:π):ν).toNat)[j]?=some d:=hd;obtain⟨_,e3⟩:=cQ hd;rw[e3]at e1;have e1:(0:ν)+((j:π):ν)=0+((j':π):ν):=D.int.inj e1;obtain rfl:j=j':=(by lia);rw[ec]at e2;cases e2;exact hv
 exact{_,out,rfl,.inl aa,S,.new m9,q out hw}
abbrev Kn:=δ<|ρ×δ D
noncomputable def dD(kn:Kn):δ (Key×D):=kn.map λr=>(Sum.inr r.1,D.tup r.2)
noncomputable def dk(kn:Kn)(z:ρ):θ (δ D):=(kn.find? λr=>ω<|r.1=z).map (·.2)
structure KI(cs:δ (ρ×ρ))(kn:Kn):η where
 nd:(kn.map (·.1)).Nodup
 ok:∀r∈kn,r.1∈KS/\Wg cs r.2
theorem bD:dk (r::kn) k=if r.1=k then some r.2 else dk kn k:=by unfold dk;rw[yd];by_cases h:r.1=k;rw[zu h,xL h];rfl;rw[zy h,xz h]
theorem qX(kn:Kn)(k:ρ):bL (dD kn) (.inr k)=(dk kn k).map D.tup:=by induction kn with|nil=>rfl|cons r kn ih=>rw[bD];unfold bL dD at *;rw[zw,yd];by_cases h:r.1=k;have:ω ((Sum.inr r.1:Key)=.inr k)=true:=zu (by rw[h]);dsimp only;rw[this,xL h];rfl;have:ω ((Sum.inr r.1:Key)=.inr k)=false:=zy λe=>h<|yN e;dsimp only;rw[this,xz h];exact ih
theorem fS(h:dk kn k=some ws):(k,ws)∈kn:=by induction kn with|nil=>(cases h)|cons r kn ih=>rw[bD]at h;by_cases hk:r.1=k;rw[xL hk]at h;cases h;rw[<-hk];exact zj;rw[xz hk]at h;exact zh _<|ih h
theorem jk(h:k∈kn.map (·.1)):∃ws,dk kn k=some ws:=by induction kn with|nil=>(cases h)|cons r kn ih=>rw[bD];by_cases hk:r.1=k;exact{r.2,xL hk};rw[xz hk];rw[zw]at h;rcases zk.mp h with e|h;exact absurd e.symm hk;exact ih h
theorem sub_len[DecidableEq α]:∀{l m:δ α},l.Nodup->(∀x∈l,x∈m)->l.length<=m.length|[],m,_,_=>zY _|a::l,m,nd,h=>by obtain⟨n1,n2⟩:=yf.mp nd;have h1:=sub_len (m:=m.erase a) n2 λx hx=>(List.mem_erase_of_ne λe=>n1<|by rw[<-e];exact hx).mpr<|h x<|zh _ hx;have h2:=List.length_erase_of_mem<|h a zj;have h3:0<m.length:=List.length_pos_of_mem<|h a zj;rw[zO];omega
theorem KI.len(h:KI cs kn):kn.length<=60:=by
 have:=sub_len h.nd (m:=KS) λx hx=>by obtain⟨r,hr,rfl⟩:=zg.mp hx;exact(h.ok r hr).1
 rw[za]at this;exact zG this<|by trivial
noncomputable def oI(kn:Kn)(z:ρ)(ws:δ D):Kn:=if (dk kn z).isSome then kn.map λr=>if r.1=z then (r.1,ws) else r else kn++[(z,ws)]
noncomputable def vM(kn:Kn)(z:ρ):Kn:=kn.filter λr=>ω<|r.1≠z
theorem I_(kn:Kn)(z:ρ)(ws:δ D):dput (dD kn) (.inr z) (.tup ws)=dD (oI kn z ws):=by
 unfold dput oI;have e:((dD kn).any λkv=>ω<|kv.1=.inr z)=(dk kn z).isSome:=by induction kn with|nil=>rfl|cons r kn ih=>unfold dD at *;rw[zw,yP,ih,bD];by_cases h:r.1=z;rw[xL h,zu<|by rw[h],Bool.true_or];rfl;rw[xz h,zy λe=>h<|yN e,y1]
 rw[e];split;unfold dD;rw[zq,zq];refine zW λr _=>?_;dsimp only[Function.comp];by_cases h:r.1=z;rw[xL h,xL<|by rw[h]];rw[xz h,xz λe=>h<|yN e];unfold dD;rw[zL];rfl
theorem Q0(kn:Kn)(z:ρ):w9 (dD kn) (.inr z)=dD (vM kn z):=by unfold w9 vM dD;rw[List.filter_map];congr 1;refine List.filter_congr λr _=>?_;dsimp only[Function.comp];rw[decide_eq_decide];exact{λh e=>h<|by rw[e],λh e=>h<|yN e}
theorem Ed:dk (oI kn z ws) k=if k=z then some ws else dk kn k:=by
 unfold oI;by_cases hs:(dk kn z).isSome=true;rw[xL hs];by_cases hk:k=z;subst hk;rw[xL rfl];induction kn with|nil=>(cases hs)|cons r rs ih=>rw[zw,bD];by_cases h:r.1=k;rw[xL h,xL h];rw[xz h,xz h];rw[bD,xz h]at hs;exact ih hs
 rw[xz hk];clear hs;induction kn with|nil=>rfl|cons r rs ih=>rw[zw,bD,bD,ih];by_cases h:r.1=z;rw[xL h,xz<|show ¬r.1=k from λe=>hk<|e.symm.trans h,xz<|show ¬r.1=k from λe=>hk<|e.symm.trans h];rw[xz h]
 rw[xz hs];have hn:dk kn z=none:=by cases e:dk kn z<;>simp_all
 clear hs;induction kn with|nil=>rw[List.nil_append,bD];by_cases hk:k=z;rw[xL hk,xL hk.symm];rw[xz hk,xz λe=>hk e.symm]|cons r rs ih=>rw[bD]at hn;by_cases h:r.1=z;rw[xL h]at hn;cases hn;rw[xz h]at hn;rw[List.cons_append,bD,bD,ih hn];by_cases h2:r.1=k;rw[xL h2,xL h2,xz<|show ¬k=z from λe=>h<|h2.trans e];rw[xz h2,xz h2]
theorem Ee:dk (vM kn z) k=if k=z then none else dk kn k:=by unfold vM;induction kn with|nil=>(split<;>rfl)|cons r kn ih=>rw[List.filter_cons,bD];by_cases h:r.1=z;rw[xz<|by simp[h],ih];by_cases hk:k=z;rw[xL hk,xL hk];rw[xz hk,xz hk,xz<|show ¬r.1=k from λe=>hk<|e.symm.trans h];rw[xL<|by simp[h],bD,ih];by_cases hk:k=z;rw[xL hk,xL hk,xz<|show ¬r.1=k from λe=>h<|e.trans hk];rw[xz hk,xz hk]
theorem KI.put(h:KI cs kn)(hz:z∈KS)(hw:Wg cs ws):KI cs (oI kn z ws):=by
 unfold oI;split;refine{?_,λr hr=>?_};have:(kn.map λr=>if r.1=z then (r.1,ws) else r).map (·.1)=kn.map (·.1):=by rw[zq];exact zW λr _=>by dsimp only[Function.comp];split<;>rfl
 rw[this];exact h.nd;obtain⟨r0,D7,e⟩:=zg.mp hr;by_cases q:r0.1=z;rw[xL q]at e;subst e;exact{(h.ok r0 D7).1,hw};rw[xz q]at e;subst e;exact h.ok r0 D7;rename_i hs;refine{?_,λr hr=>?_};rw[zL];refine oW h.nd λm=>hs ?_;obtain⟨XQ,e⟩:=jk m;show(dk kn z).isSome=true;rw[show dk kn z=some XQ from e];rfl;rcases zN.mp hr with hr|hr;exact h.ok r hr;rw[zI.mp hr];exact⟨hz,hw⟩
theorem KI.del(h:KI cs kn)(z:ρ):KI cs (vM kn z):={(List.Sublist.map _ yJ).nodup h.nd,λr hr=>h.ok r (yp.mp hr).1}
def GD(ks:δ ρ)(cs:δ<|ρ×ρ)(kn:Kn)(d:D):Prop:=(∃z ws,z∈ks/\Wg cs ws/\dk kn z=none/\d=.tup [.str "put",.str z,.tup ws])\/(∃z ws,z∈KS/\Wg cs ws/\(dk kn z).isSome=true/\d=.tup [.str "change",.str z,.tup ws])\/∃z,z∈KS/\(dk kn z).isSome=true/\d=.tup [.str "take",.str z]
def Ly(S:ak)(n:π)(d:D):Prop:=∃p,Dp S d p/\p.canLay0=true/\p.depth<=n
theorem Ly.all:∀{ds:δ D},(∀d∈ds,Ly S n d)->∃ps:δ PyData,DpAll S ds ps/\PyData.canLayAll0 ps=true/\PyData.depthAll ps<=n/\ps.length=ds.length|[],_=>{[],by simp only[DpAll],rfl,zY _,rfl}|d::ds,h=>by obtain⟨p,h1,h2,h3⟩:=h d zj;obtain⟨ps,k1,k2,k3,k4⟩:=Ly.all λx hx=>h x<|zh _ hx;refine{p::ps,by simp only[DpAll];exact⟨p,ps,rfl,h1,k1⟩,by simp only[PyData.canLayAll0,h2,k2,Bool.and_self],by simp only[PyData.depthAll];lia,by rw[zO,zO,k4]}
theorem Ly.tup{S:ak}{n:π}{ds:δ D}(h:∀d∈ds,Ly S n d):Ly S (n+1) (.tup ds):=by obtain⟨ps,k1,k2,k3,_⟩:=Ly.all h;exact{.tuple ps,by simp only[Dp];exact⟨ps,rfl,k1⟩,by simp only[PyData.canLay0];exact k2,by simp only[PyData.depth];lia}
theorem Ly.str(h:PyData.strOk z=true):Ly S 0 (.str z):={.str z,by simp only[Dp],by simp only[PyData.canLay0];exact h,by simp only[PyData.depth];lia}
theorem Ly.le(h:Ly S n d)(l:n<=m):Ly S m d:=by obtain⟨p,a,b,c⟩:=h;exact{p,a,b,zG c l}
theorem Ly.au:Ly S 0 .au:={.none,by simp only[Dp],by simp only[PyData.canLay0],by simp only[PyData.depth];lia}
theorem Ly.plain(h:bx d=true):Ly S 0 d:=by cases d with|au=>exact Ly.au|int i=>exact{.int i,by simp only[Dp],by simp only[PyData.canLay0],by simp only[PyData.depth];lia}|str z=>have h:(ω (z.cps.size<=40)&&PyData.strOk z)=true:=h;rw[zJ]at h;exact Ly.str h.2|_=>cases h
theorem x6(ps:δ PyData):PyData.eqv (.list ps) (.list [])=ps.isEmpty:=by cases ps<;>simp[PyData.eqv,PyData.eqvAll]
theorem Ja(ps:δ PyData):PyData.eqv (.tuple ps) (.tuple [])=ps.isEmpty:=by cases ps<;>simp[PyData.eqv,PyData.eqvAll]
theorem eq_nil{S:ak}{a b:ε}{ds:δ D}{R:KD}(e1:S a=some (.lst ds))(e2:S b=some (.lst []))(h:∀d∈ds,Ly S 60 d)(q:R (.bl ds.isEmpty) S):Gy false (.ref a) (.ref b) S R:=by obtain⟨ps,k1,k2,k3,k4⟩:=Ly.all h;refine{.list ps,.list [],⟨ds,ps,e1,rfl,k1⟩,{[],[],e2,rfl,by simp only[DpAll]},by simp only[PyData.canLay0];exact k2,by simp only[PyData.canLay0,PyData.canLayAll0],.inl<|by simp only[PyData.depth];lia,?_};rw[xz zd,x6,show ps.isEmpty=ds.isEmpty by cases ps<;>cases ds<;>first|rfl|cases k4];exact q
theorem Mj{S:ak}{ds:δ D}{R:KD}(h:∀d∈ds,Ly S 60 d)(q:R (.bl ds.isEmpty) S):Gy false (.tup ds) (.tup []) S R:=by obtain⟨ps,k1,k2,k3,k4⟩:=Ly.all h;refine{.tuple ps,.tuple [],by simp only[Dl,Dp];exact⟨ps,rfl,k1⟩,by simp only[Dl,Dp];exact{[],rfl,by simp only[DpAll]},by simp only[PyData.canLay0];exact k2,by simp only[PyData.canLay0,PyData.canLayAll0],.inl<|by simp only[PyData.depth];lia,?_};rw[xz zd,Ja,show ps.isEmpty=ds.isEmpty by cases ps<;>cases ds<;>first|rfl|cases k4];exact q
theorem Wg.all(h:Wg cs ws):∀d∈ws,bx d=true:=by unfold Wg at h;induction h with|nil=>exact λ_ h=>(nomatch h)|cons r t ih=>intro d hd;rcases zk.mp hd with e|hd;rw[e];exact r.2;exact ih d hd
theorem Wg.ly{cs:δ<|ρ×ρ}{ws:δ D}(h:Wg cs ws){S:ak} : Ly S 1 (.tup ws):=Ly.tup λd hd=>Ly.plain<|h.all d hd
def Mo(sp:qh):qh:=λds S R Z=>∃R0 Z0,sp ds S R0 Z0/\(∀d S',R0 d S'->R d S')/\∀C S',Z0 C S'->Z C S'
theorem Q1(F:bK P w K mg base (fF P w mg) k f fd ps<|rK K sp):bK P w K mg base (fF P w mg) k f fd ps (rK K<|Mo sp):=F.imp<|by rintro vs H Q E ⟨ds,S,R,Z,v,hS,⟨R0,Z0,h,h1,h2⟩,hR,hZ⟩;exact{ds,S,R0,Z0,v,hS,h,λd S' u H' r=>hR d S' u H'<|h1 _ _ r,λC S' H' z=>hZ C S' H'<|h2 _ _ z}
abbrev NU:=jj
abbrev x8:=ft
abbrev Jb:=g8
def V8(kn:Kn)(d:D)(iF:Kn):Prop:=(∃(n:ρ) (z:ρ) (ws:δ D),(n ="put"\/n ="change")/\d=.tup [.str n,.str z,.tup ws]/\iF=oI kn z ws)\/∃z,(dk kn z).isSome=true/\d=.tup [.str "take",.str z]/\iF=vM kn z
inductive Cr (t:fA) (ds:δ D) (S:ak) (R:KD) (Z:KX):η where
 |mk (a fs) (h0:S a=some (.ins t.aq fs)) (h1:fs.map Prod.fst=(["columns","deeds","runs"]:δ ρ)) (h2:((∃k v,ds=[.ref a,.tup [.str "put",k,v]]/\NU t [.ref a,k,v] S R Z)\/(∃k v,ds=[.ref a,.tup [.str "change",k,v]]/\x8 t [.ref a,k,v] S R Z)\/∃k,ds=[.ref a,.tup [.str "take",k]]/\Jb t [.ref a,k] S R Z))
theorem lk0:∀{fs:δ (ρ×D)},m∉fs.map Prod.fst->fs.lookup m=none|[],_=>rfl| (a,b)::fs,h=>by rw[zw,zk]at h;rw[yg,show(m==a)=false from beq_false_of_ne λe=>h<|.inl e];exact lk0 λq=>h<|.inr q
theorem lk3{fs:δ<|ρ×D}(h:fs.map Prod.fst=(["columns","deeds","runs"]:δ ρ)){m:ρ}(hm:m∉(["columns","deeds","runs"]:δ ρ)):fs.lookup m=none:=lk0<|by rw[h];exact hm
def NV(t:fA):qh:=λds S R Z=>Cr t ds S (λ_=>R .au) Z
theorem Ef(T:Txt w K mg t):Ok P w base T.mU 7 (NV t):=by have jl:r_ P w mg base T.eS 6 (Mo<|NU t):=Q1<|QS T;have fw:r_ P w mg base T.cK 6 (Mo<|x8 t):=Q1<|FV T;have g9:r_ P w mg base T.dO 6 (Mo<|Jb t):=Q1<|Md T;refine T.mU.F.ok FN (λds S R Z ⟨_,_,_,_,h⟩=>by rcases h with⟨_,_,e,_⟩|⟨_,_,e,_⟩|⟨_,e,_⟩<;>rw[e]<;>rfl) λfJ A outer s H E ds S R Z hr ⟨a,fs,ha,hf,h⟩=>?_;rcases h with⟨k,v,e,h⟩|⟨k,v,e,h⟩|⟨k,e,h⟩;subst e;refine{_,(s1<|si (aX aQ hr.u (ix hr.u (dv 1) di) ds) (s1<|se<|so (dv 0) T.ao T.eS jl hr<|ac (ix hr.u (dv 1) di)<|ac (ix hr.u (dv 1) di) an)<|s1<|si (aX aQ hr.u (ix hr.u (dv 1) di) ds) (s1<|se<|so (dv 0) T.ao T.cK fw hr<|ac (ix hr.u (dv 1) di)<|ac (ix hr.u (dv 1) di) an)<|s1<|se<|so (dv 0) T.ao T.dO g9 hr<|ac (ix hr.u (dv 1) di) an),?_};refine !!!⟨?_⟩;refine bQ (λ_=>?_) λh=>absurd h (by decide);exact !{a,_,rfl,ha,lk3 hf<|by decide,_,rfl,_,rfl,_,rfl,_,rfl,_,Z,h,λd S' r=>fo r,λC S' z=>fo z};subst e;refine{_,(s1<|si (aX aQ hr.u (ix hr.u (dv 1) di) ds) (s1<|se<|so (dv 0) T.ao T.eS jl hr<|ac (ix hr.u (dv 1) di)<|ac (ix hr.u (dv 1) di) an)<|s1<|si (aX aQ hr.u (ix hr.u (dv 1) di) ds) (s1<|se<|so (dv 0) T.ao T.cK fw hr<|ac (ix hr.u (dv 1) di)<|ac (ix hr.u (dv 1) di) an)<|s1<|se<|so (dv 0) T.ao T.dO g9 hr<|ac (ix hr.u (dv 1) di) an),?_};refine !!!⟨?_⟩;refine bQ (λh=>absurd h<|by decide) λ_=>?_;refine !!!⟨?_⟩;refine bQ (λ_=>?_) λh=>absurd h (by decide);exact !{a,_,rfl,ha,lk3 hf<|by decide,_,rfl,_,rfl,_,rfl,_,rfl,_,Z,h,λd S' r=>fo r,λC S' z=>fo z};subst e;refine{_,(s1<|si (aX aQ hr.u (ix hr.u (dv 1) di) ds) (s1<|se<|so (dv 0) T.ao T.eS jl hr<|ac (ix hr.u (dv 1) di)<|ac (ix hr.u (dv 1) di) an)<|s1<|si (aX aQ hr.u (ix hr.u (dv 1) di) ds) (s1<|se<|so (dv 0) T.ao T.cK fw hr<|ac (ix hr.u (dv 1) di)<|ac (ix hr.u (dv 1) di) an)<|s1<|se<|so (dv 0) T.ao T.dO g9 hr<|ac (ix hr.u (dv 1) di) an),?_};refine !!!⟨?_⟩;refine bQ (λh=>absurd h<|by decide) λ_=>?_;refine !!!⟨?_⟩;refine bQ (λh=>absurd h<|by decide) λ_=>?_;exact !{a,_,rfl,ha,lk3 hf<|by decide,_,rfl,_,rfl,_,Z,h,λd S' r=>fo r,λC S' z=>fo z}
noncomputable def p3(p:ρ×ρ×ρ):D:=.tup [.str p.1,.str p.2.1,.str p.2.2]
noncomputable def m_(z:ρ):Bool:=ω (z ="up")||ω (z ="down")
noncomputable def Jc(z:ρ):Bool:=ω (z ="first")||ω (z ="last")
theorem NW(z a b:ρ)(x y:V):(([(a,x),(b,y)]:δ (ρ×V)).lookup z).isSome=(ω (z=a)||ω (z=b)):=by rw[yg,yg];by_cases h:z=a;rw[show(z==a)=true by simp[h],zu h];rfl;rw[show(z==a)=false by simp[h],zy h];by_cases h2:z=b;rw[show(z==b)=true by simp[h2],zu h2];rfl;rw[show(z==b)=false by simp[h2],zy h2];rfl
noncomputable def Eg(cs:δ<|ρ×ρ)(p:ρ×ρ×ρ):Bool:=ω (p.1∈cs.map Prod.fst)&&(m_ p.2.1&&Jc p.2.2)
noncomputable def Jd(cs:δ<|ρ×ρ)(ps:δ<|ρ×ρ×ρ)(wy:ρ):Bool:=ω (ps.length<=8)&&(ps.all (Eg cs)&&(ω ((ps.map Prod.fst).Nodup)&&m_ wy))
theorem lV(l:δ<|ρ×D)(z:ρ)(h:bL (eX l) (.inr z)=some d):∃p∈l,p.1=z/\d=p.2:=by
 have all:∀(l:δ (ρ×D))(c:δ (Key×D)),bL (l.foldl (λc p=>dput c (.inr p.1) p.2) c) (.inr z)=some d->(∃p∈l,p.1=z/\d=p.2)\/bL c (.inr z)=some d:=by intro l;induction l with|nil=>intro c h;exact .inr h|cons p l ih=>intro c h;rcases ih _ h with⟨q,hq,e⟩|h;exact .inl {q,zh _ hq,e};rw[qk]at h;by_cases e:(.inr z:Key)=.inr p.1;rw[xL e]at h;exact .inl {p,zj,(yN e).symm,(zS h).symm};rw[xz e]at h;exact .inr h
 rcases all l [] h with h|h;exact h;cases h
def Pok(p:ρ×ρ×ρ):Prop:=p.1.cps.size<=1000/\p.2.1.cps.size<=1000/\p.2.2.cps.size<=1000
inductive x9 (ds:δ D) (S:ak) (R:KD) (Z:KX):η where
 |mk (z) (h0:ds=[.str z]) (h1:R (.bl<|m_ z) S)
theorem t_(T:Txt w K mg t):Ok P w base T.vd 1 x9:=by refine T.vd.F.ck FK ?_;obtain⟨z,e,q⟩;refine{_,(s1<|sr<|p_ (cb dE T.aD ay<|ap 0<|ac (wz T.qB j_) an)<|Hz<|cmk T.xJ (dv 0)<|dg (v:=.ref t.iW) T.u6 rfl λ_=>iO _),?_};refine !{_,_,_,_,rfl,cS,rfl,_,rfl,dX !{z,rfl,rfl,?_}};rw[NW];exact fo q
inductive x_ (ds:δ D) (S:ak) (R:KD) (Z:KX):η where
 |mk (z) (h0:ds=[.str z]) (h1:R (.bl<|Jc z) S)
theorem FZ(T:Txt w K mg t):Ok P w base T.B5 1 x_:=by refine T.B5.F.ck FL ?_;obtain⟨z,e,q⟩;refine{_,(s1<|sr<|p_ (cb dE T.aD ay<|ap 0<|ac (wz T.qB j_) an)<|Hz<|cmk T.xK (dv 0)<|dg (v:=.ref t.iX) T.u7 rfl λ_=>iO _),?_};refine !{_,_,_,_,rfl,cS,rfl,_,rfl,dX !{z,rfl,rfl,?_}};rw[NW];exact fo q
inductive lW (ds:δ D) (S:ak) (R:KD) (Z:KX):η where
 |mk (cs z) (h0:ds=[.tup<|cs.map az,.str z]) (h1:Gd cs) (h2:z.cps.size<=1000) (h3:(∀k,(z,k)∈cs->R (.str k) S)) (h4:(z∉cs.map Prod.fst->R .au S))
theorem jW(T:Txt w K mg t):Ok P w base T.fe 3 lW:=by
 refine T.fe.F.ck sy ?_;obtain⟨cs,z,e,hg,hz,q1,q2⟩;refine{_,(sc (si (cY<|tv<|bp T.pq (qO T) hr<|ap 1 an) (s1<|sr dn) s0)<|s1<|sr<|mg1 hr.u (ct uZ T.B4 uG<|ap 0 an)<|dv 1),?_};refine !{.str z,rfl,gt_str hz,_,rfl,?_};refine bQ (λh=>?_) λh=>?_;have h:lL z=false:=nt h;refine fo<|q2 λm=>?_;obtain⟨c,hc,rfl⟩:=zg.mp m;rw[(hg.2.2 c hc).1]at h;cases h;have ek:cs.map az=(cs.map λc=>(c.1,D.str c.2)).map qj:=by rw[zq];rfl
 refine !{_,(cs.map λc=>(c.1,D.str c.2)),rfl,.inl<|by rw[ek],λp hp=>{p,_,rfl,aa,_,rfl,_,.inr z,aa,rfl,S,.new hp,?_}};have h1:=tM (cs.map λc=>(c.1,D.str c.2)) z;cases q3:bL (eX<|cs.map λc=>(c.1,D.str c.2)) (.inr z) with|none=>(rw[q3]at h1;refine q2 λm=>?_;obtain⟨c,hc,e⟩:=zg.mp m;have:(cs.map λc=>(c.1,D.str c.2)).any (λp=>ω<|p.1=z)=true:=yx.mpr {_,zg.mpr ⟨c,hc,rfl⟩,zu e};rw[this]at h1;cases h1)|some d=>obtain⟨p,hp,e1,rfl⟩:=lV _ _ q3;obtain⟨c,hc,rfl⟩:=zg.mp hp;have e1:c.1=z:=e1;exact q1 c.2<|by rw[<-e1];exact hc
inductive ua (ds:δ D) (S:ak) (R:KD) (Z:KX):η where
 |mk (cs p) (h0:ds=[.tup<|cs.map az,p3 p]) (h1:Gd cs) (h2:Pok p) (h3:R (.bl<|Eg cs p) S)
theorem Cs(T:Txt w K mg t):Ok P w base T.ve 4 ua:=by
 have vN:Ok P w base T.fe 3 (λds S R _=>∃cs z,ds=[.tup<|cs.map az,.str z]/\Gd cs/\z.cps.size<=1000/\∀d,ag d=!decide (z∈cs.map Prod.fst)->R d S):=(jW T).Qb <| by rintro ds S R Z ⟨cs,z,e,hg,hz,q⟩;exact{cs,z,e,hg,hz,λk hk=>q _<|by rw[zu<|zg.mpr {_,hk,rfl}];rfl,λhn=>q _<|by rw[zy hn];rfl}
 refine T.ve.F.ck Ca ?_;obtain⟨cs,p,e,hg,hp,q⟩;refine{_,(sc (si (twd<|twor (cY<|tv<|cb dE T.aD ay<|ap 1<|ac (wz T.bP bu) an)<|tw1<|aX iQ hr.u (cb aZ T.aT aH<|ap 1 an) di) (s1<|sr db) s0)<|s1<|sr<|p_ (cm mE hr.u (bp T.fe vN hr<|ap 0<|ac (ix hr.u (dv 1) di) an) dn)<|p_ (bp T.vd (t_ T) hr<|ac (ix hr.u (dv 1) di) an)<|Hz<|bp T.B5 (FZ T) hr<|ac (ix hr.u (dv 1) di) an),?_};refine !{_,_,_,_,rfl,bq,rfl,_,rfl,bt !!!⟨bt ?_⟩};refine !!!{cs,p.1,rfl,hg,hp.1,λd hd=>!⟨?_⟩};unfold Eg at q;refine bQ (λh=>?_) λh=>?_;have h:(!ag d)=true:=h;rw[hd,Bool.not_not]at h;rw[h,yi]at q;refine !!{p.2.1,rfl,_,rfl,?_};refine bQ (λh2=>?_) λh2=>?_;rw[h2,yi]at q;exact !!{p.2.2,rfl,fo q};rw[h2,zX]at q;exact fo q;have h:(!ag d)=false:=h;rw[hd,Bool.not_not]at h;rw[h,zX]at q;exact fo q
inductive jX (ds:δ D) (S:ak) (R:KD) (Z:KX):η where
 |mk (cs ps wy) (h0:ds=[.tup<|cs.map az,.tup [.tup<|ps.map p3,.str wy]]) (h1:Gd cs) (h2:(∀p∈ps,Pok p)) (h3:Jd cs ps wy=true) (h4:R .au S)
theorem qY(T:Txt w K mg t):Ok P w base T.i6 5 jX:=by refine T.i6.F.ck fm ?_;obtain⟨cs,ps,wy,e,hg,hp,hb,q⟩;have XR:(ps.map p3).length=ps.length:=za _;unfold Jd at hb;simp only[zJ,zK,zZ]at hb;obtain⟨h8,ha,hn,hw⟩:=hb;refine{_,(sc (si (twd<|twor (cY<|tv<|cb dE T.aD ay<|ap 1<|ac (wz T.bP bu) an)<|tw1<|aX iQ hr.u (cb aZ T.aT aH<|ap 1 an) di) (s1 wD) s0)<|sc (bW (i:=2) fm.nd<|ix hr.u (dv 1) di)<|sc (si (twd<|twor (cY<|tv<|cb dE T.aD ay<|ap 2<|ac (wz T.bP bu) an)<|tw1<|aX mD hr.u (cb aZ T.aT aH<|ap 2 an)<|dg (v:=.int 8) T.iZ {_,rfl} λ_=>aM _) (s1 wD) s0)<|sc (si (cY<|tv<|cb jP T.jT fX<|ac (su (N:=["part","columns"]) (src:=[none,some 0]) (js jS) (GB<|dv 2) nK<|bp T.ve (Cs T) hr<|ap 1<|ap 0 an) an) (s1 wD) s0)<|sc (qr (N:=["part"]) (src:=[none]) 3 fm.nd (js jS) (GB<|dv 2) nK<|ix hr.u (dv 0) di)<|sc (si (aX iQ hr.u (lsG hr.u (dv 3) T.aT T.IL)<|cb aZ T.aT aH<|ap 3 an) (s1 wD) s0)<|s1<|si (cY<|tv<|bp T.vd (t_ T) hr<|ac (ix hr.u (dv 1) di) an) (s1 wD) s0),?_};refine !{_,_,_,_,rfl,bq,rfl,_,rfl,bt !!!⟨bt ?_⟩};refine !!!{_,_,_,_,rfl,bq,rfl,_,rfl,bt !!!⟨bZ ?_<|zy<|by rw[XR];lia⟩};refine !{_,.inl rfl,?_};refine comp_map (λ_=>.bl true) trivial (by show(ps.map p3).length<=_;lia) (λd hd Q hQ=>?_) λp m9=>?_;obtain⟨p,Q2,rfl⟩:=zg.mp hd;refine !!{cs,p,rfl,hg,hp p Q2,?_};rw[ha p Q2];exact hQ;rw[show({ps.map p3,λ_=>True}:ke).xs.map (λ_=>D.bl true)=(ps.map λ_=>true).map D.bl by show(ps.map p3).map _=_;rw[zq,zq];rfl];refine{.ref p,ps.map λ_=>true,rfl,aa,_,rfl,?_};rw[show(ps.map λ_=>true).all id=true by rw[all_map];exact zZ.mpr λ_ _=>rfl];refine bt !{_,.inl rfl,?_};refine comp_map (λd=>match d with|.tup (x::_)=>x|_=>.au) trivial (by show(ps.map p3).length<=_;lia) (λd hd Q hQ=>?_) λp2 iy=>?_;obtain⟨p,Q2,rfl⟩:=zg.mp hd;exact !!⟨hQ⟩;rw[show({ps.map p3,λ_=>True}:ke).xs.map (λd=>match d with|.tup (x::_)=>x|_=>.au)=(ps.map Prod.fst).map D.str by show(ps.map p3).map _=_;rw[zq,zq];rfl];refine !{(ps.map Prod.fst).map D.str,aa,by rw[za,za];lia,.inl !⟨hn⟩,_,rfl,_,rfl,.inl {_,aa,_,rfl,bZ ?_ ?_}};refine !!{wy,rfl,_,rfl,?_};rw[hw];exact bt {S,(Sub.new m9).trans<|.new iy,q};rw[xL rfl,zu<|by rw[za,za],Bool.not_true]
def vO(o:ρ)(c:ρ×ρ)(v:D):Prop:=o ="is"\/(v≠.au/\(o ="below"\/o ="above"\/(o ="begins"/\c.2 ="word")))
def Lf(cs:δ<|ρ×ρ)(d:D):Prop:=d=.tup [.str "every"]\/(∃ks:δ ρ,d=.tup [.str "key",.tup<|ks.map .str]/\ks.length<=8/\∀k∈ks,k∈KS)\/∃(o:ρ) (c:ρ×ρ) (v:D),c∈cs/\Vg c.2 v/\vO o c v/\d=.tup [.str o,.str c.1,v]
def Sg(cs:δ<|ρ×ρ):π->D->η|0,_=>False|n+1,d=>Lf cs d\/(∃e,d=.tup [.str "not",e]/\Sg cs n e)\/∃(o:ρ) (ds:δ D),(o ="and"\/o ="or")/\d=.tup [.str o,.tup ds]/\ds.length<=8/\∀e∈ds,Sg cs n e
theorem Je(h:Vg k v):Gt S v:=by have h:=h.2;cases v with|au=>(exact{{_,rfl},λz e=>by cases e})|int i=>(exact{{_,rfl},λz e=>by cases e})|str z=>unfold bx at h;simp only[zJ,zK]at h;exact gt_str (by lia)|_=>cases h
noncomputable def lX:D->δ D|.tup [.str o,.tup ds]=>(if o ="not" then[.tup ds] else if o ="and"\/o ="or" then ds else[])|.tup [.str o,e]=>(if o ="not" then[e] else[])|_=>[]
noncomputable def n5:π->D->π|0,_=>0|n+1,d=>((lX d).map<|n5 n).sum+1
theorem vP(e:D):lX (.tup [.str "not",e])=[e]:=by cases e<;>rfl
theorem vQ{o:ρ}(h:o ="and"\/o ="or")(ds:δ D):lX (.tup [.str o,.tup ds])=ds:=by rcases h with rfl|rfl<;>rfl
def Sq(cs:δ<|ρ×ρ)(d:D):Prop:=Sg cs 7 d/\n5 7 d<=200
inductive gB (ds:δ D) (S:ak) (R:KD) (Z:KX):η where
 |mk (es) (h0:ds=[.tup es]) (h1:es.length<=8) (h2:R (.bl true) S)
theorem n6(T:Txt w K mg t):Ok P w base T.dw 1 gB:=by refine T.dw.F.ck lH ?_;obtain⟨es,e,hl,q⟩;refine{_,(s1<|sr<|p_ (cb dE T.aD ay<|ap 0<|ac (wz T.bP bu) an)<|Hz<|cm iP hr.u (cb aZ T.aT aH<|ap 0 an)<|dg (v:=.int 8) T.ko {_,rfl} λ_=>aM _),?_};refine !{_,_,_,_,rfl,bq,rfl,_,rfl,dX !!⟨?_⟩};have e1:ω (((es.length:π):ν)<=8)=true:=zu (by lia);show Fo S (R<|.bl<|ω<|((es.length:π):ν)<=8);rw[e1];exact fo q
inductive gf (ds:δ D) (S:ak) (R:KD) (Z:KX):η where
 |mk (cs o c v) (h0:ds=[.tup<|cs.map az,.tup [.str o,.str c.1,v]]) (h1:Gd cs) (h2:c∈cs) (h3:Vg c.2 v) (h4:vO o c v) (h5:R (.bl true) S)
theorem qZ(T:Txt w K mg t):Ok P w base T.i9 4 gf:=by
 refine T.i9.F.ck jb ?_;obtain⟨cs,o,c,v,e,hg,hc,hv,ho,q⟩;have hn:∀k,(c.1,k)∈cs->k=c.2:=λk hk=>by have:=gZ hg.2.1 hk hc rfl;rw[<-this]
 refine{_,(sc (bW (i:=2) jb.nd<|bp T.fe (jW T) hr<|ap 0<|ac (ix hr.u (dv 1) di) an)<|sc (si (twd<|twor (aX gH hr.u (dv 2) dn)<|tw1<|cY<|tv<|bp T.lF (nU T) hr<|ap 2<|ac (ix hr.u (dv 1) di) an) (s1<|sr db) s0)<|sc (si (aX aQ hr.u (ix hr.u (dv 1) di) ds) (s1<|sr db) s0)<|sc (si (twd<|twand (aX aQ hr.u (ix hr.u (dv 1) di) ds)<|tw1<|aX iQ hr.u (dv 2) ds) (s1<|sr db) s0)<|s1<|sr<|cm mE hr.u (ix hr.u (dv 1) di) dn),?_};refine !!!{cs,c.1,rfl,hg,mZ (hg.2.2 c hc).1,λk hk=>?_,λhk=>absurd (zg.mpr ⟨c,hc,rfl⟩) hk};cases hn k hk;refine !!⟨bt !!!{c.2,v,rfl,Je hv,_,rfl,?_}⟩;rw[hv.1];refine bt !!!⟨?_⟩;rcases ho with rfl|⟨hvn,ho⟩;exact kM<|fo q;have Ny:ag v=false:=by cases v<;>first|rfl|exact absurd rfl hvn
 have e9:(!ag v)=true:=by rw[Ny];rfl
 have fin:Fo S (R<|.bl<|!ag v):=by rw[e9];exact fo q
 rcases ho with rfl|rfl|⟨rfl,hw⟩;refine bZ !!!⟨bZ !!⟨fin⟩⟩;refine bZ !!!⟨bZ !!⟨fin⟩⟩;refine bZ !!!⟨kM !!⟨?_⟩⟩;rw[hw];exact bZ !!⟨fin⟩
theorem Ml(h:z∈KS):z.cps.size<=1000:=zG (gb z h).2.1<|by decide
inductive n8 (ds:δ D) (S:ak) (R:KD) (Z:KX):η where
 |mk (cs n d) (h0:ds=[.tup<|cs.map az,d]) (h1:Gd cs) (h2:Sg cs n d) (h3:R (.bl true) S)
theorem vR(T:Txt w K mg t):Ok P w base T.mR 5 n8:=by
 refine T.mR.F.ck vq ?_;obtain⟨cs,n,d,e,hg,hs,q⟩;refine{_,(sc (si (twd<|twor (cY<|tv<|cb dE T.aD ay<|ap 1<|ac (wz T.bP bu) an)<|twor (aX aQ hr.u (cb aZ T.aT aH<|ap 1 an) di)<|tw1<|cY<|tv<|cb dE T.aD ay<|ac (ix hr.u (dv 1) di)<|ac (wz T.qB j_) an) (s1<|sr db) s0)<|sc (si (aX iQ hr.u (mgk T.FI (by decide) (gK T.BZ)<|ix hr.u (dv 1) di)<|cb aZ T.aT aH<|ap 1 an) (s1<|sr db) s0)<|sc (si (aX r9 hr.u (ix hr.u (dv 1) di)<|b9<|ac ds<|ac ds<|ac ds<|ac ds an) (s1<|sr<|bp T.i9 (qZ T) hr<|ap 0<|ap 1 an) s0)<|sc (si (aX aQ hr.u (ix hr.u (dv 1) di) ds) (s1<|sr<|p_ (bp T.dw (n6 T) hr<|ac (ix hr.u (dv 1) di) an)<|Hz<|cb jP T.jT fX<|ac (su (N:=["key"]) (src:=[none]) (js xE) (GB<|ix hr.u (dv 1) di) nK<|bp T.mP (jw T) hr<|ap 0 an) an) s0)<|sc (si (aX r9 hr.u (ix hr.u (dv 1) di)<|b9<|ac ds<|ac ds an) (s1<|sr<|bp T.dw (n6 T) hr<|ac (ix hr.u (dv 1) di) an) s0)<|s1<|sr db),?_};cases n with|zero=>exact hs.elim|succ n =>
 rcases hs with (rfl|⟨ks,rfl,hk8,AL⟩|⟨o,c,v,hc,hv,ho,rfl⟩)|⟨e,rfl,he⟩|⟨o,es,ho,rfl,AN,_⟩;refine !{_,_,_,_,rfl,bq,rfl,_,rfl,bt !!!⟨lT rfl !!{_,_,_,_,rfl,cS,rfl,_,rfl,bt ?_}⟩};refine !!!!!!⟨lT rfl ?_⟩;exact !!{sE,rfl,rfl,_,rfl,bZ !!!⟨bZ !!{cz,rfl,rfl,_,rfl,bZ<|fo q}⟩};refine !{_,_,_,_,rfl,bq,rfl,_,rfl,bt !!!⟨lT rfl !!{_,_,_,_,rfl,cS,rfl,_,rfl,bt ?_}⟩};refine !!!!!!⟨lT rfl ?_⟩;refine !!{sE,rfl,rfl,_,rfl,bZ !!!⟨kM ?_⟩};refine !!!{by rw[za];exact hk8,_,rfl,dX !!{_,.inl rfl,?_}};refine comp_map (λ_=>.bl true) trivial (by show(ks.map D.str).length<=1000;rw[za];lia) (λd hd Q hQ=>?_) λp hp=>?_;obtain⟨k,hk,rfl⟩:=zg.mp hd;refine !{.str k,rfl,gt_str<|Ml<|AL k hk,?_};show Q (.bl<|kC k) S;rw[(gb k<|AL k hk).1];exact hQ;have e2:(ks.map D.str).map (λ_=>D.bl true)=(ks.map λ_=>true).map D.bl:=by rw[zq,zq];rfl
 have e3:(ks.map λ_=>true).all id=true:=by rw[all_map];exact zZ.mpr λ_ _=>rfl
 refine{.ref p,ks.map λ_=>true,rfl,?_,S,.new hp,?_};show(S.set p<|.lst<|(ks.map D.str).map _) p=_;rw[aa,e2];rw[e3];exact q;have h4:o ="is"\/o ="below"\/o ="above"\/o ="begins":=by rcases ho with h|⟨_,h|h|⟨h,_⟩⟩;exact .inl h;exact .inr<|.inl h;exact .inr<|.inr<|.inl h;exact .inr<|.inr<|.inr h
 refine !{_,_,_,_,rfl,bq,rfl,_,rfl,bt !!!⟨lT rfl !!{_,_,_,_,rfl,cS,rfl,_,rfl,bt ?_}⟩};have fin:∀Zq:KX,gf [D.tup<|cs.map az,.tup [.str o,.str c.1,v]] S (λd S'=>Fo S'<|R d) Zq:=λ_=>{cs,o,c,v,rfl,hg,hc,hv,ho,fo q};rcases h4 with rfl|rfl|rfl|rfl;exact !!!!!!⟨lT rfl !!{sE,rfl,rfl,_,rfl,kM !!⟨(fin _)⟩}⟩;exact !!!!!!⟨lT rfl !!{sE,rfl,rfl,_,rfl,kM !!⟨(fin _)⟩}⟩;exact !!!!!!⟨lT rfl !!{sE,rfl,rfl,_,rfl,kM !!⟨(fin _)⟩}⟩;exact !!!!!!⟨lT rfl !!{sE,rfl,rfl,_,rfl,kM !!⟨(fin _)⟩}⟩;refine !{_,_,_,_,rfl,bq,rfl,_,rfl,bt !!!⟨lT rfl !!{_,_,_,_,rfl,cS,rfl,_,rfl,bt ?_}⟩};refine !!!!!!⟨lT rfl ?_⟩;exact !!{sE,rfl,rfl,_,rfl,bZ !!!⟨bZ !!{cz,rfl,rfl,_,rfl,bZ<|fo q}⟩};have h8:es.length<=8:=by lia
 rcases ho with rfl|rfl;refine !{_,_,_,_,rfl,bq,rfl,_,rfl,bt !!!⟨lT rfl !!{_,_,_,_,rfl,cS,rfl,_,rfl,bt ?_}⟩};refine !!!!!!⟨lT rfl ?_⟩;exact !!{sE,rfl,rfl,_,rfl,bZ !!!⟨bZ !!{cz,rfl,rfl,_,rfl,kM !!!{h8,fo q}}⟩};refine !{_,_,_,_,rfl,bq,rfl,_,rfl,bt !!!⟨lT rfl !!{_,_,_,_,rfl,cS,rfl,_,rfl,bt ?_}⟩};refine !!!!!!⟨lT rfl ?_⟩;exact !!{sE,rfl,rfl,_,rfl,bZ !!!⟨bZ !!{cz,rfl,rfl,_,rfl,kM !!!{h8,fo q}}⟩}
inductive iq (ds:δ D) (S:ak) (R:KD) (Z:KX):η where
 |mk (l es cs m) (h0:ds=[.ref l]) (h1:S l=some (.lst es)) (h2:(es.flatMap lX).length<=900) (h3:(∀e∈es,Sg cs (m+1) e)) (h4:∀p,S p=none->R (.ref p) (S.set p<|.lst<|es.flatMap lX))
theorem ng(T:Txt w K mg t):Ok P w base T.fZ 1 iq:=by
 refine T.fZ.F.ck dP ?_;obtain⟨l,es,cs,m,e,hl,h8,AN,q⟩;refine{_,(sc (bW (i:=1) dP.nd<|b8 an)<|sc (nL<|HJ (il<|dv 0) (gn (i:=2) dP.nd)<|sc (nL<|si (aX aQ hr.u (ix hr.u (dv 2) di) ds) (s1<|se<|bm zQ yb yc cC (dv 1)<|ac (ix hr.u (dv 2) di) an) s0)<|s1<|si (aX r9 hr.u (ix hr.u (dv 2) di)<|b9<|ac ds<|ac ds an) (s1<|se<|bm zQ PySem.F.slot_list_extend PySem.F.type_list_extend Fm (dv 1)<|ac (ix hr.u (dv 2) di) an) s0)<|s1<|sr<|dv 1),?_};refine{kB,λf hf=>?_};have Mh:l≠f:=gC hl hf;refine{λax S'=>∃o,ax=[some<|.ref l,some<|.ref f,o]/\S'=S.set f (.lst<|es.flatMap lX),?_,?_};refine !{es,(ae Mh).trans hl,?_};refine{λi ax S'=>∃o,ax=[some<|.ref l,some<|.ref f,o]/\S'=S.set f (.lst<|(es.take i).flatMap lX),⟨none,rfl,rfl⟩,?_,?_,?_};rintro i ax S' ⟨o,rfl,rfl⟩;exact(ae Mh).trans hl;rintro i e ax S' he ⟨o,rfl,rfl⟩;have he:es[i]?=some e:=he;have hem:=AN e<|zH he;have et:(es.take<|i+1).flatMap lX=(es.take i).flatMap lX++lX e:=by rw[List.take_add_one,he,List.flatMap_append];simp
 have Mm:((es.take i).flatMap lX).length+(lX e).length<=900:=by rw[<-zA,<-et];refine zG ?_ h8;(conv=>rhs;rw[<-List.take_append_drop (i+1) es,List.flatMap_append,zA]);exact Nat.le_add_right _ _
 generalize (es.take i).flatMap lX=fs at et Mm⊢;have SQ:(S.set f<|.lst fs) f=some (.lst fs):=aa;have keep:lX e=[]->∃o,[some<|D.ref l,some<|D.ref f,some e]=[some<|.ref l,some<|.ref f,o]/\S.set f (.lst fs)=S.set f (.lst<|(es.take<|i+1).flatMap lX):=λh=>!⟨by rw[et,h,List.append_nil]⟩;have more:∀ds,lX e=ds->∃o,[some<|D.ref l,some<|D.ref f,some e]=[some<|.ref l,some<|.ref f,o]/\(S.set f<|.lst fs).set f (.lst<|fs++ds)=S.set f (.lst<|(es.take<|i+1).flatMap lX):=λds h=>!⟨by rw[et,h,ba]⟩;rcases hem with (rfl|⟨ks,rfl,_,_⟩|⟨o,c,v,_,_,ho,rfl⟩)|⟨e',rfl,XF⟩|⟨o,ds,ho,rfl,hds,hd⟩;refine{λoS S2=>oS=_/\S2=S.set f (.lst fs),!!!⟨bZ<|fo ⟨rfl,rfl⟩⟩,?_};rintro _ _ ⟨rfl,rfl⟩;exact !!{cz,rfl,rfl,_,rfl,bZ<|keep rfl};refine{λoS S2=>oS=_/\S2=S.set f (.lst fs),!!!⟨bZ<|fo ⟨rfl,rfl⟩⟩,?_};rintro _ _ ⟨rfl,rfl⟩;exact !!{cz,rfl,rfl,_,rfl,bZ<|keep rfl};rcases ho with rfl|⟨_,rfl|rfl|⟨rfl,_⟩⟩;refine{λoS S2=>oS=_/\S2=S.set f (.lst fs),!!!⟨bZ<|fo ⟨rfl,rfl⟩⟩,?_};rintro _ _ ⟨rfl,rfl⟩;exact !!{cz,rfl,rfl,_,rfl,bZ<|keep rfl};refine{λoS S2=>oS=_/\S2=S.set f (.lst fs),!!!⟨bZ<|fo ⟨rfl,rfl⟩⟩,?_};rintro _ _ ⟨rfl,rfl⟩;exact !!{cz,rfl,rfl,_,rfl,bZ<|keep rfl};refine{λoS S2=>oS=_/\S2=S.set f (.lst fs),!!!⟨bZ<|fo ⟨rfl,rfl⟩⟩,?_};rintro _ _ ⟨rfl,rfl⟩;exact !!{cz,rfl,rfl,_,rfl,bZ<|keep rfl};refine{λoS S2=>oS=_/\S2=S.set f (.lst fs),!!!⟨bZ<|fo ⟨rfl,rfl⟩⟩,?_};rintro _ _ ⟨rfl,rfl⟩;exact !!{cz,rfl,rfl,_,rfl,bZ<|keep rfl};refine{λoS S2=>oS=_/\S2=(S.set f<|.lst fs).set f (.lst<|fs++[e']),!!!⟨kM !⟨{rfl,_,SQ},_,rfl,_,rfl,f,_,_,rfl,rfl,SQ,bg<|by rw[vP]at Mm;simp at Mm;omega,fo ⟨rfl,rfl⟩⟩⟩,?_};rintro _ _ ⟨rfl,rfl⟩;exact !!{cz,rfl,rfl,_,rfl,bZ<|more _<|vP e'};have eds:=vQ ho ds;rw[eds]at Mm;rcases ho with rfl|rfl;refine{λoS S2=>oS=_/\S2=S.set f (.lst fs),!!!⟨bZ<|fo ⟨rfl,rfl⟩⟩,?_};rintro _ _ ⟨rfl,rfl⟩;exact !!{cz,rfl,rfl,_,rfl,kM !⟨{rfl,_,SQ},_,rfl,_,rfl,f,_,_,rfl,rfl,SQ,sm<|by omega,more _ eds⟩};refine{λoS S2=>oS=_/\S2=S.set f (.lst fs),!!!⟨bZ<|fo ⟨rfl,rfl⟩⟩,?_};rintro _ _ ⟨rfl,rfl⟩;exact !!{cz,rfl,rfl,_,rfl,kM !⟨{rfl,_,SQ},_,rfl,_,rfl,f,_,_,rfl,rfl,SQ,sm<|by omega,more _ eds⟩};rintro ax S' ⟨o,rfl,rfl⟩;refine fo {o,rfl,?_};rw[show({es,λS=>S l=some (.lst es)}:ke).xs=es from rfl,List.take_length];rintro ax S' ⟨o,rfl,rfl⟩;exact{_,rfl,fo<|q f hf}
theorem Jf{cs:δ<|ρ×ρ}{n:π}{d:D}(h:Sg cs (n+1) d):∀f∈lX d,Sg cs n f:=by
 rcases h with (rfl|⟨ks,rfl,_,_⟩|⟨o,c,v,_,_,ho,rfl⟩)|⟨e',rfl,XF⟩|⟨o,ds,ho,rfl,hds,hd⟩;exact nofun;exact nofun;exact nofun;rw[vP];exact λf hf=>by rw[zI.mp hf];exact XF
 rw[vQ ho];exact hd
theorem Jg(n:π):∀es:δ D,(es.map<|n5<|n+1).sum=es.length+((es.flatMap lX).map<|n5 n).sum|[]=>rfl|e::es=>by have:=Jg n es;rw[zw,List.sum_cons,zO,List.flatMap_cons,zL,List.sum_append,this,show n5 (n+1) e=((lX e).map<|n5 n).sum+1 from rfl];lia
theorem Q3{cs:δ<|ρ×ρ}{n:π}{es:δ D}(h:∀e∈es,Sg cs (n+1) e):(es.flatMap lX).length<=((es.flatMap lX).map<|n5 n).sum:=by
 have h:∀f∈es.flatMap lX,Sg cs n f:=λf hf=>by obtain⟨e,he,hf⟩:=List.mem_flatMap.mp hf;exact Jf (h e he) f hf
 generalize es.flatMap lX=fs at h⊢;induction fs with|nil=>exact zm _|cons f fs ih=>have h1:=h f zj;have ih:=ih λx hx=>h x<|zh _ hx;have:1<=n5 n f:=(by cases n with|zero=>exact h1.elim|succ n=>exact Nat.le_add_left _ _);rw[zw,List.sum_cons,zO];lia
inductive jY (ds:δ D) (S:ak) (R:KD) (Z:KX):η where
 |mk (cs d) (h0:ds=[.tup<|cs.map az,d]) (h1:Gd cs) (h2:Sq cs d) (h3:R .au S)
theorem q8(T:Txt w K mg t):Ok P w base T.i8 6 jY:=by
 refine T.i8.F.ck bC ?_;obtain⟨cs,d,e,hg,hd,q⟩;refine{_,(sc (bW (i:=2) bC.nd<|b8<|ap 1 an)<|sc (bW (i:=3) bC.nd di)<|sc (bW (i:=4) bC.nd di)<|s1<|Xx (aX mD hr.u (cb aZ T.aT aH<|ap 2 an) di)<|sc (sau (i:=3) bC.nd di)<|sc (sau (i:=4) bC.nd<|cb aZ T.aT aH<|ap 2 an)<|sc (si (twd<|twor (aX mD hr.u (dv 3)<|dg (v:=.int 8) T.u4 {_,rfl} λ_=>aM _)<|tw1<|aX mD hr.u (dv 4)<|dg (v:=.int 200) T.i4 {_,rfl} λ_=>aM _) (s1 wD) s0)<|sc (si (cY<|tv<|cb jP T.jT fX<|ac (su (N:=["thing","columns"]) (src:=[none,some 0]) (js sx) (il<|dv 2) nK<|bp T.mR (vR T) hr<|ap 1<|ap 0 an) an) (s1 wD) s0)<|s1<|bW (i:=2) bC.nd<|bp T.fZ (ng T) hr<|ap 2 an),?_};refine !{IQ,λl0 L8=>?_};refine{λm ax S'=>∃(l:ε)(es:δ D)(dp p:π),ax=[some<|.tup<|cs.map az,some d,some<|.ref l,some<|.int dp,some<|.int p]/\S' l=some (.lst es)/\Sub S S'/\(∀e∈es,Sg cs m e)/\dp+m=7/\p+(es.map<|n5 m).sum<=200,{7,l0,[d],0,0,rfl,aa,.new L8,λe he=>by rw[zI.mp he];exact hd.1,rfl,by have:=hd.2;simp only[zw,yY,List.sum_cons,List.sum_nil];lia},?_};rintro m ax S' ⟨l,es,dp,p,rfl,hl,sb,AN,hdp,hp⟩;refine !!⟨.inl {_,hl,_,rfl,?_}⟩;refine bQ (λh1=>?_) λh1=>?_;have Hs:0<es.length:=by have h1:(0:ν)<((es.length:π):ν):=zE h1;lia
 obtain⟨e0,he0⟩:=List.exists_mem_of_length_pos Hs;obtain⟨n,rfl⟩:∃n,m=n+1:=by cases m with|zero=>exact(AN e0 he0).elim|succ n=>exact⟨n,rfl⟩
 have ae7:=Jg n es;have Ux:=Q3 (cs:=cs) (n:=n) (es:=es) AN;refine !!!!!⟨.inl {_,hl,_,rfl,?_}⟩;refine !!⟨lT (zy<|by lia) !!⟨lT (zy<|by lia) ?_⟩⟩;refine !{es,hl,?_};refine comp_map (λ_=>.bl true) hl (by show es.length<=1000;lia) (λe he Q hQ=>?_) λp1 nh=>?_;exact !!{cs,_,e,rfl,hg,AN e he,hQ};have e2:es.map (λ_=>D.bl true)=(es.map λ_=>true).map D.bl:=by rw[zq];rfl
 have e3:(es.map λ_=>true).all id=true:=by rw[all_map];exact zZ.mpr λ_ _=>rfl
 refine{.ref p1,es.map λ_=>true,rfl,?_,_,rfl,?_};show(S'.set p1<|.lst<|es.map _) p1=_;rw[aa,e2];rw[e3];refine bt ?_;have s1:=sb.trans<|.new (c:=.lst<|es.map λ_=>D.bl true) nh;have NX:(S'.set p1<|.lst<|es.map λ_=>D.bl true) l=some (.lst es):=(ae<|gC hl nh).trans hl;refine !{l,es,cs,n,rfl,NX,by lia,AN,λp2 h3=>?_};refine{n,yK n,p2,es.flatMap lX,dp+1,p+es.length,?_,aa,s1.trans<|.new h3,λf hf=>?_,by lia,by lia};show[_,_,_,some<|D.int<|((dp:π):ν)+1,some<|D.int<|((p:π):ν)+((es.length:π):ν)]=_;rw[show(((dp:π):ν)+1)=((dp+1:π):ν) by lia,show(((p:π):ν)+((es.length:π):ν))=((p+es.length:π):ν) by lia];obtain⟨e,he,hf⟩:=List.mem_flatMap.mp hf;exact Jf (AN e he) f hf;exact⟨S,sb,q⟩
noncomputable def Jh(cs:δ<|ρ×ρ)(z:ρ):Nat:=(cs.map Prod.fst).idxOf z
noncomputable def aj(cs:δ<|ρ×ρ)(ws:δ D)(z:ρ):D:=(ws[Jh cs z]?).getD .au
noncomputable def ah(r:ρ×δ D):D:=.tup [.str r.1,.tup r.2]
theorem Ct{α β:Type}{rel:α->β->η}{l:δ α}{m:δ β}(h:Paired rel l m):∀{i:π}{a:α},l[i]?=some a->∃b,m[i]?=some b/\rel a b:=by induction h with|nil=>intro i a h;simp at h|cons r t ih=>intro i a h;cases i with|zero=>(rw[List.getElem?_cons_zero]at h⊢;cases h;exact{_,rfl,r})|succ i=>rw[List.getElem?_cons_succ]at h⊢;exact ih h
theorem vS(hg:Gd cs)(h:c∈cs):cs[Jh cs c.1]?=some c/\(cs.map Prod.fst)[Jh cs c.1]?=some c.1:=by
 have hm:c.1∈cs.map Prod.fst:=zg.mpr ⟨c,h,rfl⟩;have hi:(cs.map Prod.fst).idxOf c.1<(cs.map Prod.fst).length:=List.idxOf_lt_length_of_mem hm;have e1:(cs.map Prod.fst)[(cs.map Prod.fst).idxOf c.1]?=some c.1:=by rw[zf hi,List.getElem_idxOf]
 refine{?_,e1};obtain⟨j,ej⟩:=yh h;have ej1:(cs.map Prod.fst)[j]?=some c.1:=by rw[zp,ej];rfl
 obtain⟨b1,c1⟩:=ze.mp e1;obtain⟨b2,c2⟩:=ze.mp ej1;have:=(List.getElem_inj hg.2.1 (h₀:=b1) (h₁:=b2)).mp<|c1.trans c2.symm;unfold Jh;rw[this];exact ej
theorem jy{cs:δ<|ρ×ρ}(hg:Gd cs){ws:δ D}(hw:Wg cs ws){c:ρ×ρ}(h:c∈cs):ws[Jh cs c.1]?=some (aj cs ws c.1)/\Vg c.2 (aj cs ws c.1):=by obtain⟨v,e,r⟩:=Ct hw (vS hg h).1;unfold aj;rw[e];exact⟨rfl,r⟩
noncomputable def kE:D->D->χ|.au,.au=>true|.int i,.int j=>ω (i=j)|.str i,.str j=>ω (i=j)|_,_=>false
theorem bJ(ha:bx a=true)(hb:bx b=true):kE a b=true↔a=b:=by rcases eQ ha with rfl|⟨i,rfl⟩|⟨i,rfl⟩<;>rcases eQ hb with rfl|⟨j,rfl⟩|⟨j,rfl⟩<;>simp[kE]
theorem lY(ha:bx a=true)(hb:bx b=true)(q:R (.bl<|if neg then !kE a b else kE a b) S):Gy neg a b S R:=by
 obtain⟨p,p1,p2,p3⟩:=Ly.plain (S:=S) ha;obtain⟨r,r1,r2,r3⟩:=Ly.plain (S:=S) hb;have fin:PyData.eqv p r=kE a b->R (.bl<|if neg then !PyData.eqv p r else PyData.eqv p r) S:=λe=>by rw[e];exact q
 have d:p.depth<=64:=by lia
 rcases eQ ha with rfl|⟨i,rfl⟩|⟨i,rfl⟩<;>rcases eQ hb with rfl|⟨j,rfl⟩|⟨j,rfl⟩<;>first|exact q|exact{p,r,p1,r1,p2,r2,.inl d,fin<|by simp only[Dp]at p1 r1;subst p1 r1;rfl}
noncomputable def q9:D->D->χ|.int i,.int j=>ω (i<j)|.str i,.str j=>rJ i j|_,_=>false
noncomputable def stP:D->D->χ|.str i,.str j=>PySem.Txt.startswith i j|_,_=>false
noncomputable def y7(o:ρ)(a b:D):Bool:=if o ="is" then kE a b else if ag a then false else if o ="below" then q9 a b else if o ="above" then q9 b a else stP a b
noncomputable def F5:D->δ D|.tup ds=>ds|_=>[]
noncomputable def V9(cs:δ<|ρ×ρ)(r:ρ×δ D)(f:D->χ):D->χ|.tup [.str _]=>true|.tup [.str o,e]=>(if o ="not" then !f e else if o ="key" then Bb (jF<|.str r.1) ((F5 e).map jF) else if o ="and" then (F5 e).all f else (F5 e).any f)|.tup [.str o,.str z,v]=>y7 o (aj cs r.2 z) v|_=>false
noncomputable def aJ(cs:δ<|ρ×ρ)(r:ρ×δ D):π->D->χ|0,_=>false|n+1,d=>V9 cs r (aJ cs r n) d
theorem Eh(cs:δ<|ρ×ρ)(r:ρ×δ D)(n:π)(o:ρ)(e:D):aJ cs r (n+1) (.tup [.str o,e])=if o ="not" then !aJ cs r n e else if o ="key" then Bb (jF<|.str r.1) ((F5 e).map jF) else if o ="and" then (F5 e).all (aJ cs r n) else (F5 e).any (aJ cs r n):=rfl
theorem NY(cs:δ<|ρ×ρ)(r:ρ×δ D)(n:π)(o z:ρ)(v:D):aJ cs r (n+1) (.tup [.str o,.str z,v])=y7 o (aj cs r.2 z) v:=rfl
theorem y8(cs:δ<|ρ×ρ)(r:ρ×δ D)(n:π)(ks:δ D):aJ cs r (n+1) (.tup [.str "key",.tup ks])=Bb (jF<|.str r.1) (ks.map jF):=by rw[Eh,xz<|by trivial,xL rfl];rfl
theorem y9(cs:δ<|ρ×ρ)(r:ρ×δ D)(n:π)(e:D):aJ cs r (n+1) (.tup [.str "not",e])=!aJ cs r n e:=by rw[Eh,xL rfl]
theorem y_(cs:δ<|ρ×ρ)(r:ρ×δ D)(n:π)(es:δ D):aJ cs r (n+1) (.tup [.str "and",.tup es])=es.all (aJ cs r n):=by rw[Eh,xz<|by trivial,xz<|by trivial,xL rfl];rfl
theorem Ei(cs:δ<|ρ×ρ)(r:ρ×δ D)(n:π)(es:δ D):aJ cs r (n+1) (.tup [.str "or",.tup es])=es.any (aJ cs r n):=by rw[Eh,xz<|by trivial,xz<|by trivial,xz<|by trivial];rfl
theorem kF{k:ρ}(ha:Vg k a)(hb:Vg k b)(na:a≠.au)(nb:b≠.au):(∃i j,a=.int i/\b=.int j)\/∃i j,a=.str i/\b=.str j:=by
 obtain⟨a1,a2⟩:=ha;obtain⟨b1,b2⟩:=hb;have no:∀{i:ν}{z:ρ},gX k (.int i)=true->gX k (.str z)=true->False:=λh1 h2=>by unfold gX at h1 h2;simp only[ag,y1]at h1 h2;by_cases e:k ="number";rw[xL e]at h2;cases h2;rw[xz e]at h1;cases h1
 rcases eQ a2 with rfl|⟨i,rfl⟩|⟨i,rfl⟩<;>rcases eQ b2 with rfl|⟨j,rfl⟩|⟨j,rfl⟩<;>first|exact absurd rfl na|exact absurd rfl nb|exact .inl ⟨i,j,rfl,rfl⟩|exact .inr ⟨i,j,rfl,rfl⟩|exact(no a1 b1).elim|exact(no b1 a1).elim
theorem pE(h:Vg "word" a)(n:a≠.au):∃z,a=.str z:=by obtain⟨h1,h2⟩:=h;rcases eQ h2 with rfl|⟨i,rfl⟩|⟨z,rfl⟩;exact absurd rfl n;unfold gX at h1;rw[xz<|by trivial]at h1;cases h1;exact⟨z,rfl⟩
theorem aO(h:ag a=false):a≠.au:=by rintro rfl;cases h
inductive kG (ds:δ D) (S:ak) (R:KD) (Z:KX):η where
 |mk (cs r c) (h0:ds=[.tup<|cs.map az,ah r,.str c.1]) (h1:Gd cs) (h2:Wg cs r.2) (h3:c∈cs) (h4:R (aj cs r.2 c.1) S)
theorem dj(T:Txt w K mg t):Ok P w base T.cu 2 kG:=by
 refine T.cu.F.ck xP ?_;obtain⟨cs,r,c,e,hg,hw,hc,q⟩;obtain⟨n1,n2⟩:=vS hg hc;refine{_,(s1<|sr<|ix hr.u (ix hr.u (dv 1) di)<|bm zQ PySem.F.slot_list_index PySem.F.type_list_index qg (bp T.lG (nW T) hr<|ap 0 an)<|ap 2 an),?_};refine !!!{cs,rfl,hg.1,λp hp=>?_};refine{{rfl,_,aa},_,rfl,(cs.map Prod.fst).map D.str,.str c.1,Jh cs c.1,rfl,aa,rfl,?_,{.str c.1,by rw[zp,n2];rfl,by show(c.1==c.1)=true;simp},?_,?_};rw[List.all_map];exact zZ.mpr λ_ _=>rfl;intro m u hm hu;rw[zp]at hu;cases e:(cs.map Prod.fst)[m]? with|none=>(rw[e]at hu;cases hu)|some z'=>rw[e]at hu;cases hu;show(z'==c.1)=false;have:z'≠c.1:=λq=>(by subst q;obtain⟨b1,c1⟩:=ze.mp e;obtain⟨b2,c2⟩:=ze.mp n2;have:=(List.getElem_inj hg.2.1 (h₀:=b1) (h₁:=b2)).mp<|c1.trans c2.symm;lia);simpa using this
 exact{_,bE (jy hg hw hc).1,S,.new hp,q}
inductive fz (ds:δ D) (S:ak) (R:KD) (Z:KX):η where
 |mk (o a b c) (h0:ds=[.str o,a,b]) (h1:Vg c.2 a) (h2:Vg c.2 b) (h3:vO o c b) (h4:R (.bl<|y7 o a b) S)
theorem oJ(T:Txt w K mg t):Ok P w base T.gN 1 fz:=by
 refine T.gN.F.ck oF ?_;obtain⟨o,a,b,c,e,ha,hb,ho,q⟩;refine{_,(sc (si (aX aQ hr.u (dv 0) ds) (s1<|sr<|cm aQ hr.u (dv 1)<|dv 2) s0)<|sc (si (aX gH hr.u (dv 1) dn) (s1<|sr db) s0)<|sc (si (aX aQ hr.u (dv 0) ds) (s1<|sr<|cm mC hr.u (dv 1)<|dv 2) s0)<|sc (si (aX aQ hr.u (dv 0) ds) (s1<|sr<|cm mD hr.u (dv 1)<|dv 2) s0)<|s1<|sr<|bm PySem.F.plainAttrs_str PySem.F.slot_str_startswith PySem.F.type_str_startswith HC (dv 1)<|ap 2 an),?_};unfold y7 at q;rcases ho with rfl|⟨nb,ho⟩;rw[xL rfl]at q;exact !!⟨kM !!⟨lY ha.2 hb.2<|fo q⟩⟩;have ne:∀{A B:χ},o≠"is"->R (.bl<|if o ="is" then A else B) S->R (.bl B) S:=λh q=>by rw[xz h]at q;exact q
 rcases ho with rfl|rfl|⟨rfl,hk⟩;rw[xz<|by trivial]at q;refine !!⟨bZ !!⟨bQ (λh=>?_) λh=>?_⟩⟩;rw[xL h]at q;exact fo q;rw[xz<|by rw[show ag a=false from h];exact zd,xL rfl]at q;refine !!⟨kM !!⟨?_⟩⟩;rcases kF ha hb (aO h) nb with⟨i,j,rfl,rfl⟩|⟨i,j,rfl,rfl⟩<;>exact fo q;rw[xz<|by trivial]at q;refine !!⟨bZ !!⟨bQ (λh=>?_) λh=>?_⟩⟩;rw[xL h]at q;exact fo q;rw[xz<|by rw[show ag a=false from h];exact zd,xz<|by trivial,xL rfl]at q;refine !!⟨bZ !!⟨kM !!⟨?_⟩⟩⟩;rcases kF ha hb (aO h) nb with⟨i,j,rfl,rfl⟩|⟨i,j,rfl,rfl⟩<;>exact fo q;rw[xz<|by trivial]at q;refine !!⟨bZ !!⟨bQ (λh=>?_) λh=>?_⟩⟩;rw[xL h]at q;exact fo q;rw[xz<|by rw[show ag a=false from h];exact zd,xz<|by trivial,xz<|by trivial]at q;refine !!⟨bZ !!⟨bZ ?_⟩⟩;rw[hk]at ha hb;obtain⟨i,rfl⟩:=pE ha<|aO h;obtain⟨j,rfl⟩:=pE hb nb;exact !{rfl,_,rfl,i,j,rfl,rfl,fo q}
inductive Cu (n:π) (ds:δ D) (S:ak) (R:KD) (Z:KX):η where
 |mk (cs d r) (h0:ds=[.tup<|cs.map az,d,ah r]) (h1:Gd cs) (h2:Sg cs n d) (h3:Wg cs r.2) (h4:R (.bl<|aJ cs r n d) S)
theorem jz(T:Txt w K mg t):∀n,Ok P w base T.passes (3+n) (Cu n)
 |0=>by refine T.passes.F.ok (k:=2) tW (by rintro ds S R Z ⟨_,_,_,e,_⟩;rw[e];rfl) (by rintro fJ A outer s H E ds S R Z hr ⟨cs,d,r,e,hg,hs,_⟩;exact hs.elim)
 |n+1=>by
  refine T.passes.F.ok (k:=3+n) tW (by rintro ds S R Z ⟨_,_,_,e,_⟩;rw[e];rfl) ?_;obtain⟨cs,d,r,e,hg,hs,hw,q⟩;refine{_,(sc (si (aX aQ hr.u (ix hr.u (dv 1) di) ds) (s1<|sr db) s0)<|sc (si (aX aQ hr.u (ix hr.u (dv 1) di) ds) (s1<|sr<|cm r9 hr.u (ix hr.u (dv 2) di)<|ix hr.u (dv 1) di) s0)<|sc (si (aX aQ hr.u (ix hr.u (dv 1) di) ds) (s1<|sr<|P1<|bp T.passes (jz T n) hr<|ap 0<|ac (ix hr.u (dv 1) di)<|ap 2 an) s0)<|sc (si (aX aQ hr.u (ix hr.u (dv 1) di) ds) (s1<|sr<|cb jP T.jT fX<|ac (su (N:=["inner","columns","row"]) (src:=[none,some 0,some 2]) (js xG) (GB<|ix hr.u (dv 1) di) nK<|bp T.passes (jz T n) hr<|ap 1<|ap 0<|ap 2 an) an) s0)<|sc (si (aX aQ hr.u (ix hr.u (dv 1) di) ds) (s1<|sr<|cb Nj T.NK Hl<|ac (su (N:=["inner","columns","row"]) (src:=[none,some 0,some 2]) (js xG) (GB<|ix hr.u (dv 1) di) nK<|bp T.passes (jz T n) hr<|ap 1<|ap 0<|ap 2 an) an) s0)<|s1<|sr<|bp T.gN (oJ T) hr<|ac (ix hr.u (dv 1) di)<|ac (bp T.cu (dj T) hr<|ap 0<|ap 2<|ac (ix hr.u (dv 1) di) an)<|ac (ix hr.u (dv 1) di) an),?_};rcases hs with (rfl|⟨ks,rfl,hk8,AL⟩|⟨o,c,v,hc,hv,ho,rfl⟩)|⟨e,rfl,he⟩|⟨o,es,ho,rfl,AN,L5⟩;exact !!!⟨kM<|fo q⟩;refine !!!⟨bZ !!!⟨kM ?_⟩⟩;refine !!!!{rfl,?_,?_};rw[List.all_map];exact zZ.mpr λ_ _=>rfl;rw[y8]at q;exact fo q;rw[NY]at q;have fin:∀Zq,fz [D.str o,aj cs r.2 c.1,v] S (λd S'=>Fo S'<|R d) Zq:=λ_=>{o,_,v,c,rfl,(jy hg hw hc).2,hv,ho,fo q};have h4:o ="is"\/o ="below"\/o ="above"\/o ="begins":=by rcases ho with h|⟨_,h|h|⟨h,_⟩⟩;exact .inl h;exact .inr<|.inl h;exact .inr<|.inr<|.inl h;exact .inr<|.inr<|.inr h
  rcases h4 with rfl|rfl|rfl|rfl;exact !!!⟨bZ !!!⟨bZ !!!⟨bZ !!!⟨bZ !!!⟨bZ !!!!!!{cs,r,c,rfl,hg,hw,hc,_,rfl,_,rfl,fin _}⟩⟩⟩⟩⟩;exact !!!⟨bZ !!!⟨bZ !!!⟨bZ !!!⟨bZ !!!⟨bZ !!!!!!{cs,r,c,rfl,hg,hw,hc,_,rfl,_,rfl,fin _}⟩⟩⟩⟩⟩;exact !!!⟨bZ !!!⟨bZ !!!⟨bZ !!!⟨bZ !!!⟨bZ !!!!!!{cs,r,c,rfl,hg,hw,hc,_,rfl,_,rfl,fin _}⟩⟩⟩⟩⟩;exact !!!⟨bZ !!!⟨bZ !!!⟨bZ !!!⟨bZ !!!⟨bZ !!!!!!{cs,r,c,rfl,hg,hw,hc,_,rfl,_,rfl,fin _}⟩⟩⟩⟩⟩;rw[y9]at q;exact !!!⟨bZ !!!⟨bZ !!!⟨kM !!!!{cs,e,r,rfl,hg,he,hw,_,rfl,fo q}⟩⟩⟩;have hz:es.length<=1000:=by lia
  rcases ho with rfl|rfl;rw[y_]at q;refine !!!⟨bZ !!!⟨bZ !!!⟨bZ !!!⟨kM !!{_,.inl rfl,?_}⟩⟩⟩⟩;refine comp_map (λd=>.bl<|aJ cs r n d) trivial hz (λd hd Q hQ=>!!!{cs,d,r,rfl,hg,L5 d hd,hw,hQ}) λp hp=>?_;refine{.ref p,es.map<|aJ cs r n,rfl,?_,S,.new hp,?_};show(S.set p<|.lst<|es.map _) p=_;rw[aa,zq];rfl;rw[all_map];exact q;rw[Ei]at q;refine !!!⟨bZ !!!⟨bZ !!!⟨bZ !!!⟨bZ !!!⟨kM !!{_,.inl rfl,?_}⟩⟩⟩⟩⟩;refine comp_map (λd=>.bl<|aJ cs r n d) trivial hz (λd hd Q hQ=>!!!{cs,d,r,rfl,hg,L5 d hd,hw,hQ}) λp hp=>?_;refine{.ref p,es.map<|aJ cs r n,rfl,?_,S,.new hp,?_};show(S.set p<|.lst<|es.map _) p=_;rw[aa,zq];rfl;rw[List.any_map];exact q
abbrev Row:=ρ×δ D
abbrev Part:=ρ×ρ×ρ
theorem Q4{a b:ρ}(h:a.cps.toList=b.cps.toList):a=b:=by obtain⟨x⟩:=a;obtain⟨y⟩:=b;exact congrArg Str.mk<|Array.ext' h
theorem Ej(a:ρ):rJ a a=false:=zy<|List.lt_irrefl _
theorem vT{a b:ρ}(h:a≠b):rJ b a=!rJ a b:=by unfold rJ;rw[yq];simp only[decide_eq_true_iff,Bool.not_eq_true',yw];constructor;exact λh1 h2=>List.lt_irrefl _<|List.lt_trans h1 h2;intro h1;by_cases h2:b.cps.toList<a.cps.toList;exact h2;exact absurd (Q4<|List.le_antisymm (List.not_lt.mp h2)<|List.not_lt.mp h1) h
theorem Q5(h1:rJ a b=true)(h2:rJ b c=true):rJ a c=true:=zu<|List.lt_trans (zE h1)<|zE h2
theorem Mn(a:D):q9 a a=false:=by cases a<;>first|rfl|exact Ej _|exact zy (Int.lt_irrefl _)
theorem lZ(ha:Vg k a)(hb:Vg k b)(na:a≠.au)(nb:b≠.au)(h:a≠b):q9 b a=!q9 a b:=by rcases kF ha hb na nb with⟨i,j,rfl,rfl⟩|⟨i,j,rfl,rfl⟩;have iw:i≠j:=λe=>h<|congrArg D.int e;show ω (j<i)=!decide (i<j);rw[yq];simp only[decide_eq_true_iff,Bool.not_eq_true',yw];lia;exact vT λe=>h<|congrArg D.str e
theorem Q6(h:q9 x y=true):(∃i j,x=.int i/\y=.int j/\i<j)\/∃i j,x=.str i/\y=.str j/\rJ i j=true:=by unfold q9 at h;split at h;exact .inl {_,_,rfl,rfl,zE h};exact .inr {_,_,rfl,rfl,h};cases h
theorem Ji(h1:q9 a b=true)(h2:q9 b c=true):q9 a c=true:=by rcases Q6 h1 with⟨i,j,rfl,rfl,k1⟩|⟨i,j,rfl,rfl,k1⟩<;>rcases Q6 h2 with⟨j',l,e,rfl,k2⟩|⟨j',l,e,rfl,k2⟩<;>cases e;exact zu<|Int.lt_trans k1 k2;exact Q5 k1 k2
theorem Jj(h:VA a b):q9 a b=true:=by cases a with|int i=>(cases b with|int j=>exact zu h|_=>exact h.elim)|str i=>(cases b with|str j=>exact zu h|_=>exact h.elim)|_=>exact h.elim
noncomputable def cw(p:Part)(x y:D):Bool:=if (ag x != ag y)=true then ag x==ω (p.2.2 ="first") else q9 x y==ω (p.2.1 ="up")
noncomputable def cR(cs:δ<|ρ×ρ)(wy:ρ):δ Part->Row->Row->χ|[],a,b=>rJ a.1 b.1==ω (wy ="up")|p::ps,a,b=>if kE (aj cs a.2 p.1) (aj cs b.2 p.1)=true then cR cs wy ps a b else cw p (aj cs a.2 p.1) (aj cs b.2 p.1)
theorem bxor:((!x)==u)=!(x==u):=by cases x<;>cases u<;>rfl
theorem cP(h:ag x=true):x=.au:=by cases x<;>first|rfl|cases h
theorem nj(hx:Vg k x)(hy:Vg k y)(h:x≠y):cw p y x=!cw p x y:=by unfold cw;cases nx:ag x with|true=>(cases ny:ag y with|true=>exact absurd ((cP nx).trans (cP ny).symm) h|false=>rw[xL<|by rfl,xL<|by rfl];cases ω (p.2.2 ="first")<;>rfl)|false=>cases ny:ag y with|true=>(rw[xL<|by rfl,xL<|by rfl];cases ω (p.2.2 ="first")<;>rfl)|false=>rw[xz<|by simp,xz<|by simp,lZ hx hy (aO nx) (aO ny) h,bxor]
theorem Mp(hx:Vg k x)(hy:Vg k y)(hz:Vg k z)(hxy:x≠y)(hyz:y≠z)(h1:cw p x y=true)(h2:cw p y z=true):x≠z/\cw p x z=true:=by
 have hxz:x≠z:=by rintro rfl;have:=nj (p:=p) hx hy hxy;rw[h1,h2]at this;cases this
 refine{hxz,?_};unfold cw at h1 h2⊢;cases nx:ag x with|true=>(cases ny:ag y with|true=>exact absurd ((cP nx).trans (cP ny).symm) hxy|false=>rw[nx,ny,xL<|by rfl]at h1;cases nz:ag z with|true=>exact absurd ((cP nx).trans (cP nz).symm) hxz|false=>rw[xL<|by rfl];exact h1)|false=>cases ny:ag y with|true=>(rw[nx,ny,xL<|by rfl]at h1;cases nz:ag z with|true=>exact absurd ((cP ny).trans (cP nz).symm) hyz|false=>rw[ny,nz,xL<|by rfl]at h2;cases e:ω (p.2.2 ="first")<;>rw[e]at h1 h2<;>first|cases h1;done|cases h2;done)|false=>rw[nx,ny,xz<|by simp]at h1;cases nz:ag z with|true=>rw[ny,nz,xL<|by rfl]at h2;rw[xL<|by rfl];exact h2|false=>rw[ny,nz,xz<|by simp]at h2;rw[xz<|by simp];cases e:ω (p.2.1 ="up") with|true=>rw[e]at h1 h2;rw[Ji (a:=x) (b:=y) (c:=z) (by simpa using h1)<|by simpa using h2];rfl|false=>rw[e]at h1 h2;have h1:q9 x y=false:=(by simpa using h1);have h2:q9 y z=false:=(by simpa using h2);have a1:=lZ hx hy (aO nx) (aO ny) hxy;have a2:=lZ hy hz (aO ny) (aO nz) hyz;rw[h1]at a1;rw[h2]at a2;have a3:=Ji a2 a1;have a4:=lZ hx hz (aO nx) (aO nz) hxz;rw[a3]at a4;cases q:q9 x z with|true=>(rw[q]at a4;cases a4)|false=>rfl
def Pin(cs:δ<|ρ×ρ)(ps:δ Part):Prop:=∀p∈ps,∃c∈cs,c.1=p.1
section
variable{cs:δ (ρ×ρ)}{wy:ρ}
theorem Pin.tail(h:Pin cs<|p::ps):Pin cs ps:=λq hq=>h q<|zh _ hq
theorem vU(hg:Gd cs)(h:Pin cs<|p::ps):∃k,∀ws,Wg cs ws->Vg k (aj cs ws p.1):=by obtain⟨c,hc,e⟩:=h p zj;rw[<-e];exact{c.2,λws hw=>(jy hg hw hc).2}
theorem z_(hg:Gd cs):∀{ps:δ Part}{a b:Row},Pin cs ps->Wg cs a.2->Wg cs b.2->a.1≠b.1->cR cs wy ps b a=!cR cs wy ps a b|[],a,b,_,_,_,h=>by show(rJ b.1 a.1==_)=!(rJ a.1 b.1==_);rw[vT h,bxor]|p::ps,a,b,hp,ha,hb,h=>by obtain⟨k,hk⟩:=vU hg hp;have va:=hk _ ha;have vb:=hk _ hb;unfold cR;by_cases e:aj cs a.2 p.1=aj cs b.2 p.1;rw[xL<|(bJ vb.2 va.2).mpr e.symm,xL<|(bJ va.2 vb.2).mpr e];exact z_ hg hp.tail ha hb h;rw[xz λq=>e ((bJ vb.2 va.2).mp q).symm,xz λq=>e<|(bJ va.2 vb.2).mp q];exact nj va vb e
def Rg(cs:δ<|ρ×ρ)(rs:δ Row):Prop:=(∀r∈rs,Wg cs r.2)/\(rs.map Prod.fst).Nodup
theorem Rg.perm(h:Rg cs rs)(p:c8.Perm rs):Rg cs c8:={λr hr=>h.1 r<|p.mem_iff.mp hr,(p.map _).nodup_iff.mpr h.2}
theorem Rg.sub(h:Rg cs rs)(p:c8.Sublist rs):Rg cs c8:={λr hr=>h.1 r<|p.subset hr,h.2.sublist<|p.map _}
theorem Mq(hg:Gd cs)(hp:Pin cs ps)(hr:Rg cs m)(hl:l.Pairwise λa b=>cR cs wy ps a b=true)(hm:m.Pairwise λa b=>cR cs wy ps a b=true)(pm:l.Perm m):l=m:=by refine List.Perm.eq_of_pairwise (le:=λa b=>cR cs wy ps a b=true) (λa b ha hb h1 h2=>?_) hl hm pm;have ha:=pm.mem_iff.mp ha;by_cases e:a.1=b.1;exact gZ (f:=Prod.fst) hr.2 ha hb e;have:=z_ (wy:=wy) hg hp (hr.1 a ha) (hr.1 b hb) e;rw[h1,h2]at this;cases this
end
theorem Cv{l m:δ π}(hl:l.Nodup)(hm:m.Nodup)(h:∀x,x∈l↔x∈m):l.Perm m:=by induction l generalizing m with|nil=>(cases m with|nil=>exact .nil|cons y m=>exact absurd ((h y).mpr zj)<|by simp)|cons x l ih=>obtain⟨n1,n2⟩:=yf.mp hl;have hx:=(h x).mp zj;refine .trans ((ih n2 (hm.erase x) λy=>?_).cons x) (List.perm_cons_erase hx).symm;rw[hm.mem_erase_iff];constructor;intro hy;exact{λe=>n1<|e ▸ hy,(h y).mp<|zh _ hy};rintro⟨h1,h2⟩;rcases zk.mp ((h y).mpr h2) with e|e;exact absurd e h1;exact e
theorem map_range(d:α)(xs:δ α):(List.range xs.length).map (λk=>xs.getD k d)=xs:=by refine List.ext_getElem (by simp) λi h1 h2=>?_;simp[zf h2]
theorem F6{α:Type}(d:α){xs:δ α}{g:π->π}(lt:∀k,k<xs.length->g k<xs.length)(inj:∀i j,i<xs.length->j<xs.length->g i=g j->i=j):((List.range xs.length).map λk=>xs.getD (g k) d).Perm xs:=by
 have nd:((List.range xs.length).map g).Nodup:=by refine List.pairwise_map.mpr<|List.nodup_range.imp_of_mem λ{a b} ha hb n e=>n<|inj a b (zU.mp ha) (zU.mp hb) e
 have sub:∀x∈(List.range xs.length).map g,x∈List.range xs.length:=λx hx=>by obtain⟨k,hk,rfl⟩:=zg.mp hx;exact zU.mpr<|lt k<|zU.mp hk
 have p:((List.range xs.length).map g).Perm (List.range xs.length):=Cv nd List.nodup_range λx=>by refine{sub x,λhx=>?_};by_cases h:x∈(List.range xs.length).map g;exact h;exfalso;have:=sub_len nd (m:=(List.range xs.length).erase x) λy hy=>(List.Nodup.mem_erase_iff List.nodup_range).mpr {λe=>h<|e ▸ hy,sub y hy};rw[za,List.length_erase_of_mem hx,List.length_range]at this;have:=zU.mp hx;lia
 have e:((List.range xs.length).map λk=>xs.getD (g k) d)=((List.range xs.length).map g).map λk=>xs.getD k d:=by rw[zq];rfl
 rw[e];have:=p.map λk=>xs.getD k d;rw[map_range]at this;exact this
theorem F8{α:Type}(d:α){xs:δ α}{g:π->π}{r:α->α->η}(h:∀i j,i<j->j<xs.length->r (xs.getD (g i) d) (xs.getD (g j) d)):((List.range xs.length).map λk=>xs.getD (g k) d).Pairwise r:=by rw[List.pairwise_map,List.pairwise_iff_getElem];intro i j hi hj iw;rw[List.length_range]at hj;rw[List.getElem_range,List.getElem_range];exact h i j iw hj
noncomputable def r0:Row:=("",[])
theorem getD_map{rs:δ Row}{j:π}(h:j<rs.length):(rs.map ah).getD j .au=ah (rs.getD j r0):=by rw[zD,zD,zp,zf h];rfl
theorem getD_mem{rs:δ Row}{j:π}(h:j<rs.length):rs.getD j r0∈rs:=by rw[zD,zf h];exact List.getElem_mem h
theorem l4{rs:δ Row}{b:χ}{f:D->D}{g:π->π}(h:Ql b (λj=>f<|(rs.map ah).getD j .au) (rs.map ah).length g): ∃c8:δ Row,(List.range (rs.map ah).length).map (λk=>(rs.map ah).getD (g k) .au)=c8.map ah/\c8.Perm rs/\∀q r:Row->Row->η,rs.Pairwise q->(∀x y,x∈rs->y∈rs->(if b=true then VA (f<|ah y) (f<|ah x) else VA (f<|ah x) (f<|ah y))->r x y)->(∀x y,x∈rs->y∈rs->f (ah x)=f (ah y)->q x y->r x y)->c8.Pairwise r:=by have hn:(rs.map ah).length=rs.length:=za _;rw[hn]at h⊢;refine{(List.range rs.length).map λk=>rs.getD (g k) r0,?_,F6 r0 h.lt h.inj,λq r hq h1 h2=>F8 r0 λi j iw hj=>?_};rw[zq];exact zW λk hk=>getD_map<|h.lt k<|zU.mp hk;have gi:=h.lt i<|Nat.lt_trans iw hj;have gj:=h.lt j hj;have o:=h.ord i j iw hj;rw[getD_map gi,getD_map gj]at o;rcases o with o|⟨o,l⟩;exact h1 _ _ (getD_mem gi) (getD_mem gj) o;refine h2 _ _ (getD_mem gi) (getD_mem gj) o ?_;have:=List.pairwise_iff_getElem.mp hq (g i) (g j) gi gj l;rw[zD,zD,zf gi,zf gj];exact this
section
variable{cs:δ (ρ×ρ)}{wy:ρ}
noncomputable def valued(cs:δ<|ρ×ρ)(p:Part)(r:Row):Bool:=!ag (aj cs r.2 p.1)
theorem Mr(h1:ag x=true)(h2:ag y=true):kE x y=true:=by rw[cP h1,cP h2];rfl
theorem vV(h:ag x≠ag y):kE x y=false:=by unfold kE;split<;>first|rfl|exact absurd rfl h
theorem F9{ps:δ Part}{p:Part}{L V:δ Row}(hL:L.Pairwise λa b=>cR cs wy ps a b=true)(hV:V.Perm<|L.filter<|valued cs p)(XS:V.Pairwise λa b=>cR cs wy (p::ps) a b=true): (if p.2.2 ="first" then L.filter (λr=>!valued cs p r)++V else V++L.filter (λr=>!valued cs p r)).Perm L/\(if p.2.2 ="first" then L.filter (λr=>!valued cs p r)++V else V++L.filter (λr=>!valued cs p r)).Pairwise λa b=>cR cs wy (p::ps) a b=true:=by
 have hN:(L.filter λr=>!valued cs p r).Pairwise λa b=>cR cs wy (p::ps) a b=true:=by refine(hL.sublist yJ).imp_of_mem λ{a b} ha hb h=>?_;have ha:=(yp.mp ha).2;have hb:=(yp.mp hb).2;unfold valued at ha hb;rw[Bool.not_not]at ha hb;show(if kE (aj cs a.2 p.1) (aj cs b.2 p.1)=true then cR cs wy ps a b else _)=true;rw[xL<|Mr ha hb];exact h
 have NZ:∀a∈L.filter (λr=>!valued cs p r),∀b∈V,ag (aj cs a.2 p.1)=true/\ag (aj cs b.2 p.1)=false:=λa ha b hb=>by have ha:=(yp.mp ha).2;have hb:=(yp.mp<|hV.mem_iff.mp hb).2;unfold valued at ha hb;rw[Bool.not_not]at ha;exact{ha,by simpa using hb}
 have pm:(L.filter (λr=>!valued cs p r)++V).Perm L:=(List.Perm.append_left _ hV).trans<|List.perm_append_comm.trans<|List.filter_append_perm (valued cs p) L;by_cases e:p.2.2 ="first";rw[xL e];refine{pm,List.pairwise_append.mpr {hN,XS,λa ha b hb=>?_}};obtain⟨na,nb⟩:=NZ a ha b hb;show(if kE (aj cs a.2 p.1) (aj cs b.2 p.1)=true then cR cs wy ps a b else cw p (aj cs a.2 p.1) (aj cs b.2 p.1))=true;rw[vV<|by rw[na,nb];nofun,xz zd];unfold cw;rw[na,nb,xL<|by rfl,zu e];rfl;rw[xz e];refine{List.perm_append_comm.trans pm,List.pairwise_append.mpr {XS,hN,λa ha b hb=>?_}};obtain⟨na,nb⟩:=NZ b hb a ha;show(if kE (aj cs a.2 p.1) (aj cs b.2 p.1)=true then cR cs wy ps a b else cw p (aj cs a.2 p.1) (aj cs b.2 p.1))=true;rw[vV<|by rw[na,nb];nofun,xz zd];unfold cw;rw[na,nb,xL<|by rfl,zy e];rfl
end
noncomputable abbrev qK:Str:="sorted_by_keys.<locals>.<lambda>"
noncomputable abbrev qV:Str:="sorted_by_values.<locals>.<lambda>"
noncomputable def Q7:D->D|.tup (x::_)=>x|_=>.au
noncomputable def Cy(cs:δ<|ρ×ρ)(z:ρ):D->D|.tup [_,.tup ws]=>aj cs ws z|_=>.au
inductive Jl (t:fA) (ds:δ D) (S:ak) (R:KD) (Z:KX):η where
 |mk (cs:δ<|ρ×ρ) (l:ε) (rs:δ Row) (wy:ρ) (h0:ds=[.ref l,.str wy]) (h1:m_ wy=true) (h2:S l=some (.lst<|rs.map ah)) (h3:rs.length<64) (h4:Rg cs rs) (h5:S t.aK=some (.tab qK)) (h6:∀(c8:δ Row)(p:ε),c8.Perm rs->(c8.Pairwise λa b=>cR cs wy [] a b=true)->S p=none->R (.ref p) (S.set p<|.lst<|c8.map ah))
theorem cW{S S2:ak}{p:ε}{c:Ce}(h:Sub S S2):Sub (S.set p c) (S2.set p c):=λb e hb=>by by_cases q:b=p;subst q;rw[aa]at hb⊢;exact hb;rw[ae q]at hb⊢;exact h b e hb
theorem cH{S S2:ak}{p:ε}(h:Sub S S2)(e:S2 p=none):S p=none:=by cases q:S p with|none=>rfl|some c=>rw[h p c q]at e;cases e
theorem vW{z:ρ}(h:m_ z=true):z ="up"\/z ="down":=by unfold m_ at h;simpa using h
theorem Rg.unlike(h:Rg cs rs):rs.Pairwise λa b=>a.1≠b.1:=List.pairwise_map.mp h.2
theorem l5(T:Txt w K mg t)(B:Bm mg base):Ok P w base T.fb 4 (Jl t):=by
 refine T.fb.F.okC (k:=3) lJ (by rintro ds S R Z ⟨_,_,_,_,e,_⟩;rw[e];rfl) ?_;rintro fJ A outer s H E ds S R Z rH hr ⟨cs,l,rs,wy,e,J3,hl,hn,eP,ht,q⟩;subst e;have AL:xm ((rs.map ah).map Q7):=.inl {rs.map Prod.fst,by rw[zq,zq];rfl};have un:rs.Pairwise λa b=>a.1≠b.1:=eP.unlike;have Kf:(rs.map ah).length<64:=by rw[za];exact hn
 refine{_,(sc (si (aX aQ hr.u (dv 1) ds) (s1<|sr<|NC (N:=["row"]) (src:=[none]) (rH.trans T.fP) ⟨T.du,B⟩ hr (Uu (ai gm) ["rows","way"] rfl rfl<|by trivial) (dv 0) (λ_ _ _ _=>(ix (hr.in1.in1.deeper _).units (dv 0) di)) T.gs eR) s0)<|s1<|sr<|VC (N:=["row"]) (src:=[none]) (rH.trans T.fP) ⟨T.du,B⟩ hr (Uu (ai gm) ["rows","way"] rfl rfl<|by trivial) (dv 0) (λ_ _ _ _=>(ix (hr.in1.in1.deeper _).units (dv 0) di)) T.gs eR),?_};rcases vW J3 with rfl|rfl;refine !!⟨bZ !{l,rs.map ah,Q7,rfl,hl,Kf,ht,AL,λx hx S' hs Qk hQ=>?_,λg S2 p hg hs hp=>?_}⟩;obtain⟨r,hr,rfl⟩:=zg.mp hx;exact !!⟨hQ S'<|.refl _⟩;obtain⟨c8,e,pm,h⟩:=l4 hg;rw[e];refine{S.set p<|.lst<|c8.map ah,cW hs,q c8 p pm (h _ _ un (λx y hx hy dr=>?_) λx y hx hy e ne=>absurd (D.str.inj e) ne)<|cH hs hp};show(rJ x.1 y.1==ω (("up": ρ) ="up"))=true;have:rJ x.1 y.1=true:=zu dr;rw[this];rfl;refine !!⟨kM !{l,rs.map ah,Q7,rfl,hl,Kf,ht,AL,λx hx S' hs Qk hQ=>?_,λg S2 p hg hs hp=>?_}⟩;obtain⟨r,hr,rfl⟩:=zg.mp hx;exact !!⟨hQ S'<|.refl _⟩;obtain⟨c8,e,pm,h⟩:=l4 hg;rw[e];refine{S.set p<|.lst<|c8.map ah,cW hs,q c8 p pm (h _ _ un (λx y hx hy dr=>?_) λx y hx hy e ne=>absurd (D.str.inj e) ne)<|cH hs hp};show(rJ x.1 y.1==ω (("down": ρ) ="up"))=true;have:rJ y.1 x.1=true:=zu dr;by_cases e:x.1=y.1;rw[e,Ej]at this;cases this;rw[vT e]at this;have h2:rJ x.1 y.1=false:=by simpa using this
 rw[h2,zy<|by trivial];rfl
inductive Jm (t:fA) (ds:δ D) (S:ak) (R:KD) (Z:KX):η where
 |mk (cs:δ<|ρ×ρ) (ps:δ Part) (p:Part) (wy:ρ) (l:ε) (rs:δ Row) (h0:ds=[.tup<|cs.map az,p3 p,.ref l]) (h1:Gd cs) (h2:Pin cs<|p::ps) (h3:m_ p.2.1=true) (h4:S l=some (.lst<|rs.map ah)) (h5:rs.length<64) (h6:Rg cs rs) (h7:(∀r∈rs,valued cs p r=true)) (h8:(rs.Pairwise λa b=>cR cs wy ps a b=true)) (h9:S t.aG=some (.tab qV)) (h10:∀(c8:δ Row)(a:ε),c8.Perm rs->(c8.Pairwise λa b=>cR cs wy (p::ps) a b=true)->S a=none->R (.ref a) (S.set a<|.lst<|c8.map ah))
theorem Cz{α:Type}{f:α->D}{β:Type}{mk:β->D} : ∀{l:δ α},(∀x∈l,∃b,f x=mk b)->∃bs:δ β,l.map f=bs.map mk|[],_=>{[],rfl}|x::l,h=>by obtain⟨b,e⟩:=h x zj;obtain⟨bs,e2⟩:=Cz λy hy=>h y<|zh _ hy;exact{b::bs,by rw[zw,e,e2];rfl}
theorem F_{cs:δ<|ρ×ρ}{p:Part}{k:ρ}{rs:δ Row}(hk:∀r∈rs,Vg k<|aj cs r.2 p.1)(hv:∀r∈rs,valued cs p r=true):xm ((rs.map ah).map<|Cy cs p.1):=by
 rw[zq];have nn:∀r∈rs,aj cs r.2 p.1≠.au:=λr hr=>aO (by have:=hv r hr;unfold valued at this;simpa using this);by_cases e:k ="number";refine .inr<|Cz λr hr=>?_;have h1:=hk r hr;have h2:=nn r hr;show ∃b,aj cs r.2 p.1=.int b;generalize aj cs r.2 p.1=v at h1 h2;cases v with|au=>exact absurd rfl h2|int i=>exact⟨i,rfl⟩|str z=>(have h1:=h1.1;unfold gX at h1;simp only[ag,y1]at h1;rw[xL e]at h1;cases h1)|_=>cases h1.2
 refine .inl<|Cz λr hr=>?_;have h1:=hk r hr;have h2:=nn r hr;show ∃b,aj cs r.2 p.1=.str b;generalize aj cs r.2 p.1=v at h1 h2;cases v with|au=>exact absurd rfl h2|str i=>exact⟨i,rfl⟩|int z=>(have h1:=h1.1;unfold gX at h1;simp only[ag,y1]at h1;rw[xz e]at h1;cases h1)|_=>cases h1.2
theorem Jn{cs:δ<|ρ×ρ}{wy:ρ}{ps:δ Part}{p:Part}{x y:Row}(nx:valued cs p x=true)(ny:valued cs p y=true)(ne:kE (aj cs x.2 p.1) (aj cs y.2 p.1)=false)(h:(q9 (aj cs x.2 p.1) (aj cs y.2 p.1)==ω (p.2.1 ="up"))=true):cR cs wy (p::ps) x y=true:=by
 unfold valued at nx ny;have nx:ag (aj cs x.2 p.1)=false:=by simpa using nx
 have ny:ag (aj cs y.2 p.1)=false:=by simpa using ny
 show(if kE (aj cs x.2 p.1) (aj cs y.2 p.1)=true then cR cs wy ps x y else cw p (aj cs x.2 p.1) (aj cs y.2 p.1))=true;rw[ne,xz zd];unfold cw;rw[nx,ny,xz<|by simp];exact h
theorem Jo{x y:D}(h:q9 x y=true):kE x y=false:=by rcases Q6 h with⟨i,j,rfl,rfl,h1⟩|⟨i,j,rfl,rfl,h1⟩<;>exact zy λe=>by rw[e,Mn]at h;cases h
theorem Jp(x y:D):kE x y=kE y x:=by cases x<;>cases y<;>first|rfl|exact decide_eq_decide.mpr ⟨Eq.symm,Eq.symm⟩
theorem jK(T:Txt w K mg t)(B:Bm mg base):Ok P w base T.dM 6 (Jm t):=by
 refine T.dM.F.okC (k:=5) jJ (by rintro ds S R Z ⟨_,_,_,_,_,_,e,_⟩;rw[e];rfl) ?_;rintro fJ A outer s H E ds S R Z rH hr ⟨cs,ps,p,wy,l,rs,e,hg,Jq,J3,hl,hn,eP,hv,N1,ht,q⟩;subst e;obtain⟨c,hc,ec⟩:=Jq p zj;obtain⟨k,hk⟩:=vU hg Jq;have AL:xm ((rs.map ah).map<|Cy cs p.1):=F_ (λr hr=>hk _<|eP.1 r hr) hv;have Kf:(rs.map ah).length<64:=by rw[za];exact hn
 have same:∀x y:Row,x∈rs->y∈rs->Cy cs p.1 (ah x)=Cy cs p.1 (ah y)->cR cs wy ps x y=true->cR cs wy (p::ps) x y=true:=λx y hx hy e h=>by show(if kE (aj cs x.2 p.1) (aj cs y.2 p.1)=true then cR cs wy ps x y else _)=true;rw[xL<|(bJ (hk _<|eP.1 x hx).2 (hk _<|eP.1 y hy).2).mpr e];exact h
 have step:∀x,x∈rs.map ah->∀Qk:KD,∀S':ak,Qk (Cy cs p.1 x) S'->∀Zq,kG [D.tup<|cs.map az,x,.str p.1] S' Qk Zq:=λx hx Qk S' hQ _=>by obtain⟨r,hr,rfl⟩:=zg.mp hx;exact{cs,r,c,by rw[ec],hg,eP.1 r hr,hc,by rw[ec];exact hQ}
 refine{_,(sc (si (aX aQ hr.u (ix hr.u (dv 1) di) ds) (s1<|sr<|NC (N:=["row","columns","part"]) (src:=[none,some 0,some 1]) (rH.trans T.eM) ⟨T.cO,B⟩ hr (Uu (ai e8) ["columns","part","rows"] rfl rfl<|by trivial) (dv 2) (λ_ _ _ _=>(cf ((dj T).mono<|by decide) (hr.in1.in1.deeper _) T.cu.m T.cu.k T.cu.b d0<|ap 1<|ap 0<|ac (ix (hr.in1.in1.deeper _).units (dv 2) di) an)) T.gs eR) s0)<|s1<|sr<|VC (N:=["row","columns","part"]) (src:=[none,some 0,some 1]) (rH.trans T.eM) ⟨T.cO,B⟩ hr (Uu (ai e8) ["columns","part","rows"] rfl rfl<|by trivial) (dv 2) (λ_ _ _ _=>(cf ((dj T).mono<|by decide) (hr.in1.in1.deeper _) T.cu.m T.cu.k T.cu.b d0<|ap 1<|ap 0<|ac (ix (hr.in1.in1.deeper _).units (dv 2) di) an)) T.gs eR),?_};rcases vW J3 with e1|e1;refine !!!⟨lT (by rw[e1];decide +kernel) !{l,rs.map ah,Cy cs p.1,rfl,hl,Kf,ht,AL,λx hx S' hs Qk hQ=>!!!!⟨step x hx _ S' (hQ S'<|.refl _) _⟩,λg S2 a hg hs ha=>?_}⟩;obtain⟨c8,e,pm,h⟩:=l4 hg;rw[e];refine{S.set a<|.lst<|c8.map ah,cW hs,q c8 a pm (h _ _ N1 (λx y hx hy dr=>?_) same)<|cH hs ha};have dr:=Jj (a:=aj cs x.2 p.1) (b:=aj cs y.2 p.1) dr;exact Jn (hv x hx) (hv y hy) (Jo dr) (by rw[dr,zu e1];rfl);refine !!!⟨XN (by rw[e1];decide +kernel) !{l,rs.map ah,Cy cs p.1,rfl,hl,Kf,ht,AL,λx hx S' hs Qk hQ=>!!!!⟨step x hx _ S' (hQ S'<|.refl _) _⟩,λg S2 a hg' hs ha=>?_}⟩;obtain⟨c8,e,pm,h⟩:=l4 hg';rw[e];refine{S.set a<|.lst<|c8.map ah,cW hs,q c8 a pm (h _ _ N1 (λx y hx hy dr=>?_) same)<|cH hs ha};have dr:=Jj (a:=aj cs y.2 p.1) (b:=aj cs x.2 p.1) dr;have ne:=Jo dr;refine Jn (hv x hx) (hv y hy) (by rw[Jp];exact ne) ?_;have nn:∀r∈rs,aj cs r.2 p.1≠.au:=λr hr=>aO (by have:=hv r hr;unfold valued at this;simpa using this);have jx:aj cs x.2 p.1≠aj cs y.2 p.1:=λe=>by have:=(bJ (hk _<|eP.1 y hy).2 (hk _<|eP.1 x hx).2).mpr e.symm;rw[ne]at this;cases this
 have:=lZ (hk _<|eP.1 x hx) (hk _<|eP.1 y hy) (nn x hx) (nn y hy) jx;rw[dr]at this;have h2:q9 (aj cs x.2 p.1) (aj cs y.2 p.1)=false:=by simpa using this
 rw[h2,e1,zy<|by trivial];rfl
def Tb(t:fA)(S:ak):Prop:=S t.aK=some (.tab qK)/\S t.aG=some (.tab qV)
theorem Tb.sub{t:fA}{S S':ak}(h:Tb t S)(s:Sub S S'):Tb t S':={s _ _ h.1,s _ _ h.2}
noncomputable def Ek(b:χ)(cs:δ<|ρ×ρ)(p:Part):D->χ|.tup [_,.tup ws]=>ag (aj cs ws p.1)==b|_=>false
theorem nr{rs:δ Row}{f:D->χ}{g:Row->χ}(h:∀r,f (ah r)=g r):((rs.map ah).filter f).map id=(rs.filter g).map ah:=by rw[List.map_id,List.filter_map];exact congrArg (List.map ah)<|List.filter_congr λr _=>h r
inductive Jr (t:fA) (ds:δ D) (S:ak) (R:KD) (Z:KX):η where
 |mk (cs:δ<|ρ×ρ) (ps:δ Part) (p:Part) (wy:ρ) (l:ε) (rs:δ Row) (h0:ds=[.tup<|cs.map az,p3 p,.ref l]) (h1:Gd cs) (h2:Pin cs<|p::ps) (h3:m_ p.2.1=true) (h4:S l=some (.lst<|rs.map ah)) (h5:rs.length<64) (h6:Rg cs rs) (h7:(rs.Pairwise λa b=>cR cs wy ps a b=true)) (h8:Tb t S) (h9:∀(c8:δ Row)(a:ε),c8.Perm rs->(c8.Pairwise λa b=>cR cs wy (p::ps) a b=true)->S a=none->R (.ref a) (S.set a<|.lst<|c8.map ah))
theorem l6(T:Txt w K mg t)(B:Bm mg base):Ok P w base T.fh 7 (Jr t):=by
 refine T.fh.F.ck cA ?_;obtain⟨cs,ps,p,wy,l,rs,e,hg,Jq,J3,hl,hn,eP,N1,ht,q⟩;obtain⟨c,hc,ec⟩:=Jq p zj;have hz:(rs.map ah).length<=1000:=by rw[za];lia
 refine{_,(sc (qr (N:=["row","columns","part"]) (src:=[none,some 0,some 1]) 3 cA.nd (js gp) (il<|dv 2) (if1<|aX gH hr.u (bp T.cu (dj T) hr<|ap 1<|ap 0<|ac (ix hr.u (dv 2) di) an) dn)<|dv 0)<|sc (qr (N:=["row","columns","part"]) (src:=[none,some 0,some 1]) 4 cA.nd (js gp) (il<|dv 2) (if1<|aX mE hr.u (bp T.cu (dj T) hr<|ap 1<|ap 0<|ac (ix hr.u (dv 2) di) an) dn)<|dv 0)<|sc (bW (i:=4) cA.nd<|bp T.dM (jK T B) hr<|ap 0<|ap 1<|ap 4 an)<|s1<|sr<|UK (aX aQ hr.u (ix hr.u (dv 1) di) ds) (bo aV hr.u (dv 3)<|dv 4)<|bo aV hr.u (dv 4)<|dv 3),?_};refine !{_,hl,?_};refine df (Ek true cs p) id hl hz (λd hd Q Q' hQ AQ=>?_) λp1 nh=>?_;obtain⟨r,hr,rfl⟩:=zg.mp hd;refine !!!!{cs,r,c,(show[D.tup<|cs.map az,ah r,D.str p.1]=[_,_,D.str c.1] by rw[ec]),hg,eP.1 r hr,hc,?_};rw[ec];refine{_,rfl,bQ (λh=>!⟨hQ ?_⟩) λh=>AQ ?_};show(ag (aj cs r.2 p.1)==true)=true;rw[show ag (aj cs r.2 p.1)=true from h];rfl;show(ag (aj cs r.2 p.1)==true)=false;rw[show ag (aj cs r.2 p.1)=false from h];rfl;have e1:((rs.map ah).filter<|Ek true cs p).map id=(rs.filter λr=>!valued cs p r).map ah:=nr λr=>by show(ag (aj cs r.2 p.1)==true)=!valued cs p r;unfold valued;cases ag (aj cs r.2 p.1)<;>rfl
 rw[show({rs.map ah,λS=>o9 S (.ref l)<|rs.map ah}:ke).xs=rs.map ah from rfl,e1];have Q8:Sub S (S.set p1<|.lst<|(rs.filter λr=>!valued cs p r).map ah):=.new nh;have h1:(S.set p1<|.lst<|(rs.filter λr=>!valued cs p r).map ah) p1=some (.lst<|(rs.filter λr=>!valued cs p r).map ah):=aa;generalize S.set p1 (.lst<|(rs.filter λr=>!valued cs p r).map ah)=S1 at Q8 h1⊢;have NX:=Q8 _ _ hl;refine !{_,NX,?_};refine df (Ek false cs p) id NX hz (λd hd Q Q' hQ AQ=>?_) λp2 iy=>?_;obtain⟨r,hr,rfl⟩:=zg.mp hd;refine !!!!{cs,r,c,(show[D.tup<|cs.map az,ah r,D.str p.1]=[_,_,D.str c.1] by rw[ec]),hg,eP.1 r hr,hc,?_};rw[ec];refine{_,rfl,bQ (λh=>!⟨hQ ?_⟩) λh=>AQ ?_};show(ag (aj cs r.2 p.1)==false)=true;rw[show ag (aj cs r.2 p.1)=false from nt h];rfl;show(ag (aj cs r.2 p.1)==false)=false;rw[show ag (aj cs r.2 p.1)=true from nf h];rfl;have e2:((rs.map ah).filter<|Ek false cs p).map id=(rs.filter<|valued cs p).map ah:=nr λr=>by show(ag (aj cs r.2 p.1)==false)=valued cs p r;unfold valued;cases ag (aj cs r.2 p.1)<;>rfl
 rw[show({rs.map ah,λS=>o9 S (.ref l)<|rs.map ah}:ke).xs=rs.map ah from rfl,e2];have JZ:Sub S (S1.set p2<|.lst<|(rs.filter<|valued cs p).map ah):=Q8.trans<|.new iy;have h21:(S1.set p2<|.lst<|(rs.filter<|valued cs p).map ah) p1=_:=(ae<|gC h1 iy).trans h1;have h22:(S1.set p2<|.lst<|(rs.filter<|valued cs p).map ah) p2=_:=aa;generalize S1.set p2 (.lst<|(rs.filter<|valued cs p).map ah)=S2 at JZ h21 h22⊢;have fl:(rs.filter<|valued cs p).length<=rs.length:=yt _ _;have fl2:(rs.filter λr=>!valued cs p r).length<=rs.length:=yt _ _;refine !!!{cs,ps,p,wy,p2,rs.filter<|valued cs p,rfl,hg,Jq,J3,h22,by lia,eP.sub yJ,λr hr=>(yp.mp hr).2,N1.sublist yJ,(ht.sub JZ).2,λV p3 hV XS XM=>?_};obtain⟨pm,pw⟩:=F9 N1 hV XS;have h31:(S2.set p3<|.lst<|V.map ah) p1=_:=(ae<|gC h21 XM).trans h21;have h33:(S2.set p3<|.lst<|V.map ah) p3=some (.lst<|V.map ah):=aa;have V_:Sub S (S2.set p3<|.lst<|V.map ah):=JZ.trans<|.new XM;generalize S2.set p3 (.lst<|V.map ah)=S3 at h31 h33 V_⊢;have hVl:=hV.length_eq;refine !!!⟨bQ (λh=>?_) λh=>?_⟩;rw[xL<|zE h]at pm pw;refine !!{_,_,h31,h33,sm<|by rw[za,za];lia,λp4 hp4=>?_};rw[<-zL];exact{_,cW V_,q _ p4 pm pw<|cH V_ hp4};rw[xz<|ye h]at pm pw;refine !!{_,_,h33,h31,sm<|by rw[za,za];lia,λp4 hp4=>?_};rw[<-zL];exact{_,cW V_,q _ p4 pm pw<|cH V_ hp4}
structure Og(cs:δ (ρ×ρ))(ps:δ Part)(wy:ρ):η where
 pin:Pin cs ps
 aaV:∀p∈ps,m_ p.2.1=true
 way:m_ wy=true
 ok:Jd cs ps wy=true
 tx:∀p∈ps,Pok p
noncomputable def c9(ps:δ Part)(wy:ρ):D:=.tup [.tup<|ps.map p3,.str wy]
inductive Ew (S:ak) (cs:δ<|ρ×ρ) (ps:δ Part) (wy:ρ) (l:ε) (rs:δ Row) (qs:δ Part) (ax:SD) (S':ak):η where
 |mk (o:θ D) (p:ε) (c8:δ Row) (h0:ax=[some<|.tup<|cs.map az,some<|c9 ps wy,some<|.ref l,some<|.ref p,o]) (h1:S p=none) (h2:S' p=some (.lst<|c8.map ah)) (h3:Sub S S') (h4:c8.Perm rs) (h5:c8.Pairwise λa b=>cR cs wy qs a b=true):Ew S cs ps wy l rs qs ax S'
inductive N2 (t:fA) (ds:δ D) (S:ak) (R:KD) (Z:KX):η where
 |mk (cs:δ<|ρ×ρ) (ps:δ Part) (wy:ρ) (l:ε) (rs:δ Row) (h0:ds=[.tup<|cs.map az,c9 ps wy,.ref l]) (h1:Gd cs) (h2:Og cs ps wy) (h3:S l=some (.lst<|rs.map ah)) (h4:rs.length<64) (h5:Rg cs rs) (h6:Tb t S) (h7:∀(c8:δ Row)(a:ε),c8.Perm rs->(c8.Pairwise λa b=>cR cs wy ps a b=true)->S a=none->R (.ref a) (S.set a<|.lst<|c8.map ah))
structure Vw(C:ε)(S:ak)(a:ε)(cs:δ (ρ×ρ))(m:D)(rows:δ Row):η where
 sh:∃F dl rs,bX C S a F cs dl rs/\rs.length<64/\sG dl.length m≠none/\∀i ss,sG dl.length m=some i->ss.Perm (rs.map (·.1))->PyProof.Rows.sortedS ss=true->kD rs i ss=rows.map ah
 mo:Gt S m
 len:rows.length<64
 rg:Rg cs rows
theorem bX.sub(b:Sub S S')(h:bX C S a F cs dl rs):bX C S' a F cs dl rs:=by obtain⟨ld,lr,ra,h,e⟩:=h;exact{ld,lr,ra,{b _ _ h.ins,b _ _ h.xS,b _ _ h.run,λr hr=>b _ _<|h.cell r hr,h.kn,h.an,h.sz},e}
theorem Ab(T:Txt w K mg t)(B:Bm mg base):Ok P w base T.qE 8 (N2 t):=by
 refine T.qE.F.ck fR ?_;obtain⟨cs,ps,wy,l,rs,e,hg,ho,hl,hn,eP,ht,q⟩;refine{_,(sc (bW (i:=3) fR.nd<|bp T.fb (l5 T B) hr<|ap 2<|ac (ix hr.u (dv 1) di) an)<|sc (nL<|HJ (irt T.qC<|ac (ix hr.u (dv 1) di) an) (gn (i:=4) fR.nd)<|s1<|bW (i:=3) fR.nd<|bp T.fh (l6 T B) hr<|ap 0<|ap 4<|ap 3 an)<|s1<|sr<|dv 3),?_};refine !!!{cs,l,rs,wy,rfl,ho.way,hl,hn,eP,ht.1,λrs1 p1 pm1 pw1 nh=>?_};have hrl:ps.reverse.length=ps.length:=yI;refine{Ew S cs ps wy l rs ps,?_,?_};refine !!!⟨?_⟩;refine{λi=>Ew S cs ps wy l rs (ps.reverse.take i).reverse,{none,p1,rs1,rfl,nh,aa,.new nh,pm1,pw1},λ_ _ _ _=>trivial,?_,?_};rintro i d ax S' hd ⟨o,p,c8,rfl,hp,eJ,sb,pm,pw⟩;have hd:(ps.map p3).reverse[i]?=some d:=hd;rw[<-List.map_reverse,zp]at hd;cases e5:ps.reverse[i]? with|none=>(rw[e5]at hd;cases hd)|some pt=>rw[e5]at hd;cases hd;have Wa:pt∈ps:=List.mem_reverse.mp<|zH e5;have et:(ps.reverse.take<|i+1).reverse=pt::(ps.reverse.take i).reverse:=(by rw[List.take_add_one,e5,List.reverse_append];rfl);have Hr:Pin cs (pt::(ps.reverse.take i).reverse):=λx hx=>(by rcases zk.mp hx with rfl|hx;exact ho.pin _ Wa;exact ho.pin _<|List.mem_reverse.mp<|List.mem_of_mem_take<|List.mem_reverse.mp hx);refine !!!{cs,(ps.reverse.take i).reverse,pt,wy,p,c8,rfl,hg,Hr,ho.aaV pt Wa,eJ,by rw[pm.length_eq];exact hn,eP.perm pm,pw,ht.sub sb,λZ1 p2 pm2 pw2 iy=>?_};rw[<-et]at pw2;exact{_,p2,Z1,rfl,cH sb iy,aa,sb.trans<|.new iy,pm2.trans pm,pw2}
 rintro ax S' ⟨o,p,c8,rfl,hp,eJ,sb,pm,pw⟩;have pw:c8.Pairwise λa b=>cR cs wy (ps.reverse.take (ps.map p3).reverse.length).reverse a b=true:=pw;rw[yI,za,List.take_of_length_le<|Nat.le_of_eq hrl,List.reverse_reverse]at pw;exact fo ⟨o,p,c8,rfl,hp,eJ,sb,pm,pw⟩;rintro ax S' ⟨o,p,c8,rfl,hp,eJ,sb,pm,pw⟩;refine !{S.set p<|.lst<|c8.map ah,λb c hb=>?_,q c8 p pm pw hp};by_cases e:b=p;subst e;rw[aa]at hb;cases hb;exact eJ;rw[ae e]at hb;exact sb b c hb
noncomputable def n_(cs:δ<|ρ×ρ)(d:D):D->χ|.tup [.str k,.tup ws]=>aJ cs (k,ws) 7 d|_=>false
inductive Js (t:fA) (ds:δ D) (S:ak) (R:KD) (Z:KX):η where
 |mk (a cs d m rows) (h0:ds=[.ref a,d,m]) (h1:Gd cs) (h2:Sq cs d) (h3:Vw t.aq S a cs m rows) (h4:∀p,S p=none->R (.ref p) (S.set p<|.lst<|(rows.filter λr=>aJ cs r 7 d).map ah))
theorem oK(T:Txt w K mg t):Ok P w base T.gO 11 (Js t):=by refine T.gO.F.ck ig ?_;obtain⟨a,cs,d,m,rows,e,hg,hd,hv,q⟩;obtain⟨F,dl,rs,hS,hn,hmo,Q9⟩:=hv.sh;obtain⟨ld,lr,ra,h,_⟩:=id hS;refine{_,(sc (bW (i:=3) ig.nd<|oA (dv 0) T.ao T.aN (bU T) hr)<|s1<|sr<|su (N:=["row","columns","sieve"]) (src:=[none,some 3,some 1]) (js qv) (il<|so (dv 0) T.ao T.gM (FW T) hr<|ap 2 an) (if1<|tv<|bp T.passes (jz T 7) hr<|ap 1<|ap 2<|ap 0 an)<|dv 0),?_};refine !{a,_,rfl,h.ins,rfl,a,F,cs,dl,rs,rfl,hS,?_};refine !{a,_,rfl,h.ins,rfl,_,rfl,a,F,cs,dl,rs,m,rfl,hS,hn,hv.mo,λi ss hi hp hs p m9=>?_,λh=>absurd h hmo};rw[Q9 i ss hi hp hs];refine{_,aa,?_};refine df (n_ cs d) id aa (by show(rows.map ah).length<=1000;rw[za];have:=hv.len;lia) (λx hx Q Q' hQ AQ=>?_) λp2 iy=>?_;obtain⟨r,hr,rfl⟩:=zg.mp hx;refine !!!{cs,d,r,rfl,hg,hd.1,hv.rg.1 r hr,_,rfl,bQ (λh=>!⟨hQ h⟩) λh=>AQ h};have e1:((rows.map ah).filter<|n_ cs d).map id=(rows.filter λr=>aJ cs r 7 d).map ah:=nr λr=>rfl;rw[show({rows.map ah,λS=>o9 S (.ref p)<|rows.map ah}:ke).xs=rows.map ah from rfl,e1];exact{_,cW<|.new m9,q p2<|cH (.new m9) iy}
inductive Wb (t:fA) (ds:δ D) (S:ak) (R:KD) (Z:KX):η where
 |mk (a cs ps wy d m rows) (h0:ds=[.ref a,c9 ps wy,d,m]) (h1:Gd cs) (h2:Og cs ps wy) (h3:Sq cs d) (h4:Vw t.aq S a cs m rows) (h5:Tb t S) (h6:∀(c8:δ Row)(p:ε),c8.Perm (rows.filter λr=>aJ cs r 7 d)->(c8.Pairwise λa b=>cR cs wy ps a b=true)->S p=none->R (.ref p) (S.set p<|.lst<|c8.map ah))
theorem l7(T:Txt w K mg t)(B:Bm mg base):Ok P w base T.fg 12 (Wb t):=by refine T.fg.F.ck lI ?_;obtain⟨a,cs,ps,wy,d,m,rows,e,hg,ho,hd,hv,ht,q⟩;obtain⟨F,dl,rs,hS,hn,hmo,Q9⟩:=hv.sh;obtain⟨ld,lr,ra,h,_⟩:=id hS;refine{_,(s1<|sr<|bp T.qE (Ab T B) hr<|ac (oA (dv 0) T.ao T.aN (bU T) hr)<|ap 1<|ac (bp T.gO (oK T) hr<|ap 0<|ap 2<|ap 3 an) an),?_};refine !{a,_,rfl,h.ins,rfl,a,F,cs,dl,rs,rfl,hS,?_};refine !!!!{a,cs,d,m,rows,rfl,hg,hd,hv,λp hp=>?_};have fl:(rows.filter λr=>aJ cs r 7 d).length<=rows.length:=yt _ _;have:=hv.len;refine{cs,ps,wy,p,rows.filter λr=>aJ cs r 7 d,rfl,hg,ho,aa,Nat.lt_of_le_of_lt fl this,hv.rg.sub yJ,ht.sub<|.new hp,λc8 p2 pm pw iy=>?_};exact{_,cW<|.new hp,q c8 p2 pm pw<|cH (.new hp) iy}
theorem Q_:Gt S (.tup ws):={{.tup,rfl},λ_=>nofun}
theorem Ms(h:ws.length<=1000)(g:∀v∈ws,Gt S v):SJ S (.tup ws):={Q_,λXQ e=>by cases e;exact⟨h,g⟩}
theorem gt_int:Gt S (.int i):={{.int,rfl},λ_=>nofun}
theorem El(h:z.cps.size<=1000):Gt S (.str z):={{.str,rfl},λz' e=>by cases e;exact h}
theorem Jt(h:bx d=true):Gt S d:=by cases d with|au=>exact vI|int i=>exact gt_int|str z=>have h:(ω (z.cps.size<=40)&&PyData.strOk z)=true:=h;rw[zJ]at h;have:=zE h.1;exact El (by lia)|_=>cases h
theorem CA(h:Paired rel cs ws):ws.length=cs.length:=by induction h with|nil=>rfl|cons _ _ ih=>rw[zO,zO,ih]
theorem Wg.len(h:Wg cs ws):ws.length=cs.length:=CA h
theorem Wg.Rb(h:Wg cs ws):lN cs (.tup ws)=true:=by show(ω (ws.length=cs.length)&&(List.zipWith (λc v=>gX c.2 v) cs ws).all id)=true;rw[zu h.len,yi];unfold Wg at h;induction h with|nil=>rfl|cons r t ih=>rw[List.zipWith_cons_cons,List.all_cons,ih];show(id (gX _ _)&&true)=true;rw[show id (gX _ _)=true from r.1];rfl
theorem Wg.gts(h:Wg cs ws)(hc:cs.length<=8):SJ S (.tup ws):=Ms (by rw[h.len];lia) λv hv=>Jt<|h.all v hv
theorem Mt(hg:Gd cs)(hN:∀c∈cs,c.1∈AR):∀d∈cs.map az,Ly S 60 d:=λd hd=>by obtain⟨c,hc,rfl⟩:=zg.mp hd;refine(Ly.tup (n:=0) λx hx=>?_).le (by decide);have hx:x∈[D.str c.1,D.str c.2]:=hx;simp only[zk,zP,or_false]at hx;rcases hx with rfl|rfl;exact Ly.str (IY _<|hN c hc).2;rcases (hg.2.2 c hc).2 with e|e<;>rw[e]<;>exact Ly.str (by trivial)
theorem pF{S:ak}{a b:ε}{ds:δ D}{R:KD}(e1:S a=some (.lst ds))(e2:S b=some (.lst []))(h:∀d∈ds,Ly S 60 d)(q:R (.bl<|!ds.isEmpty) S):Gy true (.ref a) (.ref b) S R:=by obtain⟨ps,k1,k2,k3,k4⟩:=Ly.all h;refine{.list ps,.list [],⟨ds,ps,e1,rfl,k1⟩,{[],[],e2,rfl,by simp only[DpAll]},by simp only[PyData.canLay0];exact k2,by simp only[PyData.canLay0,PyData.canLayAll0],.inl<|by simp only[PyData.depth];lia,?_};rw[xL rfl,x6,show ps.isEmpty=ds.isEmpty by cases ps<;>cases ds<;>first|rfl|cases k4];exact q
theorem Mu{n a b tn:π}(ha:a<n)(hb:b<n)(h:(a+tn)%n=(b+tn)%n):a=b:=by rcases Nat.lt_trichotomy a b with l|l|l;have:=Nat.sub_mod_eq_zero_of_mod_eq h.symm;rw[show b+tn-(a+tn)=b-a by lia,Nat.mod_eq_of_lt<|by lia]at this;lia;exact l;have:=Nat.sub_mod_eq_zero_of_mod_eq h;rw[show a+tn-(b+tn)=a-b by lia,Nat.mod_eq_of_lt<|by lia]at this;lia
noncomputable def ub(cs:δ<|ρ×ρ)(tn k:π):Str:=(cs.getD ((tn+k)%cs.length) ("","")).1
theorem Ac(h:0<cs.length):∃c∈cs,cs[(tn+k)%cs.length]?=some c/\c.1=ub cs tn k:=by have dr:(tn+k)%cs.length<cs.length:=Nat.mod_lt _ h;refine{cs[(tn+k)%cs.length],List.getElem_mem dr,zf dr,?_};unfold ub;rw[zD,zf dr];rfl
theorem Ad{cs:δ<|ρ×ρ}(hg:(cs.map Prod.fst).Nodup){tn i:π}(hi:i<=cs.length):((List.range i).map<|ub cs tn).Nodup:=by
 refine List.pairwise_map.mpr<|List.nodup_range.imp_of_mem λ{a b} ha hb n e=>n ?_;have ha:=zU.mp ha;have hb:=zU.mp hb;have h0:0<cs.length:=by lia
 have la:(tn+a)%cs.length<cs.length:=Nat.mod_lt _ h0;have lb:(tn+b)%cs.length<cs.length:=Nat.mod_lt _ h0;unfold ub at e;rw[zD,zf la,zD,zf lb]at e;have e:(cs[(tn+a)%cs.length]).1=(cs[(tn+b)%cs.length]).1:=e;have e2:(cs.map Prod.fst)[(tn+a)%cs.length]'(by rw[za];exact la)=(cs.map Prod.fst)[(tn+b)%cs.length]'(by rw[za];exact lb):=by rw[List.getElem_map,List.getElem_map];exact e
 have e3:=(List.getElem_inj hg).mp e2;rw[Nat.add_comm tn a,Nat.add_comm tn b]at e3;exact Mu (n:=cs.length) (by lia) (by lia) e3
inductive Ow (S1:ak) (cs:δ<|ρ×ρ) (c0:ν) (lx lp:ε) (k tn i:π) (ax:SD) (S':ak):η where
 |mk (o5 o6:θ D) (ps:δ Part) (h0:ax=[some<|.tup<|cs.map az,some<|.int c0,some<|.ref lx,some<|.int (k:π),some<|.ref lp,o5,o6]) (h1:ps.map Prod.fst=(List.range i).map (ub cs tn)) (h2:∀p∈ps,m_ p.2.1=true/\Jc p.2.2=true) (h3:S'=S1.set lp (.lst<|ps.map p3)):Ow S1 cs c0 lx lp k tn i ax S'
inductive uc (ds:δ D) (S:ak) (R:KD) (Z:KX):η where
 |mk (cs:δ<|ρ×ρ) (c:ν) (h0:ds=[.tup<|cs.map az,.int c]) (h1:Gd cs) (h2:∀(ps:δ Part)(wy:ρ),Og cs ps wy->R (c9 ps wy) S)
theorem Ju(T:Txt w K mg t):Ok P w base T.vg 2 uc:=by
 refine T.vg.F.ck dQ ?_;obtain⟨cs,c0,e,hg,q⟩;have h8:=hg.1;have Bi:(cs.map az).length=cs.length:=za _;refine{_,(sc (bW (i:=2) dQ.nd<|bp T.jv (lU T) hr<|ap 1<|ac di an)<|sc (bW (i:=3) dQ.nd<|cb Nk T.NM Hw<|ac (cb aZ T.aT aH<|ap 0 an)<|ac (wB<|ix hr.u (b8<|ac di<|ac di<|ac di<|ac di<|ac di<|ac di<|ac di<|ac di an)<|bo bz hr.u (ix hr.u (dv 2) di) di) an)<|sc (bW (i:=4) dQ.nd<|b8 an)<|sc (nL<|HJ (Nq T.fO<|ap 3 an) (gn (i:=5) dQ.nd)<|sc (bW (i:=6) dQ.nd<|ix hr.u (ix hr.u (dv 0)<|bo bz hr.u (bo aV hr.u (ix hr.u (dv 2) di)<|dv 5)<|cb aZ T.aT aH<|ap 0 an) di)<|s1<|se<|bm zQ yb yc cC (dv 4)<|ac (b9<|ap 6<|ac (wB<|ix hr.u (b8<|ac ds<|ac ds an)<|bo bz hr.u (ix hr.u (dv 2)<|bo aV hr.u di<|dv 5) di)<|ac (wB<|ix hr.u (b8<|ac ds<|ac ds an)<|bo bz hr.u (bo bS hr.u (ix hr.u (dv 2)<|bo aV hr.u di<|dv 5) di) di) an) an)<|s1<|sr<|b9<|ac (ct gI T.bP bu<|ap 4 an)<|ac (wB<|ix hr.u (b8<|ac ds<|ac ds an)<|bo bz hr.u (ix hr.u (dv 2) di) di) an),?_};refine !{c0,12,rfl,by decide,λxs lx NT hx Bk=>?_};have s1:=Sub.new (c:=.lst<|xs.map D.int) Bk;have hX:(S.set lx<|.lst<|xs.map D.int) lx=some (.lst<|xs.map D.int):=aa;generalize S.set lx (.lst<|xs.map D.int)=S1 at s1 hX⊢;have at_:∀k:π,k<12->∃x:ν,iK (xs.map D.int) ((k:π):ν)=some (.int x)/\0<=x:=λk hk=>xY (by lia) (by rw[za];lia) hx;obtain⟨x0,e0,_⟩:=at_ 0 (by decide);obtain⟨x1,e1,x10⟩:=at_ 1 (by decide);obtain⟨x11,e11,_⟩:=at_ 11 (by decide);obtain⟨tn,rfl⟩:=Int.eq_ofNat_of_zero_le x10;refine !!{FQ,λp hp=>!{_,_,(Sub.new hp) _ _ hX,e0,by decide,cB (zR _<|by decide) (zM _<|by decide) hp λd hd=>?_}};obtain⟨m,rfl⟩:∃m:π,d=.int m:=by have hd:d∈[D.int 1,.int 2,.int 0,.int 3,.int 1,.int 2,.int 8,.int 3]:=hd;simp only[zk,zP,or_false]at hd;rcases hd with h|h|h|h|h|h|h|h;exact{1,h};exact{2,h};exact{0,h};exact{3,h};exact{1,h};exact{2,h};exact{8,h};exact{3,h}
 obtain⟨k,hk,ek⟩:∃k:π,k<=cs.length/\(if ω ((m:ν)<(((cs.map az).length:π):ν))=true then (m:ν) else (((cs.map az).length:π):ν))=(k:ν):=by rw[Bi];by_cases h:(m:ν)<((cs.length:π):ν);exact{m,by lia,by rw[zu h,xL rfl]};exact{cs.length,zm _,by rw[zy h,xz zd]}
 refine{_,_,rfl,?_};have ek2:(if (λi j:ν=>ω<|i<j) ((m:π):ν) (((cs.map az).length:π):ν)=true then ((m:π):ν) else (((cs.map az).length:π):ν))=((k:π):ν):=ek;rw[ek2];refine{kB,λlp hlp=>?_};have nxp:lx≠lp:=gC hX hlp;refine{Ow S1 cs c0 lx lp k tn k,?_,?_};refine !{((k:π):ν),rfl,by lia,by lia,?_};refine{Ow S1 cs c0 lx lp k tn,{none,none,[],rfl,rfl,λ_ h=>(nomatch h),rfl},λ_ _ _ _=>trivial,?_,?_};rintro i d ax S' hd ⟨o5,o6,ps,rfl,hn,c_,rfl⟩;have hd:(dJ 0 ((k:π):ν).toNat)[i]?=some d:=hd;obtain⟨hi,rfl⟩:=cQ hd;have hi:i<k:=by lia
 have eJ:ps.length=i:=by have:=congrArg List.length hn;simpa using this
 obtain⟨c,hc,ec,su⟩:=Ac (cs:=cs) (tn:=tn) (k:=i) (by lia);have I9:(S1.set lp<|.lst<|ps.map p3) lx=some (.lst<|xs.map D.int):=(ae nxp).trans hX;have hP2:(S1.set lp<|.lst<|ps.map p3) lp=some (.lst<|ps.map p3):=aa;have eat:iK (cs.map az) ((((tn:π):ν)+(0+((i:π):ν)))%(((cs.map az).length:π):ν))=some (az c):=by rw[Bi,show(((tn:π):ν)+(0+((i:π):ν)))%((cs.length:π):ν)=(((tn+i)%cs.length:π):ν) by rw[Int.zero_add,Int.natCast_emod,Int.natCast_add]];refine bE ?_;rw[zp,ec];rfl
 obtain⟨xi,XT,_⟩:=at_ (2+i) (by lia);have XT:iK (xs.map D.int) (2+(0+((i:π):ν)))=some (.int xi):=by rw[show(2:ν)+(0+((i:π):ν))=((2+i:π):ν) by lia];exact XT
 refine !!{_,_,I9,e1,_,rfl,_,rfl,_,rfl,by rw[Bi];lia,_,eat,_,rfl,?_};refine{_,rfl,{rfl,_,hP2},_,rfl,cz,λp hp=>!!{_,_,(Sub.new hp) _ _ I9,XT,by decide,cB (zR _<|by decide) (zM _<|by decide) hp λd hd=>?_}};obtain⟨wy,rfl,J3⟩:∃wy:ρ,d=.str wy/\m_ wy=true:=by have hd:d∈[D.str "up",.str "down"]:=hd;simp only[zk,zP,or_false]at hd;rcases hd with h|h;exact{_,h,by trivial};exact{_,h,by trivial}
 refine{cz,λp hp=>!!{_,_,(Sub.new hp) _ _ I9,XT,{by decide,by trivial},by decide,cB (zR _<|by decide) (zM _<|by decide) hp λd hd=>?_}};obtain⟨en,rfl,AJ⟩:∃en:ρ,d=.str en/\Jc en=true:=by have hd:d∈[D.str "first",.str "last"]:=hd;simp only[zk,zP,or_false]at hd;rcases hd with h|h;exact{_,h,by trivial};exact{_,h,by trivial}
 refine{qL,lp,_,_,rfl,rfl,hP2,bg<|by rw[za];lia,?_};refine{_,_,ps++[(c.1,wy,en)],rfl,?_,λx hx=>?_,?_};rw[zL,hn,List.range_succ,zL];show _=_++[ub cs tn i];rw[<-su];rfl;rcases zN.mp hx with h|h;exact c_ x h;rw[zI.mp h];exact⟨J3,AJ⟩;rw[ba,zL];rfl;rintro ax S' ⟨o5,o6,ps,rfl,hn,c_,rfl⟩;rw[show({dJ 0 ((k:π):ν).toNat,λ_=>True}:ke).xs.length=((k:π):ν).toNat from cq,show((k:π):ν).toNat=k by lia]at hn;exact fo ⟨o5,o6,ps,rfl,hn,c_,rfl⟩;rintro ax S' ⟨o5,o6,ps,rfl,hn,c_,rfl⟩;have I9:(S1.set lp<|.lst<|ps.map p3) lx=some (.lst<|xs.map D.int):=(ae nxp).trans hX;refine !{_,_,rfl,.inl aa,cz,λp hp=>!{_,_,(Sub.new hp) _ _ I9,e11,by decide,cB (zR _<|by decide) (zM _<|by decide) hp λd hd=>?_}};obtain⟨wy,rfl,J3⟩:∃wy:ρ,d=.str wy/\m_ wy=true:=by have hd:d∈[D.str "up",.str "down"]:=hd;simp only[zk,zP,or_false]at hd;rcases hd with h|h;exact{_,h,by trivial};exact{_,h,by trivial}
 have eJ:ps.length=k:=by have:=congrArg List.length hn;simpa using this
 have pin:Pin cs ps:=λx hx=>by have:x.1∈ps.map Prod.fst:=zg.mpr ⟨x,hx,rfl⟩;rw[hn]at this;obtain⟨k,hk,e⟩:=zg.mp this;have:=zU.mp hk;obtain⟨c,hc,_,ec⟩:=Ac (cs:=cs) (tn:=tn) (k:=k) (by lia);exact{c,hc,ec.trans e}
 refine{cz,S,s1.trans<|.new hlp,q ps wy {pin,λx hx=>(c_ x hx).1,J3,?_,λx hx=>?_}};unfold Jd;rw[zu<|show ps.length<=8 by lia,yi,zJ,zJ];refine{zZ.mpr λx hx=>?_,zu<|by rw[hn];exact Ad hg.2.1 hk,J3};obtain⟨c,hc,ec⟩:=pin x hx;unfold Eg;rw[zu<|zg.mpr ⟨c,hc,ec⟩,(c_ x hx).1,(c_ x hx).2];rfl;obtain⟨c,hc,ec⟩:=pin x hx;obtain⟨h1,h2⟩:=c_ x hx;refine{by rw[<-ec];exact mZ (hg.2.2 c hc).1,by rcases vW h1 with e|e<;>rw[e]<;>decide +kernel,?_};unfold Jc at h2;simp only[yS,zK]at h2;rcases h2 with e|e<;>rw[e]<;>decide +kernel
theorem Jv{c1:χ}{X A B:η}(c2:χ)(hx:(if c2=true then A else B)->X)(h:if (c1||c2)=true then A else B):if c1=true then (if true=true then A else B) else X:=by cases c1 with|true=>exact h|false=>exact hx h
theorem vX{c1:χ}{X A B:η}(c2:χ)(hx:(if c2=true then A else B)->X)(h:if (c1&&c2)=true then A else B):if c1=true then X else (if false=true then A else B):=by cases c1 with|true=>exact hx h|false=>exact h
theorem keys_str{out:δ D} : (∀d∈out,∃z∈KS,d=.str z)->∃ks:δ ρ,out=ks.map D.str/\∀k∈ks,k∈KS:=by induction out with|nil=>exact λ_=>{[],rfl,λ_ h=>(nomatch h)}|cons x l ih=>intro h;obtain⟨z,hz,e⟩:=h x zj;obtain⟨ks,e2,hk⟩:=ih λd hd=>h d<|zh _ hd;exact{z::ks,by rw[e,e2];rfl,λk KP=>(zk.mp KP).elim (λe=>e ▸ hz)<|hk k}
theorem CB{rel:D->D->η}{xs out:δ D}(h:Paired rel xs out):∀v∈out,∃x,rel x v:=by induction h with|nil=>exact λ_ h=>(nomatch h)|cons r t ih=>exact List.forall_mem_cons.mpr {{_,r},ih}
theorem N3{cs:δ<|ρ×ρ}{d:D}(h:Lf cs d){n:π} : n5 (n+1) d=1:=by rcases h with rfl|⟨ks,rfl,_⟩|⟨o,c,v,_,_,_,rfl⟩<;>rfl
theorem Rf(n:π)(e:D):n5 (n+1) (.tup [.str "not",e])=n5 n e+1:=by show((lX _).map<|n5 n).sum+1=_;rw[vP];simp
theorem Mv{o:ρ}(h:o ="and"\/o ="or")(n:π)(ds:δ D):n5 (n+1) (.tup [.str o,.tup ds])=(ds.map<|n5 n).sum+1:=by show((lX _).map<|n5 n).sum+1=_;rw[vQ h]
theorem Ga{I:ke}{S1:ak}{g:xb}{te:TD}{σ:SD}{src:δ<|θ π}{R:KD}(P:π->δ D->ak->η)(h0:P 0 [] S1)(aI:∀i out S,P i out S->I.ok S) (step:∀i d out S,I.xs[i]?=some d->P i out S->out.length<sizeLine/\g d (k7 σ src) S λfC S3=>te fC S3 (λv S5=>P (i+1) (out++[v]) S5) Zf) (fin:∀out S2,P I.xs.length out S2->∀p,S2 p=none->R (.ref p) (S2.set p<|.lst out)):xc σ src g k8 te R I S1:=by
 refine{P,h0,aI,λi d out S hd h=>{(step i d out S hd h).1,?_},fin};have e:(λ(fC:SD)(S3:ak)=>k8 fC S3 (λb S4=>if b=true then te fC S4 (λv S5=>P (i+1) (out++[v]) S5) Zf else P (i+1) out S4) Zf)=λfC S3=>te fC S3 (λv S5=>P (i+1) (out++[v]) S5) Zf:=by funext fC S3;simp[k8]
 rw[e];exact(step i d out S hd h).2
theorem Jw{f:D->π}{k:π} : ∀{l:δ D},(∀e∈l,f e<=k)->(l.map f).sum<=k*l.length|[],_=>zY _|e::l,h=>by have h1:=h e zj;have ih:=Jw λx hx=>h x<|zh _ hx;rw[zw,List.sum_cons,zO,Nat.mul_succ];lia
noncomputable def Rh:π->π|0=>0|n+1=>1+3*Rh n
theorem Ri{S S':ak}{p:ε}{c c':Ce}(h:Sub (S.set p c) S'):Sub (S.set p c') (S'.set p c'):=λb x hb=>by by_cases e:b=p;subst e;rw[aa]at hb⊢;exact hb;rw[ae e]at hb⊢;exact h b x<|(ae e).trans hb
inductive Rj (n:π) (ds:δ D) (S:ak) (R:KD) (Z:KX):η where
 |mk (cs:δ<|ρ×ρ) (lx:ε) (m:π) (xs:δ ν) (hn:n=m+1) (h0:ds=[.tup<|cs.map az,.ref lx,.int ((m:π):ν)]) (h1:Cg cs) (h2:S lx=some (.lst<|xs.map D.int)) (h3:xs.length<=20) (h4:∀x∈xs,0<=x)
  (h5:∀(d:D)(ys:δ ν),Sg cs n d->n5 n d<=Rh n->ys.length<=20->(∀y∈ys,0<=y)->R d (S.set lx<|.lst<|ys.map D.int)):Rj n ds S R Z
theorem nv(T:Txt w K mg t):∀n,Ok P w base T.gR (2+n) (Rj n)
 |0=>by refine T.gR.F.ck (k:=1) cF ?_;rintro _ _ _ _ _ _ _ S R Z hr ⟨_,_,_,_,e,_⟩;cases e
 |n+1=>by
  refine T.gR.F.ck (k:=2+n) cF ?_;obtain⟨cs,lx,m,xs,en,e,hc,hX,NT,hx,q⟩;cases en;have hg:=hc.1;have n2:=cz;have n3:=qL;refine{_,(sc (bW (i:=3) cF.nd<|bp T.pz (xZ T) hr<|ap 1 an)<|sc (bW (i:=4) cF.nd<|bo bz hr.u (dv 3) di)<|sc (si (twd<|twand (aX mD hr.u (dv 2) di)<|tw1<|aX aQ hr.u (dv 4) di) (s1<|sr<|b9<|ac ds<|ac (bp T.gR (nv T n) hr<|ap 0<|ap 1<|ac (bo tH hr.u (dv 2) di) an) an) s0)<|sc (si (twd<|twand (aX mD hr.u (dv 2) di)<|tw1<|aX mC hr.u (dv 4) di) (sc (qr (N:=["_law_k","_law_columns_here","_law_xs","_law_deep"]) (src:=[none,some 0,some 1,some 2]) 5 cF.nd (js tR) (Nq T.fO<|ac (wB<|ix hr.u (b8<|ac di<|ac di<|ac di<|ac di an)<|bo bz hr.u (bo bS hr.u (dv 3) di) di) an) nK<|bp T.gR (nv T n) hr<|ap 1<|ap 2<|ac (bo tH hr.u (dv 3) di) an)<|s1<|sr<|b9<|ac (wB<|ix hr.u (b8<|ac ds<|ac ds an)<|bo tH hr.u (dv 4) di)<|ac (ct gI T.bP bu<|ap 5 an) an) s0)<|sc (si (twd<|twor (aX aQ hr.u (dv 4) di)<|tw1<|aX aQ hr.u (dv 0)<|b9 an) (s1<|sr<|wB<|ix hr.u (b8<|ac (b9<|ac ds an)<|ac (b9<|ac ds<|ac (ct gI T.bP bu<|ac (su (N:=["_law_k","_law_x"]) (src:=[none,some 3]) (js tR) (Nq T.fO<|ac (bo bz hr.u (bo bS hr.u (dv 3) di) di) an) nK<|bp T.D1 (IZ T) hr<|ac (bo aV hr.u (bo bS hr.u (dv 1) di)<|bo qd hr.u di<|dv 0) an) an) an) an)<|bo bz hr.u (bo bS hr.u (dv 3) di) di) s0)<|sc (sa (ix hr.u (dv 0)<|bo bz hr.u (bo bS hr.u (dv 3) di)<|cb aZ T.aT aH<|ap 0 an)<|gt (n:=2)<|gc (gn (i:=6) cF.nd)<|gc (gn (i:=7) cF.nd) g0)<|sc (bW (i:=8) cF.nd<|bp T.pA (x5 T) hr<|ap 7<|ac (bp T.pz (xZ T) hr<|ap 1 an) an)<|sc (si (twd<|twor (aX gH hr.u (dv 8) dn)<|tw1<|aX mC hr.u (dv 4) di) (s1<|sr<|b9<|ac ds<|ap 6<|ap 8 an) s0)<|sc (si (twd<|twand (aX aQ hr.u (dv 4) di)<|tw1<|aX aQ hr.u (dv 7) ds) (s1<|sr<|b9<|ac ds<|ap 6<|ap 8 an) s0)<|s1<|sr<|b9<|ac (wB<|ix hr.u (b8<|ac ds<|ac ds an)<|bo bz hr.u (dv 4) di)<|ap 6<|ap 8 an),?_};refine !{lx,xs,rfl,hX,NT,hx,λx ys x0 yl hy=>?_};have hY:(S.set lx<|.lst<|ys.map D.int) lx=some (.lst<|ys.map D.int):=aa;have q1:∀d,Lf cs d->R d (S.set lx<|.lst<|ys.map D.int):=λd hd=>q d ys (.inl hd) (by rw[N3 hd];show 1<=1+_;lia) (by lia) hy;refine !{by decide,?_};have w0:0<=x%9:=zR _ (by decide);have w1:x%9<9:=zM _ (by decide);generalize x%9=way at w0 w1⊢;have ed:0<n->((n:π):ν)-1=((n-1:π):ν):=λh=>by lia
  refine !{ω<|(0:ν)<((n:π):ν),rfl,vX (ω<|way=0) (λh=>!!⟨h⟩)<|bQ (λh=>?_) λL7=>?_};rw[zJ,zK,zK]at h;have hn:0<n:=by lia
  refine !!!{cs,lx,n-1,ys,by lia,by rw[ed hn];rfl,hc,hY,by lia,hy,λd zs hd hz zl wC=>{n2,?_}};rw[ba];exact fo<|q _ zs (.inr<|.inl ⟨d,rfl,hd⟩) (by rw[Rf];show _<=1+3*Rh n;lia) zl wC;refine !{ω<|(0:ν)<((n:π):ν),rfl,vX (ω<|way<3) (λh=>!!⟨h⟩)<|bQ (λh=>?_) λ_=>?_};rw[zJ,zK,zK]at h;have hn:0<n:=by lia
  have hwz:way≠0:=λe=>by rw[Bool.and_eq_false_iff,yw,yw]at L7;lia
  refine{sE,λp hp=>!⟨{by decide,by trivial},by decide,cB (zR _<|by decide) (zM _<|by decide) hp λd hd=>?_⟩};obtain⟨k,rfl,hk⟩:∃k:π,d=.int k/\k<=3:=by have hd:d∈[D.int 2,.int 3,.int 1,.int 0]:=hd;simp only[zk,zP,or_false]at hd;rcases hd with h|h|h|h;exact{2,h,by decide};exact{3,h,by decide};exact{1,h,by decide};exact{0,h,by decide}
  refine{((k:π):ν),rfl,by lia,by lia,?_};refine Ga (λi out S'=>∃zs:δ ν,Sub (S.set lx<|.lst<|zs.map D.int) S'/\zs.length<=20/\(∀z∈zs,0<=z)/\out.length=i/\∀e∈out,Sg cs n e/\n5 n e<=Rh n) {ys,.refl _,by lia,hy,rfl,λ_ h=>(nomatch h)} (λ_ _ _ _=>trivial) ?_ ?_;rintro i d out S' hd ⟨zs,sb,zl,hz,PU,ho⟩;have hi:i<k:=by have hd:(dJ 0 ((k:π):ν).toNat)[i]?=some d:=hd;have:=(cQ hd).1;lia
  refine{bg<|by lia,_,rfl,_,rfl,_,rfl,cs,lx,n-1,zs,by lia,by rw[ed hn];rfl,hc,sb _ _ aa,zl,hz,λd vs hd hsz vl hv=>{vs,Ri sb,vl,hv,by rw[zA,PU];rfl,λe he=>?_}};rcases zN.mp he with he|he;exact ho e he;rw[zI.mp he];exact⟨hd,hsz⟩;rintro out S' ⟨zs,sb,zl,hz,PU,ho⟩ pl eJ;rw[show({dJ 0 ((k:π):ν).toNat,λ_=>True}:ke).xs.length=((k:π):ν).toNat from cq]at PU;refine{n2,λp2 iy=>!⟨cB (by lia) (by show way-1<2;lia) iy λd hd=>?_⟩};obtain⟨o,rfl,hoo⟩:∃o:ρ,d=.str o/\(o ="and"\/o ="or"):=by have hd:d∈[D.str "and",.str "or"]:=hd;simp only[zk,zP,or_false]at hd;rcases hd with h|h;exact{_,h,.inl rfl};exact{_,h,.inr rfl}
  refine !{_,_,rfl,.inl aa,n2,_,sb.trans<|.new eJ,q _ zs (.inr<|.inr {o,out,hoo,rfl,by lia,λe he=>(ho e he).1}) ?_ zl hz};have hs:=Jw λe he=>(ho e he).2;have:Rh n*out.length<=Rh n*3:=Nat.mul_le_mul_left _ (by lia);rw[Mv hoo];show _<=1+3*Rh n;lia;refine !{ω<|way=8,rfl,Jv (cs.map az).isEmpty (λh=>!{kB,Mj (Mt hc.1 hc.2) !⟨h⟩})<|bQ (λh=>?_) λh=>?_};have k0:0<=x/9%4:=zR _ (by decide);have k1:x/9%4<4:=zM _ (by decide);refine{IQ,_,rfl,{by decide,by trivial},by decide,x/9%4,rfl,by lia,by lia,?_};refine lM (λ_ v=>∃z∈KS,v=.str z) trivial (by show(dJ 0 _).length<=_;rw[cq];lia) (λd hd Q hQ=>?_) λout ho p1 nh=>?_;obtain⟨j,hj⟩:=yh hd;obtain⟨_,rfl⟩:=cQ hj;exact{_,rfl,{by decide,by trivial},_,rfl,.inl {by decide,by decide},_,rfl,λz hz=>hQ _ ⟨z,hz,rfl⟩};obtain⟨ks,rfl,AL⟩:=keys_str λd hd=>(CB ho d hd).elim λ_ h=>h;have hl:=y0 ho;rw[show({dJ 0 (x/9%4).toNat,λ_=>True}:ke).xs=dJ 0 (x/9%4).toNat from rfl,cq,za]at hl;refine{_,_,rfl,.inl aa,n2,n2,λp hp=>!⟨{by decide,by trivial},by decide,cB (zR _<|by decide) (zM _<|by decide) hp λd hd=>?_⟩};have hd:d∈[D.tup [.str "every"],.tup [.str "key",.tup<|ks.map D.str]]:=hd;simp only[zk,zP,or_false]at hd;rcases hd with rfl|rfl;exact{_,.new nh,q1 _<|.inl rfl};exact{_,.new nh,q1 _<|.inr<|.inl {ks,rfl,by lia,AL}};rw[Bool.or_eq_false_iff]at h;have Bi:0<cs.length:=by cases cs with|nil=>(cases h.2)|cons c cs=>exact Nat.succ_pos _
  have XR:(cs.map az).length=cs.length:=za _;obtain⟨d,e1,e2⟩:=oY (l:=cs.map az) (i:=x/9%(((cs.map az).length:π):ν)) (zR _<|by lia)<|zM _ (by lia);obtain⟨c,Tq,rfl⟩:=zg.mp<|zH e2;refine !!⟨{by decide,by trivial},_,rfl,_,rfl,by lia,_,e1,_,rfl,rfl,_,_,rfl,_,_,rfl,rfl,?_⟩;refine !!{lx,ys,rfl,hY,by lia,hy,λx2 zs _ zl hz=>{c.2,x2,rfl,λv hv=>?_}};rw[ba];have qc:∀o,vO o c v->Fo (S.set lx<|.lst<|zs.map D.int) (R<|.tup [.str o,.str c.1,v]):=λo ho=>fo<|q _ zs (.inl<|.inr<|.inr ⟨o,c,v,Tq,hv,ho,rfl⟩) (by rw[N3<|.inr<|.inr ⟨o,c,v,Tq,hv,ho,rfl⟩];show 1<=1+_;lia) (by lia) hz;refine !{ag v,rfl,Jv (ω<|way<4) (λh=>!!⟨h⟩)<|bQ (λh4=>?_) λh4=>?_};exact !!{n3,qc _<|.inl rfl};rw[Bool.or_eq_false_iff]at h4;have Ny:=aO h4.1;refine !{ω<|way=4,rfl,vX (ω<|c.2 ="word") (λh=>!!⟨h⟩)<|bQ (λh5=>?_) λh5=>?_};rw[zJ]at h5;exact !!{n3,qc _<|.inr {Ny,.inr<|.inr {rfl,zE h5.2}}};refine{n2,λp hp=>!{(by decide:(0:ν)<2),cB (zR _<|by decide) (zM _<|by decide) hp λd hd=>?_}};obtain⟨o,rfl,ho⟩:∃o:ρ,d=.str o/\(o ="below"\/o ="above"):=by have hd:d∈[D.str "below",.str "above"]:=hd;simp only[zk,zP,or_false]at hd;rcases hd with rfl|rfl;exact{_,rfl,.inl rfl};exact{_,rfl,.inr rfl}
  exact !!{n3,qc o<|.inr {Ny,ho.elim .inl λh=>.inr<|.inl h}}
theorem Em:∀{l:δ ρ}{p:ρ},PyProof.Rows.risingS p l=true->(p::l).Pairwise λa b=>a.cps.toList<=b.cps.toList|[],p,_=>List.pairwise_singleton _ _|x::r,p,h=>by have h:(!PySem.Spec.ltCps x.cps.toList p.cps.toList&&PyProof.Rows.risingS x r)=true:=h;rw[zJ,PyProof.Rows.ltCps_eq,Bool.not_eq_true',yw]at h;have ih:=Em h.2;have hpx:p.cps.toList<=x.cps.toList:=List.not_lt.mp h.1;refine List.pairwise_cons.mpr {λy hy=>?_,ih};rcases zk.mp hy with e|hy;rw[e];exact hpx;exact List.le_trans hpx<|(List.pairwise_cons.mp ih).1 y hy
theorem ud(h:PyProof.Rows.sortedS l=true):l.Pairwise λa b=>a.cps.toList<=b.cps.toList:=by cases l with|nil=>exact List.Pairwise.nil|cons x r=>exact Em h
theorem Mw{a b:ρ}(h:a.cps.toList=b.cps.toList):a=b:=by obtain⟨⟨x⟩⟩:=a;obtain⟨⟨y⟩⟩:=b;cases h;rfl
theorem Gb{l m:δ ρ}(hl:l.Pairwise λa b=>a.cps.toList<=b.cps.toList)(hm:m.Pairwise λa b=>a.cps.toList<=b.cps.toList)(nl:l.Nodup)(nm:m.Nodup)(h:∀z,z∈l↔z∈m):l=m:=List.Perm.eq_of_pairwise (λa b _ _ h1 h2=>Mw<|List.le_antisymm h1 h2) hl hm<|(List.perm_ext_iff_of_nodup nl nm).mpr h
def TI(l:δ Std)(n:π):Prop:=∀s∈l,s.b<=n/\∀m,s.e=some m->m<n
noncomputable def Rk(s:Std):D:=match s.e with|none=>.tup s.ws|some _=>.au
noncomputable def cur(l:δ Std):D:=match l.getLast? with|none=>.au|some s=>Rk s
theorem l8(r:δ Std)(s:Std):cur (r++[s])=Rk s:=by unfold cur;rw[List.getLast?_concat]
theorem Rl(h:TI l n):wt l n=cur l:=by by_cases e:l=[];subst e;rfl;obtain⟨r,s,rfl⟩:=pC e;rw[l8];unfold wt;rw[List.reverse_append];obtain⟨h1,h2⟩:=h s<|zC _<|zI.mpr rfl;show SK (s::r.reverse) (n:ν)=_;unfold SK Rk;rw[xL<|show(s.b:ν)<=(n:ν) by lia];cases q:s.e with|none=>rfl|some m=>have:=h2 m q;exact xz<|show ¬(n:ν)<=(m:ν) by lia
theorem TI.up(h:TI l n):TI l (n+1):=λs hs=>{Nat.le_succ_of_le (h s hs).1,λm e=>Nat.lt_succ_of_lt<|(h s hs).2 m e}
theorem TI.close(h:TI l n):TI (m7 n l) (n+1):=by by_cases e:l=[];subst e;exact λs hs=>(nomatch hs);obtain⟨r,s,rfl⟩:=pC e;rw[ji];intro x hx;rcases zN.mp hx with hx|hx;exact h.up x<|zV _ hx;rw[zI.mp hx];exact{Nat.le_succ_of_le (h s<|zC _<|zI.mpr rfl).1,λm e=>by cases e;exact yK _}
theorem TI.beg(h:TI l<|n+1):TI (l++[Std.mk (n+1) none ws]) (n+1):=λs hs=>by rcases zN.mp hs with hs|hs;exact h s hs;rw[zI.mp hs];exact{zm _,λm e=>(by cases e)}
theorem Ge:cur (m7 n l)=.au:=by by_cases e:l=[];subst e;rfl;obtain⟨r,s,rfl⟩:=pC e;rw[ji,l8];rfl
noncomputable def sH(kn:Kn)(z:ρ):D:=match dk kn z with|none=>.au|some ws=>.tup ws
structure RI(rs:lQ)(n:π)(kn:Kn):η where
 ti:∀z,TI ((lu rs z).getD []) n
 eq:∀z,cur ((lu rs z).getD [])=sH kn z
 ks:∀r∈rs,r.1∈KS
theorem Mx(h:r∈Cj rs z s):r.1=z\/∃r'∈rs,r'.1=r.1:=by unfold Cj at h;split at h;obtain⟨r0,D7,e⟩:=zg.mp h;refine .inr {r0,D7,?_};subst e;split<;>rfl;rcases zN.mp h with h|h;exact .inr ⟨r,h,rfl⟩;rw[zI.mp h];exact .inl rfl
theorem Jx(h:∀r∈rs,r.1∈KS)(hz:z∈KS):∀r∈Cj rs z s,r.1∈KS:=λr hr=>by rcases Mx hr with e|⟨r',eP,e⟩;rw[e];exact hz;rw[<-e];exact h r' eP
theorem En:sH (oI kn z ws) k=if k=z then .tup ws else sH kn k:=by unfold sH;rw[Ed];by_cases h:k=z;rw[xL h,xL h];rw[xz h,xz h]
theorem Eo:sH (vM kn z) k=if k=z then .au else sH kn k:=by unfold sH;rw[Ee];by_cases h:k=z;rw[xL h,xL h];rw[xz h,xz h]
theorem RI.nil:RI [] 0 []:={λz s hs=>(nomatch hs),λz=>rfl,λr hr=>(nomatch hr)}
theorem RI.put(h:RI rs n kn)(hz:z∈KS):RI (xV rs z (n+1) ws) (n+1) (oI kn z ws):=by refine{λk=>?_,λk=>?_,Jx h.ks hz};unfold xV;rw[m8];by_cases e:k=z;rw[xL e];exact(h.ti z).up.beg;rw[xz e];exact(h.ti k).up;unfold xV;rw[m8,En];by_cases e:k=z;rw[xL e,xL e];exact l8 _ _;rw[xz e,xz e];exact h.eq k
theorem RI.del(h:RI rs n kn)(hz:z∈KS):RI (qS rs z n) (n+1) (vM kn z):=by refine{λk=>?_,λk=>?_,Jx h.ks hz};unfold qS;rw[m8];by_cases e:k=z;rw[xL e];exact(h.ti z).close;rw[xz e];exact(h.ti k).up;unfold qS;rw[m8,Eo];by_cases e:k=z;rw[xL e,xL e];exact Ge;rw[xz e,xz e];exact h.eq k
theorem RI.change(h:RI rs n kn)(hz:z∈KS):RI (xV (qS rs z n) z (n+1) ws) (n+1) (oI kn z ws):=by have h1:=h.del hz;refine{λk=>?_,λk=>?_,Jx h1.ks hz};unfold xV;rw[m8];by_cases e:k=z;rw[xL e];exact(h1.ti z).beg;rw[xz e];exact h1.ti k;unfold xV;rw[m8,En];by_cases e:k=z;rw[xL e,xL e];exact l8 _ _;rw[xz e,xz e,h1.eq k,Eo,xz e]
theorem RI.wt{rs:lQ}{n:π}{kn:Kn}(h:RI rs n kn)(z:ρ):wt ((lu rs z).getD []) n=sH kn z:=by rw[Rl<|h.ti z,h.eq]
theorem RI.AO(h:RI rs n kn)(hz:z∈KS):AO rs (.str z) n=sH kn z:=by rw[vJ (gb z hz).1,h.wt]
theorem ue(kn:Kn)(z:ρ):ag (sH kn z)=!(dk kn z).isSome:=by unfold sH;cases dk kn z<;>rfl
theorem N4(h:bX C S a F cs dl rs):(rs.map (·.1)).Nodup:=by obtain⟨ld,lr,ra,h,_,rfl⟩:=h;unfold gy;rw[zq];exact h.kn
theorem RI.len(h:RI rs n kn)(hs:bX C S a F cs dl rs):rs.length<=60:=by
 have:=sub_len (N4 hs) (m:=KS) λx hx=>by obtain⟨r,hr,rfl⟩:=zg.mp hx;exact h.ks r hr
 rw[za]at this;exact zG this<|by trivial
noncomputable def Rm(kn:Kn)(ss:δ ρ):δ D:=ss.map λz=>.tup [.str z,sH kn z]
theorem Wc(h:lu rs k=some s):k∈rs.map (·.1):=by induction rs with|nil=>(cases h)|cons r rs ih=>rw[eO]at h;rw[zw];by_cases e:r.1=k;exact zk.mpr<|.inl e.symm;rw[xz e]at h;exact zh _<|ih h
noncomputable def aL(kn:Kn)(ss:δ ρ):δ Row:=ss.map λz=>(z,(dk kn z).getD [])
structure Snap(rs:lQ)(cs:δ (ρ×ρ))(m:π)(rows:δ Row):η where
 ex:∃kn ss,rows=aL kn ss/\KI cs kn/\ss.Perm (kn.map (·.1))/\PyProof.Rows.sortedS ss=true/\∀z,wt ((lu rs z).getD []) m=sH kn z
theorem uf(p:ss.Perm (kn.map (·.1))):(aL kn ss).map ah=Rm kn ss:=by unfold aL Rm;rw[zq];refine zW λz hz=>?_;obtain⟨ws,Ae⟩:=jk<|p.mem_iff.mp hz;show D.tup [.str z,.tup<|(dk kn z).getD []]=.tup [.str z,sH kn z];unfold sH;rw[Ae];rfl
theorem Af(hI:KI cs kn)(p:ss.Perm (kn.map (·.1))):Rg cs (aL kn ss):=by refine{λr hr=>?_,?_};obtain⟨z,hz,rfl⟩:=zg.mp hr;obtain⟨ws,Ae⟩:=jk<|p.mem_iff.mp hz;show Wg cs ((dk kn z).getD []);rw[Ae];exact(hI.ok _<|fS Ae).2;unfold aL;rw[zq];show(ss.map id).Nodup;rw[List.map_id];exact p.nodup_iff.mpr hI.nd
theorem eV(hI:KI cs kn)(p:ss.Perm (kn.map (·.1))):(aL kn ss).length<=60:=by unfold aL;rw[za,p.length_eq,za];exact hI.len
theorem Snap.rg(h:Snap rs cs m rows):Rg cs rows/\rows.length<=60:=by obtain⟨kn,ss,rfl,hI,p,_⟩:=h.ex;exact{Af hI p,eV hI p}
theorem Snap.key(h:Snap rs cs m rows):∀r∈rows,r.1∈KS:=by obtain⟨kn,ss,rfl,hI,p,_⟩:=h.ex;intro r hr;obtain⟨z,hz,rfl⟩:=zg.mp hr;obtain⟨ws,Ae⟩:=jk<|p.mem_iff.mp hz;exact(hI.ok _<|fS Ae).1
theorem Gf{C a:ε}{S:ak}{F:δ ε}{cs:δ<|ρ×ρ}{dl:δ D}{rs:lQ}{m:π}{rows:δ Row}(h:Snap rs cs m rows)(hs:bX C S a F cs dl rs){ss:δ ρ} (p1:ss.Perm (rs.map (·.1))) (o1:PyProof.Rows.sortedS ss=true):kD rs m ss=rows.map ah:=by
 obtain⟨kn,s2,rfl,hI,p2,o2,hw⟩:=h.ex;rw[uf p2];have e:ss.filter (λz=>!ag (wt ((lu rs z).getD []) m))=s2:=by refine Gb ((ud o1).filter _) (ud o2) ?_ (p2.nodup_iff.mpr hI.nd) λz=>?_;exact yJ.nodup<|p1.nodup_iff.mpr<|N4 hs;rw[yp,hw,ue,Bool.not_not,p1.mem_iff,p2.mem_iff];constructor;rintro⟨_,hz⟩;obtain⟨ws,Ae⟩:=Option.isSome_iff_exists.mp hz;exact zg.mpr {_,fS Ae,rfl};intro hz;obtain⟨ws,Ae⟩:=jk hz;refine{?_,by rw[Ae];rfl};have e:=hw z;unfold sH at e;rw[Ae]at e;cases q:lu rs z with|none=>(rw[q]at e;cases e)|some s=>exact Wc q
 unfold kD Rm;rw[e];refine zW λz _=>?_;unfold vK;rw[hw]
theorem Jy(hz:z∈KS):Gt S (.str z):=El<|by have:=(gb z hz).2.1;lia
section
variable{t:fA}{S:ak}{a:ε}{F:δ ε}{cs:δ (ρ×ρ)}{dl:δ D}{rs:lQ}{kn:Kn}{d:D}{R:KD}{Z:KX}
theorem Jz(hz:z∈KS)(h:Wg cs ws):mY cs (.str z) (.tup ws)=true:=by unfold mY;rw[h.Rb,show ofStr kC (.str z)=true from(gb z hz).1];rfl
theorem CC(hR:RI rs dl.length kn)(hz:z∈KS):ag (AO rs (.str z) dl.length)=!(dk kn z).isSome:=by rw[hR.AO hz,ue]
theorem We(h:dk kn z=none):(!(dk kn z).isSome)=true:=by rw[h];rfl
theorem JA(h:(dk kn z).isSome=true):(!(dk kn z).isSome)=false:=by rw[h];rfl
theorem tf{b:χ}(h1:b=true)(h2:b=false){p:η} : p:=by rw[h1]at h2;cases h2
theorem bX.out(hS:bX C S a F cs dl rs)(hb:S b=none):b∉F:=λm=>by obtain⟨ld,lr,ra,h,rfl,_⟩:=hS;unfold fp at m;simp only[zk,zg]at m;rcases m with e|e|e|⟨r,hr,e⟩;have:=h.ins;rw[<-e,hb]at this;cases this;have:=h.xS;rw[<-e,hb]at this;cases this;have:=h.run;rw[<-e,hb]at this;cases this;have:=h.cell r hr;rw[e,hb]at this;cases this
theorem bX.off(hS:bX C S a F cs dl rs)(hp:p∉F):bX C (S.set p c) a F cs dl rs:=by obtain⟨ld,lr,ra,hh,rfl,e2⟩:=hS;unfold fp at hp;simp only[zk,not_or]at hp;obtain⟨n1,n2,n3,n4⟩:=hp;exact{ld,lr,ra,{(ae<|Ne.symm n1).trans hh.ins,(ae<|Ne.symm n2).trans hh.xS,(ae<|Ne.symm n3).trans hh.run,λr hr=>(ae λe=>n4<|by rw[<-e];exact zg.mpr ⟨r,hr,rfl⟩).trans<|hh.cell r hr,hh.kn,hh.an,hh.sz},rfl,e2}
structure Dos(t:fA)(ds:δ D)(S:ak)(R:KD)(Z:KX):η where
 of:Cr t ds S R Z
theorem ug(hS:bX t.aq S a F cs dl rs)(hg:Gd cs)(hI:KI cs kn)(hR:RI rs dl.length kn)(hl:dl.length<=200)(hd:GD KS cs kn d){iF:Kn}(hkn:V8 kn d iF) (q:∀S' F' c8,bX t.aq S' a F' cs (dl++[d]) c8->Co F F' S S'->RI c8 (dl.length+1) iF->R .au S'):Dos t [.ref a,d] S R Z:=by
 have hrl:=hR.len hS;have Wf:=hg.1;obtain⟨ld,lr,ra,h,_,_⟩:=id hS;refine{a,_,h.ins,rfl,?_};rcases hd with⟨z,ws,hz,hw,hn,rfl⟩|⟨z,ws,hz,hw,hn,rfl⟩|⟨z,hz,hn,rfl⟩;have ro:=Jz hz hw;have st:=(CC hR hz).trans<|We hn;refine .inl {_,_,rfl,a,F,cs,_,rs,_,_,rfl,hS,Wf,Jy hz,hw.gts Wf,by lia,by lia,λe=>tf ro e,λ_ e=>tf st e,λz' XQ e1 e2 _ _ S' F' o_ hK=>?_};cases e1;cases e2;have Wh:iF=oI kn z ws:=by rcases hkn with⟨n,y,vs,_,e1,e2⟩|⟨y,_,e1,_⟩<;>cases e1;exact e2
 subst Wh;exact q S' F' _ o_ hK<|hR.put hz;have ro:=Jz hz hw;have st:=(CC hR hz).trans<|JA hn;refine .inr<|.inl {_,_,rfl,a,F,cs,_,rs,_,_,rfl,hS,Wf,Jy hz,hw.gts Wf,by lia,by lia,λe=>tf ro e,λ_ e=>tf e st,λz' XQ e1 e2 _ _ S' F' o_ hK=>?_};cases e1;cases e2;have Wh:iF=oI kn z ws:=by rcases hkn with⟨n,y,vs,_,e1,e2⟩|⟨y,_,e1,_⟩<;>cases e1;exact e2
 subst Wh;exact q S' F' _ o_ hK<|hR.change hz;have st:=(CC hR hz).trans<|JA hn;refine .inr<|.inr !{a,F,cs,_,rs,_,rfl,hS,Jy hz,by lia,λe=>tf (gb z hz).1 e,λ_ e=>tf e st,λz' e1 _ _ S' o_ hK=>?_};cases e1;have Wh:iF=vM kn z:=by rcases hkn with⟨n,y,vs,_,e1,e2⟩|⟨y,_,e1,e2⟩<;>cases e1;exact e2
 subst Wh;exact q S' F _ o_ hK<|hR.del hz
theorem Snap.vw(h:Snap rs cs m rows)(hS:bX t.aq S a F cs dl rs)(hR:RI rs dl.length kn)(hm:sG dl.length md=some (m:ν))(Xm:Gt S md):Vw t.aq S a cs md rows:=by have:=h.rg;refine{{F,dl,rs,hS,by have:=hR.len hS;lia,(λe=>by rw[hm]at e;cases e),λi ss hi hp hs=>?_},Xm,by lia,this.1};rw[hm]at hi;cases hi;exact Gf h hS hp hs
end
def XU(S:ak)(F:δ ε)(S':ak):Prop:=∀b c,S b=some c->b∉F/\S' b=some c
theorem XU.sub(h:XU S F S'):Sub S S':=λb c e=>(h b c e).2
theorem KI.nil(cs:δ<|ρ×ρ):KI cs []:={List.nodup_nil,λ_ h=>(nomatch h)}
theorem l9(ns:δ ν)(lo hi:θ ν):cN (ns.map D.int) lo hi=(cN ns lo hi).map D.int:=by unfold cN;rw[za,List.map_take,List.map_drop]
structure St(t:fA)(S0:ak)(a:ε)(fs:δ (ε×Ce))(F:δ ε)(cs:δ (ρ×ρ))(dl:δ D)(rs:lQ)(S:ak):η where
 sh:bX t.aq S a F cs dl rs
 fa:∀x∈fs,S x.1=some x.2/\x.1∉F/\S0 x.1=none
 nd:(fs.map Prod.fst).Nodup
 GI:XU S0 F S
section
variable{t:fA}{S0:ak}{a:ε}{fs:δ (ε×Ce)}{F:δ ε}{cs:δ (ρ×ρ)}{dl:δ D}{rs:lQ}{S:ak}
theorem St.at(h:St t S0 a fs F cs dl rs S)(i:π)(e:fs[i]?=some (b,c)):S b=some c:=(h.fa _<|zH e).1
theorem St.sub(h:St t S0 a fs F cs dl rs S)(b:Sub S S'):St t S0 a fs F cs dl rs S':={h.sh.sub b,λx hx=>{b _ _ (h.fa x hx).1,(h.fa x hx).2},h.nd,λx c hx=>{(h.GI x c hx).1,b _ _ (h.GI x c hx).2}}
theorem St.zero(h:St t S0 a fs F cs dl rs S)(hb:S b=none):S0 b=none:=by cases e:S0 b with|none=>rfl|some c=>have:=h.GI.sub _ _ e;rw[hb]at this;cases this
theorem St.new(h:St t S0 a fs F cs dl rs S)(hp:S p=none)(c:Ce):St t S0 a (fs++[(p,c)]) F cs dl rs (S.set p c):=by
 have h1:=h.sub<|.new (c:=c) hp;refine{h1.sh,λx hx=>?_,?_,h1.GI};rcases zN.mp hx with hx|hx;exact h1.fa x hx;rw[zI.mp hx];exact{aa,h.sh.out hp,h.zero hp};rw[zL,List.nodup_append];refine{h.nd,by simp,λx hx y hy e=>?_};obtain⟨z,hz,rfl⟩:=zg.mp hx;have hy:y=p:=by simpa using hy
 have:=(h.fa z hz).1;rw[e,hy,hp]at this;cases this
theorem St.put(h:St t S0 a fs F cs dl rs S)(i:π)(e:fs[i]?=some (b,c))(c':Ce):St t S0 a (fs.set i (b,c')) F cs dl rs (S.set b c'):=by
 have hb:=h.fa _<|zH e;have hi:=(ze.mp e).1;have em:(fs.set i (b,c')).map Prod.fst=fs.map Prod.fst:=by refine List.ext_getElem? λj=>?_;rw[zp,zp];by_cases q:j=i;subst q;rw[List.getElem?_set_self hi,e];rfl;rw[List.getElem?_set_ne<|Ne.symm q]
 refine{h.sh.off hb.2.1,λx hx=>?_,by rw[em];exact h.nd,λx c hx=>{(h.GI x c hx).1,(ae<|gC hx hb.2.2).trans (h.GI x c hx).2}};obtain⟨j,hj⟩:=yh hx;by_cases q:j=i;subst q;rw[List.getElem?_set_self hi]at hj;cases hj;exact⟨aa,hb.2⟩;rw[List.getElem?_set_ne<|Ne.symm q]at hj;have Lw:=h.fa x<|zH hj;refine{(ae λe2=>q ?_).trans Lw.1,Lw.2};have a1:(fs.map Prod.fst)[j]?=some x.1:=by rw[zp,hj];rfl
 have a2:(fs.map Prod.fst)[i]?=some b:=by rw[zp,e];rfl
 obtain⟨b1,c1⟩:=ze.mp a1;obtain⟨b2,c2⟩:=ze.mp a2;exact(List.getElem_inj h.nd (h₀:=b1) (h₁:=b2)).mp<|by rw[c1,c2];exact e2
theorem St.perm(h:St t S0 a fs F cs dl rs S)(p:R3.Perm fs):St t S0 a R3 F cs dl rs S:={h.sh,λx hx=>h.fa x<|p.mem_iff.mp hx,(p.map _).nodup_iff.mpr h.nd,h.GI}
theorem St.less(h:St t S0 a fs F cs dl rs S)(n:(R3.map Prod.fst).Nodup)(p:∀x∈R3,x∈fs):St t S0 a R3 F cs dl rs S:={h.sh,λx hx=>h.fa x<|p x hx,n,h.GI}
theorem St.Wi(h:St t S0 a fs F cs dl rs S)(hS:bX t.aq S' a F' cs dl' c8)(hK:Co F F' S S'):St t S0 a fs F' cs dl' c8 S':={hS,λx hx=>by obtain⟨h1,h2,h3⟩:=h.fa x hx;exact by obtain⟨k1,k2⟩:=hK _ _ h2 h1;exact⟨k2,k1,h3⟩,h.nd,λx c hx=>by obtain⟨h1,h2⟩:=h.GI x c hx;exact hK _ _ h1 h2}
end
theorem Rn(hk:r.1∈KS)(hw:Wg cs r.2):Ly S 60 (ah r):=by refine(Ly.tup (n:=1) λx hx=>?_).le (by decide);simp only[zk,zP,or_false]at hx;rcases hx with rfl|rfl;exact(Ly.str (gb _ hk).2.2).le (by decide);exact hw.ly
theorem oa(q:R (.bl<|if neg then !(x==y) else (x==y)) S):Gy neg (.bl x) (.bl y) S R:=⟨.bool x,.bool y,by simp only[Dl,Dp],by simp only[Dl,Dp],by simp only[PyData.canLay0],by simp only[PyData.canLay0],.inl<|by simp only[PyData.depth];lia,by
 have e:PyData.eqv (.bool x) (.bool y)=(x==y):=by cases x<;>cases y<;>rfl
 rw[e];exact q⟩
theorem N5(q:R (.bl<|if neg then !decide (i=j) else ω (i=j)) S):Gy neg (.str i) (.str j) S R:=q
noncomputable def cV(w e:ρ)(x y:D):Int:=if kE x y=true then 0 else if cw ("",w,e) x y=true then -1 else 1
def Cm(x y:D):Prop:=∃k,Vg k x/\Vg k y
theorem ir{w e:ρ}(h:Cm x y):cV w e x y=0↔x=y:=by obtain⟨k,hx,hy⟩:=h;unfold cV;by_cases q:kE x y=true;rw[xL q];simpa using (bJ hx.2 hy.2).mp q;rw[xz q];have q':¬x=y:=λz=>q<|(bJ hx.2 hy.2).mpr z;constructor;intro z;split at z<;>cases z;exact λz=>absurd z q'
theorem og{w e:ρ}(h:Cm x y):cV w e x y<0↔x≠y/\cw ("",w,e) x y=true:=by obtain⟨k,hx,hy⟩:=h;unfold cV;by_cases q:kE x y=true;rw[xL q];have:=(bJ hx.2 hy.2).mp q;simp[this];rw[xz q];have q':¬x=y:=λz=>q<|(bJ hx.2 hy.2).mpr z;by_cases l:cw ("",w,e) x y=true;rw[xL l];simp[q',l];rw[xz l];simp[l]
theorem Mz{w e:ρ}(h:Cm x y):cV w e y x<0↔0<cV w e x y:=by
 have h':Cm y x:=by obtain⟨k,a,b⟩:=h;exact⟨k,b,a⟩
 rw[og h'];obtain⟨k,hx,hy⟩:=h;unfold cV;by_cases q:kE x y=true;rw[xL q];have:=(bJ hx.2 hy.2).mp q;simp[this];rw[xz q];have q':¬x=y:=λz=>q<|(bJ hx.2 hy.2).mpr z;have:=nj (p:=("",w,e)) hx hy q';rw[this];cases cw ("",w,e) x y<;>simp[Ne.symm q']
inductive cI (ds:δ D) (S:ak) (R:KD) (Z:KX):η where
 |mk (x y wy e) (h0:ds=[x,y,.str e]) (h1:Cm x y) (h2:(x=.au\/y=.au)) (h3:R (.int<|cV wy e x y) S)
theorem iC(T:Txt w K mg t):Ok P w base T.cZ 1 cI:=by
 refine T.cZ.F.ck dF ?_;rintro _ _ _ _ _ _ _ S R Z hr ⟨x,y,wy,e,e0,⟨k,hx,hy⟩,hn,q⟩;subst e0;refine{_,(sc (si (twd<|twand (aX gH hr.u (dv 0) dn)<|tw1<|aX gH hr.u (dv 1) dn) (s1<|sr di) s0)<|sc (bW (i:=3) dF.nd<|cm aQ hr.u (dv 2) ds)<|s1<|sr<|UK (aX aQ hr.u (dv 3)<|cm gH hr.u (dv 0) dn) (Ff di) di),?_};unfold cV at q;refine !!⟨bQ (λh=>!!⟨bQ (λh2=>?_) λh2=>?_⟩) λh=>?_⟩;rw[cP h,cP h2]at q;exact fo q;have e1:ag x≠ag y:=by rw[show ag x=true from h,show ag y=false from h2];decide
 rw[vV e1,xz zd]at q;unfold cw at q;rw[show ag x=true from h,show ag y=false from h2]at q;refine !!!⟨?_⟩;dsimp only[dC,Zo];refine oa !⟨?_⟩;have q:R (.int<|if (ag x==ω (e ="first"))=true then -1 else 1) S:=by rw[show ag x=true from h];exact q
 rw[Bool.beq_comm]at q;refine bQ (λz=>?_) λz=>?_;rw[xL<|show(ω (e ="first")==ag x)=true from z]at q;exact{_,rfl,fo q};rw[xz λz2=>tf z2<|show(ω (e ="first")==ag x)=false from z]at q;exact fo q;have hy1:ag y=true:=by rcases hn with rfl|rfl;cases h;rfl
 have e1:ag x≠ag y:=by rw[show ag x=false from h,hy1];decide
 rw[vV e1,xz zd]at q;unfold cw at q;rw[show ag x=false from h,hy1]at q;refine !!!⟨?_⟩;dsimp only[dC,Zo];refine oa !⟨?_⟩;have q:R (.int<|if (ag x==ω (e ="first"))=true then -1 else 1) S:=by rw[show ag x=false from h];exact q
 rw[Bool.beq_comm]at q;refine bQ (λz=>?_) λz=>?_;rw[xL<|show(ω (e ="first")==ag x)=true from z]at q;exact{_,rfl,fo q};rw[xz λz2=>tf z2<|show(ω (e ="first")==ag x)=false from z]at q;exact fo q
inductive q_ (ds:δ D) (S:ak) (R:KD) (Z:KX):η where
 |mk (x y wy e) (h0:ds=[x,y,.str wy,.str e]) (h1:Cm x y) (h2:R (.int<|cV wy e x y) S)
theorem oh(T:Txt w K mg t):Ok P w base T.compared 2 q_:=by refine T.compared.F.ck nN ?_;rintro _ _ _ _ _ _ _ S R Z hr ⟨x,y,wy,e,e0,hc,q⟩;subst e0;obtain⟨k,hx,hy⟩:=id hc;refine{_,(sc (si (twd<|twor (aX gH hr.u (dv 0) dn)<|tw1<|aX gH hr.u (dv 1) dn) (s1<|sr<|bp T.cZ (iC T) hr<|ap 0<|ap 1<|ap 3 an) s0)<|sc (si (aX aQ hr.u (dv 0)<|dv 1) (s1<|sr di) s0)<|sc (bW (i:=4) nN.nd<|cm mC hr.u (dv 0)<|dv 1)<|s1<|sr<|UK (aX aQ hr.u (dv 4)<|cm aQ hr.u (dv 2) ds) (Ff di) di),?_};have none:∀Zq:KX,x=.au\/y=.au->cI [x,y,.str e] S (λd S'=>Fo S'<|R d) Zq:=λ_ hn=>{x,y,wy,e,rfl,hc,hn,fo q};refine !!⟨bQ (λh=>?_) λh=>!!⟨bQ (λh2=>?_) λh2=>?_⟩⟩;exact !!!⟨none _<|.inl<|cP h⟩;exact !!!⟨none _<|.inr<|cP h2⟩;clear none;have nx:ag x=false:=h;have ny:ag y=false:=h2;unfold cV at q;refine !!⟨lY hx.2 hy.2 !⟨bQ (λh3=>?_) λh3=>?_⟩⟩;have h3:kE x y=true:=h3;rw[xL h3]at q;exact fo q;have h3:kE x y=false:=h3;rw[h3,xz zd]at q;unfold cw at q;rw[nx,ny]at q;have q:R (.int<|if (q9 x y==ω (wy ="up"))=true then -1 else 1) S:=q;rcases kF hx hy (aO nx) (aO ny) with⟨i,j,rfl,rfl⟩|⟨i,j,rfl,rfl⟩;refine !!!!⟨?_⟩;dsimp only[dC];refine N5 ?_;refine oa ?_;refine{_,rfl,?_};refine bQ (λz=>?_) λz=>?_;rw[xL<|show(q9 (.int i) (.int j)==ω (wy ="up"))=true from z]at q;exact{_,rfl,fo q};rw[xz λz2=>tf z2<|show(q9 (.int i) (.int j)==ω (wy ="up"))=false from z]at q;exact fo q;refine !!!!⟨?_⟩;dsimp only[dC];refine N5 ?_;refine oa ?_;refine{_,rfl,?_};refine bQ (λz=>?_) λz=>?_;rw[xL<|show(q9 (.str i) (.str j)==ω (wy ="up"))=true from z]at q;exact{_,rfl,fo q};rw[xz λz2=>tf z2<|show(q9 (.str i) (.str j)==ω (wy ="up"))=false from z]at q;exact fo q
noncomputable def oM(ps:δ Part)(wy:ρ):δ (ρ×ρ):=ps.map Prod.snd++[(wy,("last": ρ))]
noncomputable def cy:δ (ρ×ρ)->δ D->δ D->ν|w::ws,x::xs,y::ys=>(if cV w.1 w.2 x y=0 then cy ws xs ys else cV w.1 w.2 x y)|_,_,_=>0
def PV(ks:δ ρ)(xs:δ D):Prop:=Paired (λk x=>Vg k x) ks xs
theorem rf:∀{ws:δ (ρ×ρ)}{ks:δ ρ}{xs ys:δ D},ws.length=ks.length->PV ks xs->PV ks ys->(cy ws xs ys=0↔xs=ys)|[],_,_,_,h,.nil,.nil=>by simp[cy]|w::ws,_,_,_,h,.cons (b:=x) a1 a2,.cons (b:=y) b1 b2=>by unfold cy;have c:=ir (w:=w.1) (e:=w.2) {_,a1,b1};by_cases q:cV w.1 w.2 x y=0;rw[xL q,rf (Nat.succ.inj h) a2 b2,c.mp q];simp;rw[xz q];exact{λz=>absurd z q,λz=>absurd (c.mpr (List.cons.inj z).1) q}
theorem Ag:∀{ws:δ (ρ×ρ)}{ks:δ ρ}{xs ys:δ D},PV ks xs->PV ks ys->(cy ws ys xs<0↔0<cy ws xs ys)|[],_,_,_,_,_=>by simp[cy]|w::ws,_,_,_,.nil,.nil=>by simp[cy]|w::ws,_,_,_,.cons (b:=x) a1 a2,.cons (b:=y) b1 b2=>by unfold cy;have c:=ir (w:=w.1) (e:=w.2) {_,a1,b1};have c':=ir (w:=w.1) (e:=w.2) {_,b1,a1};by_cases q:x=y;rw[xL<|c.mpr q,xL<|c'.mpr q.symm];exact Ag a2 b2;rw[xz λz=>q<|c.mp z,xz λz=>q (c'.mp z).symm];exact Mz {_,a1,b1}
theorem CD:∀{ws:δ (ρ×ρ)}{ks:δ ρ}{xs ys zs:δ D},PV ks xs->PV ks ys->PV ks zs->cy ws xs ys<0->cy ws ys zs<0->cy ws xs zs<0|[],_,_,_,_,_,_,_,h,_=>by simp[cy]at h|w::ws,_,_,_,_,.nil,.nil,.nil,h,_=>by simp[cy]at h|w::ws,_,_,_,_,.cons (b:=x) a1 a2,.cons (b:=y) b1 b2,.cons (b:=z) c1 c2,h1,h2=>by unfold cy at h1 h2⊢;have e1:=ir (w:=w.1) (e:=w.2) {_,a1,b1};have e2:=ir (w:=w.1) (e:=w.2) {_,b1,c1};have e3:=ir (w:=w.1) (e:=w.2) {_,a1,c1};by_cases q1:x=y;subst q1;rw[xL<|e1.mpr rfl]at h1;by_cases q2:x=z;subst q2;rw[xL<|e2.mpr rfl]at h2⊢;exact CD a2 b2 c2 h1 h2;rw[xz λz=>q2<|e2.mp z]at h2⊢;exact h2;rw[xz λz=>q1<|e1.mp z]at h1;by_cases q2:y=z;subst q2;rw[xz λz=>q1<|e3.mp z];exact h1;rw[xz λz=>q2<|e2.mp z]at h2;obtain⟨q3,l3⟩:=Mp (p:=("",w.1,w.2)) a1 b1 c1 q1 q2 ((og {_,a1,b1}).mp h1).2 ((og {_,b1,c1}).mp h2).2;rw[xz λz=>q3<|e3.mp z];exact(og {_,a1,c1}).mpr ⟨q3,l3⟩
noncomputable def N6(cs:δ<|ρ×ρ)(z:ρ):Str:=((cs[Jh cs z]?).map Prod.snd).getD "word"
noncomputable def XW(cs:δ<|ρ×ρ)(ps:δ Part):δ Str:=ps.map (λp=>N6 cs p.1)++[("word": ρ)]
noncomputable def Ep(cs:δ<|ρ×ρ)(ps:δ Part)(r:Row):δ D:=ps.map (λp=>aj cs r.2 p.1)++[.str r.1]
theorem jZ:∀z∈KS,Vg "word" (.str z):=by
 have h:∀z∈KS,(nR z&&bx (.str z))=true:=by trivial
 exact λz hz=>let q:=Bool.and_eq_true_iff.mp<|h z hz;⟨q.1,q.2⟩
theorem kH:∀{l:δ α}{m:δ β}{l':δ α}{m':δ β},Paired r l m->Paired r l' m'->Paired r (l++l') (m++m')|_,_,_,_,.nil,h=>h|_,_,_,_,.cons a t,h=>.cons a<|kH t h
theorem rh(hg:Gd cs)(hp:Pin cs ps)(hw:Wg cs ws):Paired (λk x=>Vg k x) (ps.map λp=>N6 cs p.1) (ps.map λp=>aj cs ws p.1):=by induction ps with|nil=>exact .nil|cons p ps ih=>refine .cons ?_<|ih hp.tail;obtain⟨c,hc,e⟩:=hp p zj;show Vg (N6 cs p.1) (aj cs ws p.1);unfold N6;rw[<-e,(vS hg hc).1];exact(jy hg hw hc).2
theorem g_(hg:Gd cs)(hp:Pin cs ps)(hw:Wg cs r.2)(hk:r.1∈KS):PV (XW cs ps) (Ep cs ps r):=kH (rh hg hp hw)<|.cons (jZ _ hk) .nil
theorem Er(hg:Gd cs){wy:ρ}(ha:Wg cs a.2)(hb:Wg cs b.2)(ka:a.1∈KS)(kb:b.1∈KS)(n:a.1≠b.1):∀{ps:δ Part},Pin cs ps->(cR cs wy ps a b=true↔cy (oM ps wy) (Ep cs ps a) (Ep cs ps b)<0)|[],_=>(by show(rJ a.1 b.1==ω (wy ="up"))=true↔(if cV wy "last" (.str a.1) (.str b.1)=0 then 0 else cV wy "last" (.str a.1) (.str b.1))<0;have n':(.str a.1:D)≠.str b.1:=λe=>n<|D.str.inj e;rw[xz λz=>n'<|(ir {_,jZ _ ka,jZ _ kb}).mp z,og {_,jZ _ ka,jZ _ kb}];exact{λh=>⟨n',h⟩,λh=>h.2})|p::ps,hp=>by obtain⟨k,hk⟩:=vU hg hp;have va:=hk _ ha;have vb:=hk _ hb;show(if kE (aj cs a.2 p.1) (aj cs b.2 p.1)=true then cR cs wy ps a b else cw p (aj cs a.2 p.1) (aj cs b.2 p.1))=true↔(if cV p.2.1 p.2.2 (aj cs a.2 p.1) (aj cs b.2 p.1)=0 then cy (oM ps wy) (Ep cs ps a) (Ep cs ps b) else cV p.2.1 p.2.2 (aj cs a.2 p.1) (aj cs b.2 p.1))<0;by_cases q:aj cs a.2 p.1=aj cs b.2 p.1;rw[xL<|(bJ va.2 vb.2).mpr q,xL<|(ir {_,va,vb}).mpr q];exact Er hg ha hb ka kb n hp.tail;rw[xz λz=>q<|(bJ va.2 vb.2).mp z,xz λz=>q<|(ir {_,va,vb}).mp z,og {_,va,vb}];exact{λh=>⟨q,h⟩,λh=>h.2}
noncomputable def Wj(ws:δ<|ρ×ρ)(g:δ D)(sd:ρ)(x:δ D):Bool:=ω (cy ws x g<0)||(ω (cy ws x g=0)&&ω (sd ="behind"))
theorem Wl{ws:δ<|ρ×ρ}{ks:δ ρ}{g x y:δ D}{sd:ρ}(hl:ws.length=ks.length)(hx:PV ks x)(hy:PV ks y)(hg:PV ks g)(h:cy ws x y<0)(q:Wj ws g sd y=true):Wj ws g sd x=true:=by unfold Wj at q⊢;simp only[yS,zJ,zK]at q⊢;rcases q with q|⟨q,_⟩;exact .inl<|CD hx hy hg h q;rw[<-(rf hl hy hg).mp q];exact .inl h
theorem vY:∀{l:δ α},(l.Pairwise λa b=>g b=true->g a=true)->∀{i:π}{a:α},l[i]?=some a->(g a=true↔i<l.countP g)
 |[],_,i,a,h=>by simp at h
 |x::l,hp,i,a,h=>by
  obtain⟨h1,h2⟩:=List.pairwise_cons.mp hp;rw[List.countP_cons];by_cases q:g x=true;rw[xL q];cases i with|zero=>(cases h;simp[q])|succ i=>rw[vY h2<|show l[i]?=some a from h];lia
  have z:l.countP g=0:=List.countP_eq_zero.mpr λb hb e=>q<|h1 b hb e;rw[xz q,z];have:g a≠true:=by cases i with|zero=>(cases h;exact q)|succ i=>exact λe=>q<|h1 a (zH h) e
  simp[this]
theorem Rp{α:Type}{g:α->χ}{l:δ α}(hp:l.Pairwise λa b=>g b=true->g a=true){n:π}(hn:n<=l.length)(h1:∀i a,i<n->l[i]?=some a->g a=true)(h2:∀i a,n<=i->l[i]?=some a->g a=false):n=l.countP g:=by
 have hc:l.countP g<=l.length:=List.countP_le_length;rcases Nat.lt_trichotomy n (l.countP g) with h|h|h;have hi:n<l.length:=by lia
 have e:=zf hi;have:=(vY hp e).mpr h;rw[h2 n _ (zm _) e]at this;cases this;exact h;have hi:l.countP g<l.length:=by lia
 have e:=zf hi;have:=(vY hp e).mp<|h1 _ _ h e;lia
noncomputable def Es(xs:δ D)(k:ρ):D:=.tup [.tup xs,.str k]
abbrev AS:=δ D×ρ×ρ
noncomputable def sI(g:AS):D:=.tup [Es g.1 g.2.1,.str g.2.2]
noncomputable def SR:θ AS->D|none=>.au|some g=>sI g
noncomputable def Ah(z:ρ):Bool:=ω (z ="ahead")||ω (z ="behind")
structure Gp(cs:δ (ρ×ρ))(ps:δ Part)(g:AS):η where
 pv:Paired (λk x=>Vg k x) (ps.map λp=>N6 cs p.1) g.1
 key:g.2.1∈KS
 side:Ah g.2.2=true
def Bg(cs:δ<|ρ×ρ)(ps:δ Part)(b:θ AS):Prop:=∀g,b=some g->Gp cs ps g
noncomputable def Wm(g:AS):δ D:=g.1++[.str g.2.1]
theorem Gp.vs(h:Gp cs ps g):PV (XW cs ps) (Wm g):=kH h.pv<|.cons (jZ _ h.key) .nil
theorem Gp.len(h:Gp cs ps g):g.1.length=ps.length:=by have:=y0 h.pv;rw[za]at this;exact this.symm
theorem Og.len(h:Og cs ps wy):ps.length<=8:=by have:=h.ok;unfold Jd at this;simp only[zJ,zK]at this;exact this.1
inductive Gg (ds:δ D) (S:ak) (R:KD) (Z:KX):η where
 |mk (z) (h0:ds=[.str z]) (h1:R (.bl<|Ah z) S)
inductive kI (ds:δ D) (S:ak) (R:KD) (Z:KX):η where
 |mk (cs ps xs) (h0:ds=[.tup<|cs.map az,.tup<|ps.map p3,.tup xs]) (h1:Gd cs) (h2:Pin cs ps) (h3:ps.length<=8) (h4:Paired (λk x=>Vg k x) (ps.map λp=>N6 cs p.1) xs) (h5:R (.bl true) S)
inductive sJ (ds:δ D) (S:ak) (R:KD) (Z:KX):η where
 |mk (cs ps wy xs k) (h0:ds=[.tup<|cs.map az,c9 ps wy,Es xs k]) (h1:Gd cs) (h2:Pin cs ps) (h3:ps.length<=8) (h4:Paired (λk x=>Vg k x) (ps.map λp=>N6 cs p.1) xs) (h5:k∈KS) (h6:R .au S)
inductive Ai (ds:δ D) (S:ak) (R:KD) (Z:KX):η where
 |mk (cs ps wy g) (h0:ds=[.tup<|cs.map az,c9 ps wy,sI g]) (h1:Gd cs) (h2:Pin cs ps) (h3:ps.length<=8) (h4:Gp cs ps g) (h5:R .au S)
inductive sL (ds:δ D) (S:ak) (R:KD) (Z:KX):η where
 |mk (cs ps wy b) (h0:ds=[.tup<|cs.map az,c9 ps wy,SR b]) (h1:Gd cs) (h2:Pin cs ps) (h3:ps.length<=8) (h4:Bg cs ps b) (h5:R .au S)
inductive l_ (ds:δ D) (S:ak) (R:KD) (Z:KX):η where
 |mk (n:ν) (h0:ds=[.int n]) (h1:1<=n) (h2:n<=1000) (h3:R .au S)
theorem sM(T:Txt w K mg t):Ok P w base T.ku 2 l_:=by refine T.ku.F.ck sC ?_;obtain⟨n,e,h1,h2,q⟩;refine{_,(s1<|si (twd<|twor (cY<|tv<|bp T.i5 (jf T) hr<|ap 0 an)<|tw1<|cY<|Xc iP iP hr.u di (dv 0)<|dg (v:=.int 1000) T.u5 {_,rfl} λ_=>aM _) (s1 wD) s0),?_};refine !{.int n,rfl,gt_int,_,rfl,bt !!⟨XN (zu h1) !⟨?_⟩⟩};exact lT (by show(!decide (n<=1000))=false;rw[zu h2];rfl)<|fo q
inductive vZ (ds:δ D) (S:ak) (R:KD) (Z:KX):η where
 |mk (cs ps wy d n b) (h0:ds=[.tup<|cs.map az,c9 ps wy,d,.int n,SR b]) (h1:Gd cs) (h2:Og cs ps wy) (h3:Sq cs d) (h4:1<=n) (h5:n<=1000) (h6:Bg cs ps b) (h7:R .au S)
structure An(cs:δ (ρ×ρ))(ps:δ Part)(wy:ρ)(A:δ Row):η where
 rg:Rg cs A
 ky:∀r∈A,r.1∈KS
 pw:A.Pairwise λa b=>cR cs wy ps a b=true
noncomputable def gP(cs:δ<|ρ×ρ)(ps:δ Part)(wy:ρ)(g:AS)(r:Row):Bool:=Wj (oM ps wy) (Wm g) g.2.2<|Ep cs ps r
theorem Et:(oM ps wy).length=(XW cs ps).length:=by unfold oM XW;simp
theorem An.lex(hg:Gd cs)(hp:Pin cs ps)(h:An cs ps wy A):A.Pairwise λa b=>cy (oM ps wy) (Ep cs ps a) (Ep cs ps b)<0:=by have nd:A.Pairwise λa b=>a.1≠b.1:=List.pairwise_map.mp h.rg.2;refine(h.pw.and nd).imp_of_mem λ{a b} ha hb q=>?_;exact(Er hg (h.rg.1 a ha) (h.rg.1 b hb) (h.ky a ha) (h.ky b hb) q.2 hp).mp q.1
theorem An.mono(hg:Gd cs)(hp:Pin cs ps)(h:An cs ps wy A)(hv:Gp cs ps g):A.Pairwise λa b=>gP cs ps wy g b=true->gP cs ps wy g a=true:=by refine(h.lex hg hp).imp_of_mem λ{a b} ha hb q=>?_;exact Wl Et (g_ hg hp (h.rg.1 a ha)<|h.ky a ha) (g_ hg hp (h.rg.1 b hb)<|h.ky b hb) hv.vs q
inductive rj (ds:δ D) (S:ak) (R:KD) (Z:KX):η where
 |mk (cs ps wy r) (h0:ds=[.tup<|cs.map az,c9 ps wy,ah r]) (h1:Gd cs) (h2:Pin cs ps) (h3:ps.length<=8) (h4:Wg cs r.2) (h5:R (Es (ps.map λp=>aj cs r.2 p.1) r.1) S)
theorem jm(T:Txt w K mg t):Ok P w base T.i7 3 rj:=by
 refine T.i7.F.ck nO ?_;obtain⟨cs,ps,wy,r,e,hg,hp,h8,hw,q⟩;refine{_,(sc (qr (N:=["part","columns","row"]) (src:=[none,some 0,some 2]) 3 nO.nd (js BW) (GB<|ix hr.u (dv 1) di) nK<|bp T.cu (dj T) hr<|ap 1<|ap 2<|ac (ix hr.u (dv 0) di) an)<|s1<|sr<|b9<|ac (ct gI T.bP bu<|ap 3 an)<|ac (ix hr.u (dv 2) di) an),?_};refine !!{_,.inl rfl,?_};refine comp_map (λd=>match d with|.tup (.str z::_)=>aj cs r.2 z|_=>.au) trivial (by show(ps.map p3).length<=_;rw[za];lia) (λd hd Q hQ=>?_) λp m9=>?_;obtain⟨pt,hpt,rfl⟩:=zg.mp hd;obtain⟨c,hc,ec⟩:=hp pt hpt;refine !!!!{cs,r,c,(by rw[ec];rfl),hg,hw,hc,?_};rw[ec];exact hQ;have e3:(ps.map p3).map (λd=>match d with|.tup (.str z::_)=>aj cs r.2 z|_=>.au)=ps.map λp=>aj cs r.2 p.1:=by rw[zq];rfl
 rw[show({ps.map p3,λ_=>True}:ke).xs=ps.map p3 from rfl,e3];exact !{_,_,rfl,.inl aa,_,rfl,_,rfl,cz,S,.new m9,q}
inductive Pcw (S:ak) (ps:δ Part) (wy:ρ) (xs ys:δ D) (k l:ρ) (j:ν) (ax:SD) (S':ak):η where
 |mk (o3 o4 o5 o6:θ D) (h0:ax=[some<|c9 ps wy,some<|Es xs k,some<|Es ys l,o3,o4,o5,o6]) (h1:S'=S) (h2:cy (oM ps wy) (xs++[.str k]) (ys++[.str l])=j):Pcw S ps wy xs ys k l j ax S'
inductive fT (ds:δ D) (S:ak) (R:KD) (Z:KX):η where
 |mk (ps:δ Part) (wy:ρ) (xs:δ D) (k:ρ) (ys:δ D) (l:ρ) (ks:δ ρ) (h0:ds=[c9 ps wy,Es xs k,Es ys l]) (h1:ps.length=xs.length) (h2:ps.length=ys.length) (h3:Paired (λk x=>Vg k x) ks xs) (h4:Paired (λk x=>Vg k x) ks ys) (h5:k∈KS) (h6:l∈KS) (h7:R (.int<|cy (oM ps wy) (xs++[.str k])<|ys++[.str l]) S)
theorem kJ(T:Txt w K mg t):Ok P w base T.d_ 3 fT:=by refine T.d_.F.ck bB ?_;obtain⟨ps,wy,xs,k,ys,l,ks,e,h1,h2,vx,vy,hk,hl,q⟩;refine{_,(sc (nL<|HJ (aaw T.NL<|ac (ix hr.u (dv 0) di)<|ac (ix hr.u (dv 1) di)<|ac (ix hr.u (dv 2) di) an) (gt (n:=3)<|gc (gn (i:=3) bB.nd)<|gc (gn (i:=4) bB.nd)<|gc (gn (i:=5) bB.nd) g0)<|sc (bW (i:=6) bB.nd<|bp T.compared (oh T) hr<|ap 4<|ap 5<|ac (ix hr.u (dv 3) di)<|ac (ix hr.u (dv 3) di) an)<|s1<|si (aX iQ hr.u (dv 6) di) (s1<|sr<|dv 6) s0)<|s1<|sr<|bp T.compared (oh T) hr<|ac (ix hr.u (dv 1) di)<|ac (ix hr.u (dv 2) di)<|ac (ix hr.u (dv 0) di)<|ac ds an),?_};refine{Pcw S ps wy xs ys k l<|cV wy "last" (.str k)<|.str l,?_,?_};{refine !!!!!!{_,_,_,rfl,by rw[za];exact h1,by rw[za];exact h2,?_};refine{λi=>Pcw S ps wy xs ys k l<|cy (oM (ps.drop i) wy) (xs.drop i++[.str k])<|ys.drop i++[.str l],{_,_,_,_,rfl,rfl,rfl},λ_ _ _ _=>trivial,?_,?_};rintro i d ax S' hd ⟨o3,o4,o5,o6,rfl,rfl,he⟩;obtain⟨x,y,z,e1,e2,e3,rfl⟩:=mK hd;rw[zp]at e1;(cases e5:ps[i]? with|none=>(rw[e5]at e1;cases e1)|some p=>rw[e5]at e1;cases e1;obtain⟨i1,g1⟩:=ze.mp e5;obtain⟨i2,g2⟩:=ze.mp e2;obtain⟨i3,g3⟩:=ze.mp e3;rw[ym i1,ym i2,ym i3,g1,g2,g3]at he;have he:_=if cV p.2.1 p.2.2 y z=0 then cy (oM (ps.drop<|i+1) wy) (xs.drop (i+1)++[.str k]) (ys.drop (i+1)++[.str l]) else cV p.2.1 p.2.2 y z:=he;obtain⟨k1,q1,v1⟩:=dh vx e2;obtain⟨k2,q2,v2⟩:=dh vy e3;cases q1.symm.trans q2;refine !{rfl,_,_,rfl,_,_,rfl,_,_,rfl,rfl,?_};refine !!!!!!{y,z,p.2.1,p.2.2,rfl,⟨k1,v1,v2⟩,_,rfl,_,rfl,bQ (λh=>?_) λh=>?_};have h:(!decide (cV p.2.1 p.2.2 y z=0))=true:=h;rw[xz<|ye<|nt h]at he;rw[he]at q;exact{_,rfl,fo q};have h:(!decide (cV p.2.1 p.2.2 y z=0))=false:=h;rw[xL<|zE<|nf h]at he;exact{_,_,_,_,rfl,rfl,he});{rintro ax S' ⟨o3,o4,o5,o6,rfl,rfl,he⟩;have he:_=cy (oM (ps.drop (iT (ps.map p3) xs ys).length) wy) (xs.drop (iT (ps.map p3) xs ys).length++[.str k]) (ys.drop (iT (ps.map p3) xs ys).length++[.str l]):=he;rw[mJ (by rw[za];exact h1)<|by rw[za];exact h2,za,List.drop_length,h1,List.drop_length,<-h1,h2,List.drop_length]at he;refine fo {o3,o4,o5,o6,rfl,rfl,he.trans ?_};show(if cV wy "last" (.str k) (.str l)=0 then 0 else cV wy "last" (.str k) (.str l))=_;split;{next h=>exact h.symm};rfl}};rintro ax S' ⟨o3,o4,o5,o6,rfl,rfl,he⟩;rw[he]at q;exact !!!!!!{_,_,_,_,rfl,{_,jZ k hk,jZ l hl},fo q}
inductive rm (ds:δ D) (S:ak) (R:KD) (Z:KX):η where
 |mk (cs ps wy r g) (h0:ds=[c9 ps wy,Es (ps.map λp=>aj cs r.2 p.1) r.1,sI g]) (h1:Gd cs) (h2:Pin cs ps) (h3:Wg cs r.2) (h4:r.1∈KS) (h5:Gp cs ps g) (h6:R (.bl<|gP cs ps wy g r) S)
theorem Aj(T:Txt w K mg t):Ok P w base T.qD 4 rm:=by refine T.qD.F.ck nQ ?_;obtain⟨cs,ps,wy,r,g,e,hg,hp,hw,hk,hv,q⟩;refine{_,(sc (bW (i:=3) nQ.nd<|bp T.d_ (kJ T) hr<|ap 0<|ap 1<|ac (ix hr.u (dv 2) di) an)<|sc (si (aX aQ hr.u (dv 3) di) (s1<|sr<|cm aQ hr.u (ix hr.u (dv 2) di) ds) s0)<|s1<|sr<|cm mC hr.u (dv 3) di),?_};refine !!!!{ps,wy,_,r.1,g.1,g.2.1,_,rfl,by rw[za],hv.len.symm,rh hg hp hw,hv.pv,hk,hv.key,_,rfl,_,rfl,?_};unfold gP Wj at q;change R (.bl<|ω (cy (oM ps wy) ((ps.map λp=>aj cs r.2 p.1)++[.str r.1]) (g.1++[.str g.2.1])<0)||ω (cy (oM ps wy) ((ps.map λp=>aj cs r.2 p.1)++[.str r.1]) (g.1++[.str g.2.1])=0)&&ω (g.2.2 ="behind")) S at q;generalize cy (oM ps wy) _ _=n at q⊢;refine bQ (λh=>?_) λh=>?_;have h:n=0:=zE h;subst h;exact !!⟨fo q⟩;have h:¬n=0:=ye h;rw[zy h,zX,Bool.or_false]at q;exact{_,rfl,fo q}
inductive Cw (S:ak) (cs:δ<|ρ×ρ) (ps:δ Part) (wy:ρ) (l:ε) (g:AS) (A:δ Row) (m:π) (ax:SD) (S':ak):η where
 |mk (lo hi:π) (o6:θ D) (h0:ax=[some<|.tup<|cs.map az,some<|c9 ps wy,some<|.ref l,some<|sI g,some<|.int (lo:π),some<|.int (hi:π),o6]) (h1:S'=S) (h2:m=hi-lo) (h3:lo<=hi) (h4:hi<=A.length) (h5:(∀i a,i<lo->A[i]?=some a->gP cs ps wy g a=true)) (h6:(∀i a,hi<=i->A[i]?=some a->gP cs ps wy g a=false)):Cw S cs ps wy l g A m ax S'
inductive j0 (ds:δ D) (S:ak) (R:KD) (Z:KX):η where
 |mk (cs ps wy A l g) (h0:ds=[.tup<|cs.map az,c9 ps wy,.ref l,sI g]) (h1:Gd cs) (h2:Pin cs ps) (h3:ps.length<=8) (h4:S l=some (.lst<|A.map ah)) (h5:An cs ps wy A) (h6:Gp cs ps g) (h7:R (.int ((A.countP (gP cs ps wy g):π):ν)) S)
theorem rq(T:Txt w K mg t):Ok P w base T.i_ 5 j0:=by
 refine T.i_.F.ck bT ?_;obtain⟨cs,ps,wy,A,l,g,e,hg,hp,h8,hl,hA,hv,q⟩;refine{_,(sc (bW (i:=4) bT.nd di)<|sc (bW (i:=5) bT.nd<|cb aZ T.aT aH<|ap 2 an)<|sc (nL<|Xx (aX mC hr.u (dv 4)<|dv 5)<|sc (bW (i:=6) bT.nd<|bo bS hr.u (bo aV hr.u (dv 4)<|dv 5) di)<|s1<|si (tv<|bp T.qD (Aj T) hr<|ap 1<|ac (bp T.i7 (jm T) hr<|ap 0<|ap 1<|ac (ix hr.u (dv 2)<|dv 6) an)<|ap 3 an) (s1<|bW (i:=4) bT.nd<|bo aV hr.u (dv 6) di)<|s1<|bW (i:=5) bT.nd<|dv 6)<|s1<|sr<|dv 4),?_};refine !!⟨.inl {_,hl,?_}⟩;rw[za];refine{λax S'=>∃(o6:θ D),ax=[some<|.tup<|cs.map az,some<|c9 ps wy,some<|.ref l,some<|sI g,some<|.int ((A.countP (gP cs ps wy g):π):ν),some<|.int ((A.countP (gP cs ps wy g):π):ν),o6]/\S'=S,?_,?_};refine{Cw S cs ps wy l g A,{_,0,A.length,none,rfl,rfl,rfl,zY _,zm _,λi a h=>absurd h<|Nat.not_lt_zero _,λi a h e=>?_},?_};rw[List.getElem?_eq_none h]at e;cases e;rintro m ax S' ⟨lo,hi,o6,rfl,rfl,rfl,h1,h2,b1,b2⟩;refine !!!⟨bQ (λh=>?_) λh=>?_⟩;have h:lo<hi:=by have:=zE h;lia
 have hm:(lo+hi)/2<A.length:=by lia
 have em:=zf hm;generalize A[(lo+hi)/2]=r at em;have xW:=zH em;have ed:(((lo:π):ν)+((hi:π):ν))/2=(((lo+hi)/2:π):ν):=by lia
 have mono:=hA.mono hg hp hv;refine !!⟨{by decide,by decide},?_⟩;rw[ed];refine !!!!!{_,ah r,hl,bE<|by rw[zp,em];rfl,cs,ps,wy,r,rfl,hg,hp,h8,hA.rg.1 r xW,_,rfl,cs,ps,wy,r,g,rfl,hg,hp,hA.rg.1 r xW,hA.ky r xW,hv,_,rfl,bQ (λz=>?_) λz=>?_};refine !{hi-((lo+hi)/2+1),by lia,(lo+hi)/2+1,hi,_,rfl,rfl,rfl,by lia,h2,λi a Vh ei=>?_,b2};rcases Nat.lt_or_ge i ((lo+hi)/2) with dr|Xn;exact List.pairwise_iff_getElem.mp mono i _ (ze.mp ei).1 hm dr |> λk=>by rw[(ze.mp ei).2,(ze.mp em).2]at k;exact k z
 have:i=(lo+hi)/2:=by lia
 subst this;rw[em]at ei;cases ei;exact z;refine !{(lo+hi)/2-lo,by lia,lo,(lo+hi)/2,_,rfl,rfl,rfl,by lia,by lia,b1,λi a Vh ei=>?_};rcases Nat.lt_or_ge ((lo+hi)/2) i with dr|Xn;cases qa:gP cs ps wy g a with|false=>rfl|true=>have k:=List.pairwise_iff_getElem.mp mono _ i hm (ze.mp ei).1 dr;rw[(ze.mp ei).2,(ze.mp em).2]at k;exact tf (k qa) z
 have:i=(lo+hi)/2:=by lia
 subst this;rw[em]at ei;cases ei;exact z;have h:lo=hi:=by have:=ye h;lia
 subst h;have:=Rp (hA.mono hg hp hv) h2 b1 b2;subst this;exact fo !⟨rfl⟩;rintro ax S' ⟨o6,rfl,rfl⟩;exact{_,rfl,fo q}
noncomputable def seg{α:Type}(A:δ α)(b e:π):δ α:=(A.drop b).take<|e-b
theorem pG(h:b<=e)(h2:e<=A.length):(seg A b e).length=e-b:=by unfold seg;rw[yn,List.length_drop];omega
theorem pH(h:i<e-b):(seg A b e)[i]?=A[b+i]?:=by unfold seg;rw[List.getElem?_take,xL h,List.getElem?_drop]
theorem MA(h:b<=e)(h2:e<=A.length):cN (A.map ah) (some ((b:π):ν)) (some ((e:π):ν))=(seg A b e).map ah:=by unfold cN seg;rw[HT.sIx_nat,HT.sIx_nat,za,Nat.min_eq_left h2,Nat.min_eq_left<|zG h h2,List.map_take,List.map_drop]
noncomputable def CF(p:ε)(b c:π):D:=.tup [.ref p,.int (b:π),.int (c:π)]
noncomputable def nAt(cs:δ<|ρ×ρ)(ps:δ Part)(wy:ρ)(A:δ Row)(n:π):θ AS->π|none=>n|some g=>A.countP<|gP cs ps wy g
structure Al(cs:δ (ρ×ρ))(ps:δ Part)(wy:ρ)(n:π)(d:D)(rows A:δ Row):η where
 an:An cs ps wy A
 pm:A.Perm (rows.filter λr=>aJ cs r n d)
theorem Al.one(hg:Gd cs)(hp:Pin cs ps)(h:Al cs ps wy n d rows A)(h':Al cs ps wy n d rows A'):A=A':=Mq hg hp h'.an.rg h.an.pw h'.an.pw<|h.pm.trans h'.pm.symm
def N7(rows:δ Row):Prop:=∀r∈rows,r.1∈KS
theorem Rq(hr:Rg cs rows)(hk:N7 rows)(pm:A.Perm<|rows.filter λr=>aJ cs r n d)(pw:A.Pairwise λa b=>cR cs wy ps a b=true):Al cs ps wy n d rows A:={{(hr.sub yJ).perm pm,λr h=>hk r (yp.mp<|pm.mem_iff.mp h).1,pw},pm}
noncomputable def N8(A:δ Row)(b n:π):Nat:=min (b+n) A.length
inductive aaZ (t:fA) (f:δ (ρ×ρ)->δ Part->ρ->δ Row->θ AS->π->π×π) (ds:δ D) (S:ak) (R:KD) (Z:KX):η where
 |mk (a:ε) (cs:δ<|ρ×ρ) (ps:δ Part) (wy:ρ) (d m:D) (n:π) (b:θ AS) (rows:δ Row) (h0:ds=[.ref a,c9 ps wy,d,.int (n:π),SR b,m]) (h1:Gd cs) (h2:Og cs ps wy) (h3:Sq cs d) (h4:1<=n) (h5:n<=1000) (h6:Bg cs ps b) (h7:Vw t.aq S a cs m rows) (h8:N7 rows) (h9:Tb t S) (ha:∀(A:δ Row)(p:ε),Al cs ps wy 7 d rows A->S p=none->R (CF p (f cs ps wy A b n).1<|A.length-(f cs ps wy A b n).2) (S.set p<|.lst<|(seg A (f cs ps wy A b n).1 (f cs ps wy A b n).2).map ah))
inductive Wn (t:fA) (ds:δ D) (S:ak) (R:KD) (Z:KX):η where
 |mk (a:ε) (cs:δ<|ρ×ρ) (ps:δ Part) (wy:ρ) (d m:D) (f g:θ AS) (rows:δ Row) (h0:ds=[.ref a,c9 ps wy,d,SR f,SR g,m]) (h1:Gd cs) (h2:Og cs ps wy) (h3:Sq cs d) (h4:Bg cs ps f) (h5:Bg cs ps g) (h6:Vw t.aq S a cs m rows) (h7:N7 rows) (h8:Tb t S) (h9:∀(A:δ Row)(p:ε),Al cs ps wy 7 d rows A->S p=none->R (.ref p) (S.set p<|.lst<|cN (A.map ah) (some ((nAt cs ps wy A 0 f:π):ν))<|some ((nAt cs ps wy A A.length g:π):ν)))
inductive jn (ds:δ D) (S:ak) (R:KD) (Z:KX):η where
 |mk (l:ε) (A:δ Row) (b e:π) (h0:ds=[.ref l,.int (b:π),.int (e:π)]) (h1:S l=some (.lst<|A.map ah)) (h2:b<=e) (h3:e<=A.length) (h4:∀p,S p=none->R (CF p b<|A.length-e) (S.set p<|.lst<|(seg A b e).map ah))
theorem oN(T:Txt w K mg t):Ok P w base T.gQ 1 jn:=by refine T.gQ.F.ck oG ?_;rintro _ _ _ _ _ _ _ S R Z hr ⟨l,A,b,e,e0,hl,h1,h2,q⟩;subst e0;refine{_,(s1<|sr<|b9<|ac (Qv (dv 0) (o1<|dv 1)<|o1<|dv 2)<|ap 1<|ac (bo tH hr.u (cb aZ T.aT aH<|ap 0 an)<|dv 2) an),?_};refine !!!!!{_,hl,λp hp=>?_};rw[MA h1 h2];refine !!!⟨.inl {_,(Sub.new hp) _ _ hl,_,rfl,qL,?_}⟩;rw[za,show((A.length:π):ν)-((e:π):ν)=((A.length-e:π):ν) by omega];exact fo<|q p hp
inductive oi (ds:δ D) (S:ak) (R:KD) (Z:KX):η where
 |mk (l:ε) (A:δ Row) (b n:π) (h0:ds=[.ref l,.int (b:π),.int (n:π)]) (h1:S l=some (.lst<|A.map ah)) (h2:b<=A.length) (h3:∀p,S p=none->R (CF p b<|A.length-N8 A b n) (S.set p<|.lst<|(seg A b<|N8 A b n).map ah))
theorem v5(T:Txt w K mg t):Ok P w base T.mS 2 oi:=by
 refine T.mS.F.ck vt ?_;rintro _ _ _ _ _ _ _ S R Z hr ⟨l,A,b,n,e0,hl,h1,q⟩;subst e0;refine{_,(s1<|sr<|bp T.gQ (oN T) hr<|ap 0<|ap 1<|ac (cb Nk T.NM Hw<|ac (bo aV hr.u (dv 1)<|dv 2)<|ac (cb aZ T.aT aH<|ap 0 an) an) an),?_};refine !!!!!!⟨.inl {_,hl,_,_,rfl,?_}⟩;rw[za];have e1:(if ω (((A.length:π):ν)<((b:π):ν)+((n:π):ν))=true then ((A.length:π):ν) else ((b:π):ν)+((n:π):ν))=((N8 A b n:π):ν):=by unfold N8;by_cases h:((A.length:π):ν)<((b:π):ν)+((n:π):ν);rw[xL<|zu h];omega;rw[xz<|by rw[zy h];exact zd];omega
 rw[e1];exact{l,A,b,N8 A b n,rfl,hl,by unfold N8;omega,by unfold N8;omega,λp hp=>fo<|q p hp}
inductive v7 (ds:δ D) (S:ak) (R:KD) (Z:KX):η where
 |mk (l:ε) (A:δ Row) (e n:π) (h0:ds=[.ref l,.int (e:π),.int (n:π)]) (h1:S l=some (.lst<|A.map ah)) (h2:e<=A.length) (h3:∀p,S p=none->R (CF p (e-n)<|A.length-e) (S.set p<|.lst<|(seg A (e-n) e).map ah))
inductive Wo (f:δ (ρ×ρ)->δ Part->ρ->δ Row->θ AS->π->π×π) (ds:δ D) (S:ak) (R:KD) (Z:KX):η where
 |mk (cs:δ<|ρ×ρ) (ps:δ Part) (wy:ρ) (l:ε) (A:δ Row) (n:π) (b:θ AS) (h0:ds=[.tup<|cs.map az,c9 ps wy,.ref l,.int (n:π),SR b]) (h1:Gd cs) (h2:Pin cs ps) (h3:ps.length<=8) (h4:S l=some (.lst<|A.map ah)) (h5:An cs ps wy A) (h6:Bg cs ps b) (h7:∀p,S p=none->R (CF p (f cs ps wy A b n).1<|A.length-(f cs ps wy A b n).2) (S.set p<|.lst<|(seg A (f cs ps wy A b n).1 (f cs ps wy A b n).2).map ah))
structure Qs(t:fA)(S:ak)(a:ε)(cs:δ (ρ×ρ))(ps:δ Part)(wy:ρ)(d m:D)(rows:δ Row):η where
 g:Gd cs
 o:Og cs ps wy
 s:Sq cs d
 v:Vw t.aq S a cs m rows
 k:N7 rows
 t:Tb t S
section
variable{t:fA}{S:ak}{a:ε}{cs:δ (ρ×ρ)}{ps:δ Part}{wy:ρ}{d m:D}{rows:δ Row}(hq:Qs t S a cs ps wy d m rows)
include hq
end
theorem MB(hr:Rg cs rows)(hk:N7 rows):∀d∈rows.map ah,Ly S 60 d:=λd hd=>by obtain⟨r,h,rfl⟩:=zg.mp hd;exact Rn (hk r h)<|hr.1 r h
noncomputable def N9(cs:δ<|ρ×ρ)(ps:δ Part)(sd:ρ)(r:Row):AS:=(ps.map λp=>aj cs r.2 p.1,r.1,sd)
theorem JB{cs:δ<|ρ×ρ}(hg:Gd cs){ps:δ Part}(hp:Pin cs ps){r:Row}(hw:Wg cs r.2)(hk:r.1∈KS){sd:ρ}(hs:Ah sd=true):Gp cs ps (N9 cs ps sd r):={rh hg hp hw,hk,hs}
inductive uh (ds:δ D) (S:ak) (R:KD) (Z:KX):η where
 |mk (cs:δ<|ρ×ρ) (ps:δ Part) (wy:ρ) (p:ε) (rows:δ Row) (b c:π) (h0:ds=[.tup<|cs.map az,c9 ps wy,CF p b c]) (h1:Gd cs) (h2:Pin cs ps) (h3:ps.length<=8) (h4:S p=some (.lst<|rows.map ah)) (h5:(∀r∈rows,Wg cs r.2)) (h6:(rows=[]->R .au S)) (h7:∀r0 r1,rows[0]?=some r0->rows[rows.length-1]?=some r1->R (.tup [sI<|N9 cs ps "ahead" r0,sI<|N9 cs ps "behind" r1]) S)
theorem CG(T:Txt w K mg t):Ok P w base T.vf 4 uh:=by
 refine T.vf.F.ck qH ?_;rintro _ _ _ _ _ _ _ S R Z hr ⟨cs,ps,wy,p,rows,b,c,e0,hg,hp,h8,hS,hw,q1,q2⟩;subst e0;refine{_,(sc (bW (i:=3) qH.nd<|ix hr.u (dv 2) di)<|sc (si (aX aQ hr.u (cb aZ T.aT aH<|ap 3 an) di) (s1<|sr dn) s0)<|s1<|sr<|b9<|ac (b9<|ac (bp T.i7 (jm T) hr<|ap 0<|ap 1<|ac (ix hr.u (dv 3) di) an)<|ac ds an)<|ac (b9<|ac (bp T.i7 (jm T) hr<|ap 0<|ap 1<|ac (ix hr.u (dv 3)<|Ff di) an)<|ac ds an) an),?_};refine !!!!⟨.inl {_,hS,_,rfl,?_}⟩;rw[za];refine bQ (λh=>?_) λh=>?_;have h:((rows.length:π):ν)=0:=zE h;exact fo<|q1<|List.length_eq_zero_iff.mp (by lia);have h:¬((rows.length:π):ν)=0:=ye h;have h0:0<rows.length:=by lia
 have hl:rows.length-1<rows.length:=by lia
 have e0:=zf h0;have e1:=zf hl;generalize rows[0]=r0 at e0;generalize rows[rows.length-1]=r1 at e1;have w0:=hw r0<|zH e0;have w1:=hw r1<|zH e1;have ea:iK (rows.map ah) (-1)=some (ah r1):=by unfold iK G4;rw[za,xz<|by decide,xL<|by lia,show((-1:ν)+((rows.length:π):ν)).toNat=rows.length-1 by lia];show(rows.map ah)[rows.length-1]?=_;rw[zp,e1];rfl
 refine !!!{_,ah r0,hS,bE (j:=0)<|by rw[zp,e0];rfl,cs,ps,wy,r0,rfl,hg,hp,h8,w0,cz,?_};refine !!!!{_,ah r1,hS,ea,cs,ps,wy,r1,rfl,hg,hp,h8,w1,cz,cz,?_};exact fo<|q2 r0 r1 e0 e1
theorem CH(x:ρ)(n:π):(PySem.Txt.slice x none<|some (n:ν)).cps.toList=x.cps.toList.take n:=by
 have e1:PySem.Builtin.Str.strSliceIndices none (some (n:ν)) 1 x.length=PySem.Builtin.Str.strSliceIndices (some ((0:π):ν)) (some ((min n x.length:π):ν)) 1 x.length:=by unfold PySem.Builtin.Str.strSliceIndices;have h1:((1:ν)>0)=True:=(by simp);simp only[h1,if_true];have a1:¬((n:ν)<0):=(by lia);have a2:¬(((min n x.length:π):ν)<0):=(by lia);have a3:¬(((0:π):ν)<0):=(by lia);simp only[a1,a2,a3,if_false];have b1:max 0 (min ((0:π):ν) (x.length:ν))=0:=(by lia);have b2:max 0 (min (n:ν) (x.length:ν))=max 0 (min ((min n x.length:π):ν) (x.length:ν)):=(by lia);rw[b1,b2]
 have e2:(PySem.Builtin.Str.strSliceIndices none (some (n:ν)) 1 x.length).filterMap (x.cps[·]?)=x.cps.toList.take n:=by rw[e1,StrLaws.sliced_plain x (zY _)<|Nat.min_le_right _ _,List.drop_zero,Nat.sub_zero];by_cases h:n<=x.length;rw[Nat.min_eq_left h];have hl:x.cps.toList.length=x.length:=zT;rw[Nat.min_eq_right<|by lia,List.take_of_length_le<|by lia,List.take_of_length_le<|by lia]
 unfold PySem.Txt.slice;split;{next h=>simp only[zJ,y3]at h;rw[e1,StrLaws.strSliceIndices_plain (zY _)<|Nat.min_le_right _ _,za,List.length_range]at h;have hl:x.cps.toList.length=x.length:=zT;rw[List.take_of_length_le<|by lia]};rw[e2]
theorem v8(x y:ρ):ω (PySem.Txt.slice x none (some ((y.length:π):ν))=y)=PySem.Txt.startswith x y:=by unfold PySem.Txt.startswith;rw[StrLaws.subAt_eq,List.drop_zero,y6,yq];simp only[decide_eq_true_iff,zJ,y3];have hs:=CH x y.length;constructor;intro h;rw[h]at hs;have hl:x.cps.toList.length=x.length:=zT;have KJ:y.cps.toList.length=y.length:=zT;refine{?_,hs.symm};have:=congrArg List.length hs;rw[yn]at this;lia;rintro⟨_,h⟩;rw[h]at hs;obtain⟨a⟩:=y;generalize hz:PySem.Txt.slice x none _=z at hs⊢;obtain⟨b⟩:=z;exact congrArg Str.mk<|Array.ext' hs
theorem JC(hg:Gd cs)(hc:c∈cs):((cs.map Prod.fst).map D.str).all iR=true/\(∃z,((cs.map Prod.fst).map D.str)[Jh cs c.1]?=some z/\eqV (jF z) (jF<|.str c.1)=true)/\∀m u,m<Jh cs c.1->((cs.map Prod.fst).map D.str)[m]?=some u->eqV (jF u) (jF<|.str c.1)=false:=by obtain⟨n1,n2⟩:=vS hg hc;refine{?_,{.str c.1,by rw[zp,n2];rfl,by show(c.1==c.1)=true;simp},?_};rw[List.all_map];exact zZ.mpr λ_ _=>rfl;intro m u hm hu;rw[zp]at hu;cases e:(cs.map Prod.fst)[m]? with|none=>(rw[e]at hu;cases hu)|some z'=>rw[e]at hu;cases hu;show(z'==c.1)=false;have:z'≠c.1:=λq=>(by subst q;obtain⟨b1,c1⟩:=ze.mp e;obtain⟨b2,c2⟩:=ze.mp n2;have:=(List.getElem_inj hg.2.1 (h₀:=b1) (h₁:=b2)).mp<|c1.trans c2.symm;lia);simpa using this
noncomputable def Rr:D->D|.tup (x::_)=>x|_=>.au
theorem Am(cs:δ<|ρ×ρ):(cs.map az).map Rr=(cs.map Prod.fst).map D.str:=by rw[zq,zq];rfl
theorem hG(T:Txt w K mg t):∀n,Ok P w base T.fj (3+n) (Cu n)
 |0=>by refine T.fj.F.ok (k:=2) dY (by rintro ds S R Z ⟨_,_,_,e,_⟩;rw[e];rfl) (by rintro fJ A outer s H E ds S R Z hr ⟨cs,d,r,e,hg,hs,_⟩;exact hs.elim)
 |n+1=>by
  refine T.fj.F.ok (k:=3+n) dY (by rintro ds S R Z ⟨_,_,_,e,_⟩;rw[e];rfl) ?_;rintro fJ A outer s H E ds S R Z hr ⟨cs,d,r,e,hg,hs,hw,q⟩;subst e;have n2:=cz;refine{_,(sc (bW (i:=3) dY.nd<|ix hr.u (dv 1) di)<|sc (si (aX aQ hr.u (dv 3) ds) (s1<|sr db) s0)<|sc (si (aX aQ hr.u (dv 3) ds) (s1<|sr<|cm r9 hr.u (ix hr.u (dv 2) di)<|ix hr.u (dv 1) di) s0)<|sc (si (aX aQ hr.u (dv 3) ds) (s1<|sr<|P1<|bp T.fj (hG T n) hr<|ap 0<|ac (ix hr.u (dv 1) di)<|ap 2 an) s0)<|sc (si (aX r9 hr.u (dv 3)<|b9<|ac ds<|ac ds an) (sc (qr (N:=["_law_one","_law_columns_here","_law_row"]) (src:=[none,some 0,some 2]) 4 dY.nd (js qw) (GB<|ix hr.u (dv 1) di) nK<|bp T.fj (hG T n) hr<|ap 1<|ap 0<|ap 2 an)<|s1<|sr<|wB<|ix hr.u (b8<|ac (cb Nj T.NK Hl<|ap 4 an)<|ac (cb jP T.jT fX<|ap 4 an) an)<|ct HD T.D0 uF<|ac (cm aQ hr.u (dv 3) ds) an) s0)<|sc (bW (i:=5) dY.nd<|ix hr.u (ix hr.u (dv 2) di)<|bm zQ PySem.F.slot_list_index PySem.F.type_list_index qg (Vi (N:=["_law_name","_law_kind"]) (src:=[none,none]) (js qw) (GB<|dv 0) (Xj<|show(["_law_name","_law_kind"]:δ ρ).Nodup by trivial) (oX rfl rfl) pd (λ_ _ _ _ _=>nK) λ_ _ _ _ _=>(dv 0))<|ac (ix hr.u (dv 1) di) an)<|sc (si (twd<|twor (aX aQ hr.u (dv 3) ds)<|tw1<|aX gH hr.u (dv 5) dn) (s1<|sr<|p_ (cm aQ hr.u (dv 3) ds)<|Hz<|cm aQ hr.u (dv 5)<|ix hr.u (dv 1) di) s0)<|sc (si (aX aQ hr.u (dv 3) ds) (s1<|sr<|cm aQ hr.u (slx (dv 5) o0<|o1<|cb aZ T.aT aH<|ac (ix hr.u (dv 1) di) an)<|ix hr.u (dv 1) di) s0)<|s1<|sr<|wB<|ix hr.u (b8<|ac (cm mD hr.u (dv 5)<|ix hr.u (dv 1) di)<|ac (cm mC hr.u (dv 5)<|ix hr.u (dv 1) di) an)<|ct HD T.D0 uF<|ac (cm aQ hr.u (dv 3) ds) an),?_};rcases hs with (rfl|⟨ks,rfl,hk8,AL⟩|⟨o,c,v,hc,hv,ho,rfl⟩)|⟨e,rfl,he⟩|⟨o,es,ho,rfl,AN,L5⟩;exact !!!!⟨kM<|fo q⟩;refine !!!!⟨bZ ?_⟩;refine !!⟨kM !!!!{rfl,?_,?_}⟩;rw[List.all_map];exact zZ.mpr λ_ _=>rfl;rw[y8]at q;exact fo q;rw[NY]at q;obtain⟨XX,SS⟩:=jy hg hw hc;unfold y7 at q;have four:o ="is"\/(o ="below"\/o ="above"\/o ="begins"):=by rcases ho with h|⟨_,h|h|⟨h,_⟩⟩;exact .inl h;exact .inr<|.inl h;exact .inr<|.inr<|.inl h;exact .inr<|.inr<|.inr h
  have jx:ω (o ="every")=false/\ω (o ="key")=false/\ω (o ="not")=false/\Bb (.str o) [.str "and",.str "or"]=false:=by rcases four with rfl|rfl|rfl|rfl<;>decide +kernel
  refine !!!!⟨lT jx.1 !!⟨lT jx.2.1 !!⟨lT jx.2.2.1 !{n2,rfl,rfl,_,rfl,lT jx.2.2.2 !!!{_,.inl rfl,?_}}⟩⟩⟩;refine comp_map Rr trivial (by show(cs.map az).length<=1000;rw[za];have:=hg.1;lia) (λd hd Q hQ=>?_) λp hp=>?_;obtain⟨c,_,rfl⟩:=zg.mp hd;exact !{rfl,_,_,rfl,_,_,rfl,rfl,_,rfl,hQ};rw[show({cs.map az,λ_=>True}:ke).xs=cs.map az from rfl,Am];have sb:=Sub.new (c:=.lst<|(cs.map Prod.fst).map D.str) hp;have nh:(S.set p<|.lst<|(cs.map Prod.fst).map D.str) p=some (.lst<|(cs.map Prod.fst).map D.str):=aa;generalize S.set p (.lst<|(cs.map Prod.fst).map D.str)=S1 at sb nh⊢;have lx:=JC hg hc;refine{{rfl,_,nh},_,rfl,_,rfl,_,.str c.1,Jh cs c.1,rfl,nh,rfl,lx.1,lx.2.1,lx.2.2,_,bE XX,?_};have fin:∀{b:χ},R (.bl b) S->Fo S1 (R<|.bl b):=λh=>⟨S,sb,h⟩;rcases ho with rfl|⟨nb,ho⟩;rw[xL rfl]at q;exact !!⟨kM !!⟨kM !!!⟨lY SS.2 hv.2<|fin q⟩⟩⟩;have PX:ω (o ="is")=false:=by rcases ho with rfl|rfl|⟨rfl,_⟩<;>decide +kernel
  rw[xz<|ye PX]at q;refine !!⟨lT PX !!⟨bQ (λh=>?_) λh=>?_⟩⟩;rw[xL h]at q;exact !!⟨lT PX<|fin q⟩;rw[xz<|by rw[show ag (aj cs r.2 c.1)=false from h];exact zd]at q;rcases ho with rfl|rfl|⟨rfl,hk⟩;rw[xL rfl]at q;refine !!⟨bZ ?_⟩;rcases kF SS hv (aO h) nb with⟨i,j,e6,rfl⟩|⟨i,j,e6,rfl⟩<;>rw[e6]at q⊢<;>exact !!!!!!{n2,λp hp=>!⟨.inr !{_,_,aa,(show iK _ 1=some _ from rfl),_,.new hp,fin q}⟩};rw[xz<|by trivial,xL rfl]at q;refine !!⟨bZ ?_⟩;rcases kF SS hv (aO h) nb with⟨i,j,e6,rfl⟩|⟨i,j,e6,rfl⟩<;>rw[e6]at q⊢<;>exact !!!!!!{n2,λp hp=>!⟨.inr !{_,_,aa,(show iK _ 0=some _ from rfl),_,.new hp,fin q}⟩};rw[xz<|by trivial,xz<|by trivial]at q;have hz:∀z,aj cs r.2 c.1=.str z->z.length<=sizeLine:=λz e=>sm<|(Je SS (S:=S)).2 z e;have HW:∀z,v=.str z->z.length<=sizeLine:=λz e=>sm<|(Je hv (S:=S)).2 z e;rw[hk]at SS hv;obtain⟨i,e6⟩:=pE SS<|aO h;obtain⟨j,rfl⟩:=pE hv nb;have hz:=hz i e6;have HW:=HW j rfl;rw[e6]at q⊢;refine !!⟨kM !!!!{HW,_,rfl,hz,_,rfl,_,rfl,?_}⟩;show Fo S1 (R<|.bl<|ω<|PySem.Txt.slice i none (some ((j.length:π):ν))=j);rw[v8];exact fin q;rw[y9]at q;exact !!!!⟨bZ !!⟨bZ !!⟨kM !!!!{cs,e,r,rfl,hg,he,hw,_,rfl,fo q}⟩⟩⟩;have hz:es.length<=1000:=by lia
  have jx:ω (o ="every")=false/\ω (o ="key")=false/\ω (o ="not")=false/\Bb (.str o) [.str "and",.str "or"]=true:=by rcases ho with rfl|rfl<;>decide +kernel
  refine !!!!⟨lT jx.1 !!⟨lT jx.2.1 !!⟨lT jx.2.2.1 !{n2,rfl,rfl,_,rfl,XN jx.2.2.2 !!{_,.inl rfl,?_}}⟩⟩⟩;refine comp_map (λd=>.bl<|aJ cs r n d) trivial hz (λd hd Q hQ=>!!!{cs,d,r,rfl,hg,L5 d hd,hw,hQ}) λp hp=>?_;have em:es.map (λd=>D.bl<|aJ cs r n d)=(es.map<|aJ cs r n).map D.bl:=by rw[zq];rfl
  rw[show({es,λ_=>True}:ke).xs=es from rfl,em];have LV:(S.set p<|.lst<|(es.map<|aJ cs r n).map D.bl) p=_:=aa;refine !{.ref p,es.map<|aJ cs r n,rfl,LV,_,rfl,.ref p,es.map<|aJ cs r n,rfl,LV,n2,λp2 iy=>?_};rcases ho with rfl|rfl;rw[y_]at q;refine{_,rfl,.inr !{_,_,aa,(show iK _ 1=some _ from rfl),S,(Sub.new hp).trans<|.new iy,fo ?_}};show R (.bl<|(es.map<|aJ cs r n).all id) S;rw[all_map];exact q;rw[Ei]at q;refine{_,rfl,.inr !{_,_,aa,(show iK _ 0=some _ from rfl),S,(Sub.new hp).trans<|.new iy,fo ?_}};show R (.bl<|(es.map<|aJ cs r n).any id) S;rw[List.any_map];exact q
noncomputable def sN:D->PyData|.int i=>.int i|.str z=>.str z|_=>.none
theorem Ru(hx:bx x=true):Dp S x (sN x)/\(sN x).canLay0=true/\(sN x).depth<=0:=by cases x with|au=>exact{by simp only[Dp,sN],by simp only[sN,PyData.canLay0],by simp only[sN,PyData.depth];lia}|int i=>exact{by simp only[Dp,sN],by simp only[sN,PyData.canLay0],by simp only[sN,PyData.depth];lia}|str z=>refine{by simp only[Dp,sN],?_,by simp only[sN,PyData.depth];lia};unfold bx at hx;simp only[zJ]at hx;simp only[sN,PyData.canLay0];exact hx.2|_=>cases hx
theorem v9:∀{xs:δ D},(∀x∈xs,bx x=true)->DpAll S xs (xs.map sN)/\PyData.canLayAll0 (xs.map sN)=true/\PyData.depthAll (xs.map sN)<=0|[],_=>{by simp only[yY,DpAll],rfl,zY _}|x::xs,h=>by obtain⟨a,b,c⟩:=Ru (S:=S)<|h x zj;obtain⟨a',b',c'⟩:=v9 (S:=S) λy hy=>h y<|zh _ hy;exact{by simp only[zw,DpAll];exact{_,_,rfl,a,a'},by simp only[zw,PyData.canLayAll0,b,b',Bool.and_self],by simp only[zw,PyData.depthAll];lia}
noncomputable def J4(r:Row):PyData:=.tuple [.str r.1,.tuple<|r.2.map sN]
theorem Eu(hw:Wg cs r.2)(hk:r.1∈KS):(J4 r).canLay0=true/\(J4 r).depth<=2:=by obtain⟨_,b,c⟩:=v9 (S:=λ_=>none)<|Wg.all hw;have z:=(gb _ hk).2.2;unfold J4;refine{by simp only[PyData.canLay0,PyData.canLayAll0,z,b,Bool.and_self],?_};simp only[PyData.depth,PyData.depthAll];lia
theorem pI(h:r∈seg A b e):r∈A:=List.mem_of_mem_drop<|List.mem_of_mem_take h
noncomputable def CI:δ D->δ D->χ|[],[]=>true|x::xs,y::ys=>kE x y&&CI xs ys|_,_=>false
theorem v_:∀{xs ys:δ D},(∀x∈xs,bx x=true)->(∀x∈ys,bx x=true)->(CI xs ys=true↔xs=ys)|[],[],_,_=>by simp[CI]|[],_::_,_,_=>by simp[CI]|_::_,[],_,_=>by simp[CI]|x::xs,y::ys,h,k=>by unfold CI;rw[zJ,bJ (h x zj)<|k y zj,v_ (λz hz=>h z<|zh _ hz) λz hz=>k z<|zh _ hz,List.cons.injEq]
theorem Rw(hx:bx x=true)(hy:bx y=true):PyData.eqv (sN x) (sN y)=kE x y:=by rcases eQ hx with rfl|⟨i,rfl⟩|⟨i,rfl⟩<;>rcases eQ hy with rfl|⟨j,rfl⟩|⟨j,rfl⟩<;>simp only[sN,PyData.eqv,kE]<;>first|rfl|exact beq_eq_decide _ _
theorem Ex:∀{xs ys:δ D},(∀x∈xs,bx x=true)->(∀x∈ys,bx x=true)->PyData.eqvAll (xs.map sN) (ys.map sN)=CI xs ys|[],[],_,_=>by simp only[yY,PyData.eqvAll,CI]|[],y::ys,_,_=>by simp only[yY,zw,PyData.eqvAll,CI]|x::xs,[],_,_=>by simp only[yY,zw,PyData.eqvAll,CI]|x::xs,y::ys,h,k=>by have a:=Rw (h x zj)<|k y zj;have b:=Ex (λz hz=>h z<|zh _ hz) λz hz=>k z<|zh _ hz;simp only[zw,PyData.eqvAll,a,b,CI]
inductive Ao (ds:δ D) (S:ak) (R:KD) (Z:KX):η where
 |mk (ps:δ Part) (wy:ρ) (xs:δ D) (k:ρ) (ys:δ D) (l:ρ) (ks:δ ρ) (h0:ds=[c9 ps wy,Es xs k,Es ys l]) (h1:ps.length=xs.length) (h2:ps.length=ys.length) (h3:ps.length<=8) (h4:Paired (λk x=>Vg k x) ks xs) (h5:Paired (λk x=>Vg k x) ks ys) (h6:k∈KS) (h7:l∈KS)
  (h8:R (.bl<|ω<|cy (oM ps wy) (xs++[.str k]) (ys++[.str l])<0) S):Ao ds S R Z
inductive Plw (S:ak) (ps:δ Part) (wy:ρ) (xs ys:δ D) (k l:ρ) (j:ν) (ax:SD) (S':ak):η where
 |mk (o3 o4 o5 o6 o7 o8:θ D) (h0:ax=[some<|c9 ps wy,some<|Es xs k,some<|Es ys l,o3,o4,o5,o6,o7,o8]) (h1:S'=S) (h2:cy (oM ps wy) (xs++[.str k]) (ys++[.str l])=j):Plw S ps wy xs ys k l j ax S'
theorem MC(T:Txt w K mg t):Ok P w base T.B6 1 Ao:=by
 refine T.B6.F.ck eU ?_;obtain⟨ps,wy,xs,k,ys,l,ks,e,h1,h2,h8,vx,vy,hk,hl,q⟩;have eJ:(ps.map p3).length=ps.length:=za _;refine{_,(sc (nL<|HJ (Nq T.fO<|ac (cb aZ T.aT aH<|ac (ix hr.u (dv 0) di) an) an) (gn (i:=3) eU.nd)<|sc (sa (ix hr.u (ix hr.u (dv 0) di)<|dv 3)<|gt (n:=3)<|gc (gn (i:=4) eU.nd)<|gc (gn (i:=5) eU.nd)<|gc (gn (i:=6) eU.nd) g0)<|sc (aae (i:=7) (j:=8) eU.nd<|ac (ix hr.u (ix hr.u (dv 1) di)<|dv 3)<|ac (ix hr.u (ix hr.u (dv 2) di)<|dv 3) an)<|s1<|si (aX iQ hr.u (dv 7)<|dv 8) (sc (si (twd<|twor (aX gH hr.u (dv 7) dn)<|tw1<|aX gH hr.u (dv 8) dn) (s1<|sr<|cm aQ hr.u (cm gH hr.u (dv 7) dn)<|cm aQ hr.u (dv 6) ds) s0)<|s1<|sr<|cm aQ hr.u (cm mC hr.u (dv 7)<|dv 8)<|cm aQ hr.u (dv 5) ds) s0)<|sc (si (aX aQ hr.u (ix hr.u (dv 1) di)<|ix hr.u (dv 2) di) (s1<|sr db) s0)<|s1<|sr<|cm aQ hr.u (cm mC hr.u (ix hr.u (dv 1) di)<|ix hr.u (dv 2) di)<|cm aQ hr.u (ix hr.u (dv 0) di) ds),?_};refine{Plw S ps wy xs ys k l<|cV wy "last" (.str k)<|.str l,?_,?_};{refine !!!!{by rw[eJ];lia,by rw[eJ];lia,?_};refine{λi=>Plw S ps wy xs ys k l<|cy (oM (ps.drop i) wy) (xs.drop i++[.str k])<|ys.drop i++[.str l],{_,_,_,_,_,_,rfl,rfl,rfl},λ_ _ _ _=>trivial,?_,?_};rintro i d ax S' hd ⟨o3,o4,o5,o6,o7,o8,rfl,rfl,he⟩;obtain⟨hi,rfl⟩:=cQ hd;have i1:i<ps.length:=(by rw[eJ]at hi;lia);have i2:i<xs.length:=(by lia);have i3:i<ys.length:=(by lia);have e1:=zf i1;have e2:=zf i2;have e3:=zf i3;rw[ym i1,ym i2,ym i3]at he;generalize ps[i]=p at e1 he;generalize xs[i]=y at e2 he;generalize ys[i]=z at e3 he;have he:_=if cV p.2.1 p.2.2 y z=0 then cy (oM (ps.drop<|i+1) wy) (xs.drop (i+1)++[.str k]) (ys.drop (i+1)++[.str l]) else cV p.2.1 p.2.2 y z:=he;obtain⟨k1,q1,v1⟩:=dh vx e2;obtain⟨k2,q2,v2⟩:=dh vy e3;cases q1.symm.trans q2;have ez:(0:ν)+((i:π):ν)=((i:π):ν):=Int.zero_add _;have a1:iK (ps.map p3) (0+((i:π):ν))=some (p3 p):=(by rw[ez];exact bE<|by rw[zp,e1];rfl);have a2:iK xs (0+((i:π):ν))=some y:=(by rw[ez];exact bE e2);have a3:iK ys (0+((i:π):ν))=some z:=(by rw[ez];exact bE e3);refine !!!{_,a1,_,rfl,rfl,_,_,rfl,_,_,rfl,_,_,rfl,rfl,?_};refine !!!{_,a2,_,rfl,_,rfl,_,rfl,_,a3,_,_,rfl,?_};refine !!⟨lY v1.2 v2.2 !⟨bQ (λh=>?_) λh=>?_⟩⟩;have h:kE y z=false:=nt h;have jx:y≠z:=λe=>(by rw[(bJ v1.2 v2.2).mpr e]at h;cases h);have hc:cV p.2.1 p.2.2 y z≠0:=λe=>jx<|(ir ⟨k1,v1,v2⟩).mp e;rw[xz hc]at he;have hq:R (.bl<|cw ("",p.2.1,p.2.2) y z) S':=(by have:ω (cV p.2.1 p.2.2 y z<0)=cw ("",p.2.1,p.2.2) y z:=(by rw[yq,zK,og ⟨k1,v1,v2⟩];exact{λh=>h.2,λh=>⟨jx,h⟩});rw[he,this]at q;exact q);unfold cw at hq;have two:(ag y||ag z)=(ag y != ag z):=(by cases e4:ag y<;>cases e5:ag z<;>first|rfl|(exfalso;exact jx<|(cP e4).trans (cP e5).symm));refine !{ag y,rfl,Jv (ag z) (λh=>!!⟨h⟩) ?_};rw[two];refine bQ (λh5=>?_) λh5=>?_;rw[xL h5]at hq;exact !!⟨oa<|fo hq⟩;rw[xz<|by rw[h5];exact zd]at hq;rw[<-two,Bool.or_eq_false_iff]at h5;rcases kF v1 v2 (aO h5.1) (aO h5.2) with⟨a,b,rfl,rfl⟩|⟨a,b,rfl,rfl⟩;exact !!!⟨oa<|fo hq⟩;exact !!!⟨oa<|fo hq⟩;have h:kE y z=true:=nf h;rw[xL<|(ir ⟨k1,v1,v2⟩).mpr<|(bJ v1.2 v2.2).mp h]at he;exact{_,_,_,_,_,_,rfl,rfl,he};{rintro ax S' ⟨o3,o4,o5,o6,o7,o8,rfl,rfl,he⟩;have he:_=cy (oM (ps.drop (dJ 0 (((ps.map p3).length:π):ν).toNat).length) wy) (xs.drop (dJ 0 (((ps.map p3).length:π):ν).toNat).length++[.str k]) (ys.drop (dJ 0 (((ps.map p3).length:π):ν).toNat).length++[.str l]):=he;rw[cq,eJ,show((ps.length:π):ν).toNat=ps.length by lia,List.drop_length,h1,List.drop_length,<-h1,h2,List.drop_length]at he;refine fo {_,_,_,_,_,_,rfl,rfl,he.trans ?_};show(if cV wy "last" (.str k) (.str l)=0 then 0 else cV wy "last" (.str k) (.str l))=_;split;{next h=>exact h.symm};rfl}};rintro ax S' ⟨o3,o4,o5,o6,o7,o8,rfl,rfl,he⟩;rw[he]at q;have cm:Cm (.str k) (.str l):={_,jZ k hk,jZ l hl};refine !!!!!⟨bQ (λh=>?_) λh=>?_⟩;have h:k=l:=zE h;rw[(ir cm).mpr<|by rw[h]]at q;exact fo q;have h:¬k=l:=ye h;have jx:D.str k≠.str l:=λe=>h<|D.str.inj e;have e9:ω (cV wy "last" (.str k) (.str l)<0)=(rJ k l==ω (wy ="up")):=by rw[yq,zK,og cm];exact{λh=>h.2,λh=>⟨jx,h⟩}
 rw[e9]at q;exact !!!!!!⟨oa<|fo q⟩
inductive uk (ds:δ D) (S:ak) (R:KD) (Z:KX):η where
 |mk (cs ps wy r) (h0:ds=[.tup<|cs.map az,c9 ps wy,ah r]) (h1:Gd cs) (h2:Pin cs ps) (h3:ps.length<=8) (h4:Wg cs r.2) (h5:R (Es (ps.map λp=>aj cs r.2 p.1) r.1) S)
theorem Ap(T:Txt w K mg t):Ok P w base T.pB 1 uk:=by
 refine T.pB.F.ck qJ ?_;obtain⟨cs,ps,wy,r,e,hg,hp,h8,hw,q⟩;refine{_,(sc (bW (i:=3) qJ.nd<|Vi (N:=["_law_name","_law_kind"]) (src:=[none,none]) (js tT) (GB<|dv 0) (Xj<|show(["_law_name","_law_kind"]:δ ρ).Nodup by trivial) (oX rfl rfl) pd (λ_ _ _ _ _=>nK) λ_ _ _ _ _=>(dv 0))<|s1<|sr<|b9<|ac (ct gI T.bP bu<|ac (su (N:=["_law_part","_law_row","_law_names"]) (src:=[none,some 2,some 3]) (js tT) (GB<|ix hr.u (dv 1) di) nK<|ix hr.u (ix hr.u (dv 1) di)<|bm zQ PySem.F.slot_list_index PySem.F.type_list_index qg (dv 2)<|ac (ix hr.u (dv 0) di) an) an)<|ac (ix hr.u (dv 2) di) an),?_};refine !{_,.inl rfl,?_};refine comp_map Rr trivial (by show(cs.map az).length<=1000;rw[za];have:=hg.1;lia) (λd hd Q hQ=>?_) λpn m9=>?_;obtain⟨c,_,rfl⟩:=zg.mp hd;exact !{rfl,_,_,rfl,_,_,rfl,rfl,_,rfl,hQ};rw[show({cs.map az,λ_=>True}:ke).xs=cs.map az from rfl,Am];have sb:=Sub.new (c:=.lst<|(cs.map Prod.fst).map D.str) m9;have nh:(S.set pn<|.lst<|(cs.map Prod.fst).map D.str) pn=some (.lst<|(cs.map Prod.fst).map D.str):=aa;generalize S.set pn (.lst<|(cs.map Prod.fst).map D.str)=S1 at sb nh⊢;refine !!{_,.inl rfl,?_};refine comp_map (λd=>match d with|.tup (.str z::_)=>aj cs r.2 z|_=>.au) trivial (by show(ps.map p3).length<=_;rw[za];lia) (λd hd Q hQ=>?_) λp2 iy=>?_;obtain⟨pt,hpt,rfl⟩:=zg.mp hd;obtain⟨c,hc,ec⟩:=hp pt hpt;have lx:=JC hg hc;have XX:=(jy hg hw hc).1;rw[ec]at lx XX;exact !!!⟨{rfl,_,nh},_,rfl,_,rfl,_,.str pt.1,Jh cs pt.1,rfl,nh,rfl,lx.1,lx.2.1,lx.2.2,_,bE XX,hQ⟩;have e3:(ps.map p3).map (λd=>match d with|.tup (.str z::_)=>aj cs r.2 z|_=>.au)=ps.map λp=>aj cs r.2 p.1:=by rw[zq];rfl
 rw[show({ps.map p3,λ_=>True}:ke).xs=ps.map p3 from rfl,e3];exact{_,_,rfl,.inl aa,_,rfl,_,rfl,cz,S,sb.trans<|.new iy,q}
noncomputable def Rx(x:ν):δ Int:=[1,2,3,1+x/6%9,1000,13+x/6%30]
noncomputable def Ry(x:ν):Nat:=((Rx x).getD (x%6).toNat 1).toNat
theorem JD(h:y∈Rx x):1<=y/\y<=1000:=by have a0:0<=x/6%9:=zR _ (by decide);have a1:x/6%9<9:=zM _ (by decide);have b0:0<=x/6%30:=zR _ (by decide);have b1:x/6%30<30:=zM _ (by decide);unfold Rx at h;simp only[zk,zP,or_false]at h;rcases h with h|h|h|h|h|h<;>lia
theorem Rz(x:ν):1<=Ry x/\Ry x<=1000:=by
 have h:(x%6).toNat<(Rx x).length:=by have:=zR x (show(6:ν)≠0 by decide);have:=zM x (show(0:ν)<6 by decide);show _<6;lia
 have:=JD<|List.getElem_mem h;unfold Ry;rw[zD,zf h];show 1<=((Rx x)[(x%6).toNat]).toNat/\((Rx x)[(x%6).toNat]).toNat<=1000;lia
inductive Aq (ds:δ D) (S:ak) (R:KD) (Z:KX):η where
 |mk (x:ν) (h0:ds=[.int x]) (h1:R (.int (Ry x:π)) S)
theorem MD(T:Txt w K mg t):Ok P w base T.B7 1 Aq:=by
 refine T.B7.F.ck FP ?_;obtain⟨x,e,q⟩;refine{_,(s1<|sr<|wB<|ix hr.u (b8<|ac di<|ac di<|ac di<|ac (bo aV hr.u di<|bo bz hr.u (bo bS hr.u (dv 0) di) di)<|ac di<|ac (bo aV hr.u di<|bo bz hr.u (bo bS hr.u (dv 0) di) di) an)<|bo bz hr.u (dv 0) di),?_};refine{_,rfl,{by decide,by trivial},by decide,_,rfl,{by decide,by trivial},by decide,aay,λp hp=>!{by decide,?_}};obtain⟨v,e1,e2⟩:=oY (l:=(Rx x).map D.int) (i:=x%6) (zR _<|by decide)<|zM _ (by decide);refine{_,v,aa,e1,S,.new hp,?_};rw[zp]at e2;obtain⟨y,ey,rfl⟩:=Option.map_eq_some_iff.mp e2;have hy:=JD<|zH ey;have e3:((Ry x:π):ν)=y:=by unfold Ry;rw[zD,ey];show((y.toNat:π):ν)=y;lia
 rw[e3]at q;exact fo q
theorem JE(h:xs.length=10):(cN xs (some 2) none).length=8:=by unfold cN;rw[yn,List.length_drop,show HT.sIx xs.length 0 (some 2)=min 2 xs.length from HT.sIx_nat ..,show HT.sIx xs.length xs.length none=xs.length from rfl,h];rfl
inductive Ar (ds:δ D) (S:ak) (R:KD) (Z:KX):η where
 |mk (cs:δ<|ρ×ρ) (lk:ε) (kn:Kn) (c:ν) (h0:ds=[.tup<|cs.map az,.ref lk,.int c]) (h1:Gd cs) (h2:S lk=some (.bG<|dD kn)) (h3:KI cs kn) (h4:∀d iF,GD KS cs kn d->V8 kn d iF->KI cs iF->R d (S.set lk<|.bG<|dD iF))
theorem As(T:Txt w K mg t):Ok P w base T.vh 3 Ar:=by
 refine T.vh.F.ck gv ?_;obtain⟨cs,lk,kn,c0,e,hg,hk,hI,q⟩;have Wf:=hg.1;have XY:=hI.len;refine{_,(sc (bW (i:=3) gv.nd<|bp T.jv (lU T) hr<|ap 2<|ac di an)<|sc (bW (i:=4) gv.nd<|bp T.D1 (IZ T) hr<|ac (ix hr.u (dv 3) di) an)<|sc (bW (i:=5) gv.nd<|bp T.qF (FY T) hr<|ap 0<|ac (Qv (dv 3) (o1 di) o0) an)<|sc (si (twd<|twand (aX r9 hr.u (dv 4)<|dv 1)<|tw1<|aX aQ hr.u (bo bz hr.u (ix hr.u (dv 3) di) di) di) (sc (se<|mp1 (dv 1)<|dv 4)<|s1<|sr<|b9<|ac ds<|ap 4 an) s0)<|sc (bW (i:=6) gv.nd<|wB<|ix hr.u (b8<|ac ds<|ac ds an)<|ct HD T.D0 uF<|ac (cm r9 hr.u (dv 4)<|dv 1) an)<|sc (sd hr.u (dv 1) (dv 4)<|dv 5)<|s1<|sr<|b9<|ap 6<|ap 4<|ap 5 an),?_};refine !{c0,10,rfl,by decide,λxs lx NT hx Bk=>?_};have s1:=Sub.new (c:=.lst<|xs.map D.int) Bk;have hX:(S.set lx<|.lst<|xs.map D.int) lx=some (.lst<|xs.map D.int):=aa;generalize S.set lx (.lst<|xs.map D.int)=S1 at s1 hX⊢;have at_:∀k:π,k<10->∃x:ν,iK (xs.map D.int) ((k:π):ν)=some (.int x)/\0<=x:=λk hk=>xY (by lia) (by rw[za];lia) hx;obtain⟨x0,e0,_⟩:=at_ 0 (by decide);obtain⟨x1,e1,_⟩:=at_ 1 (by decide);refine !{_,_,hX,e0,x0,rfl,λz hz=>?_};refine !!!{_,hX,λp2 iy=>{cs,p2,cN xs (some 2) none,rfl,hg,by rw[l9];exact aa,by rw[JE NT];lia,λws hw=>?_}};have s2:=s1.trans<|Sub.new (c:=.lst<|cN (xs.map D.int) (some 2) none) iy;have I9:=(Sub.new (c:=.lst<|cN (xs.map D.int) (some 2) none) iy) _ _ hX;generalize S1.set p2 (.lst<|cN (xs.map D.int) (some 2) none)=S2 at s2 I9⊢;have c_:=s2 _ _ hk;have isS:(bL (dD kn)<|.inr z).isSome=(dk kn z).isSome:=by rw[qX];cases dk kn z<;>rfl
 have hl:(dD kn).length<sizeLine:=bg (by unfold dD;rw[za];lia);have n2:=cz;have n3:=qL;have fin:∀{d:D}{iF:Kn},GD KS cs kn d->V8 kn d iF->KI cs iF->Fo (S2.set lk<|.bG<|dD iF) (R d):=λh1 h2 h3=>{_,cW s2,q _ _ h1 h2 h3};refine !!⟨.inr {dD kn,.inr z,c_,rfl,_,rfl,bQ (λh=>?_) λh=>?_}⟩;have h:(bL (dD kn)<|.inr z).isSome=true:=h;have SU:(dk kn z).isSome=true:=isS ▸ h;obtain⟨vs,hvs⟩:=Option.isSome_iff_exists.mp SU;refine !{_,_,I9,e1,by decide,_,rfl,bQ (λ_=>?_) λ_=>?_};refine !{lk,dD kn,rfl,c_,_,rfl,dD kn,.inr z,.tup vs,c_,rfl,by rw[qX,hvs];rfl,?_};rw[Q0];exact !{n2,fin (.inr<|.inr ⟨z,hz,SU,rfl⟩) (.inr ⟨z,SU,rfl,rfl⟩)<|hI.del z};refine{n2,λp hp=>!!⟨.inr {dD kn,.inr z,(Sub.new hp) _ _ c_,rfl,?_}⟩};rw[h];refine .inr !{_,_,aa,(show iK _ 1=some _ from rfl),S2,.new hp,?_};refine !!!{lk,dD kn,.inr z,rfl,c_,rfl,hl,?_};rw[I_];exact !!!{n3,fin (.inr<|.inl ⟨z,ws,hz,hw,SU,rfl⟩) (.inl {_,z,ws,.inr rfl,rfl,rfl})<|hI.put hz hw};have h:(bL (dD kn)<|.inr z).isSome=false:=h;have PX:dk kn z=none:=by cases e:dk kn z with|none=>rfl|some _=>rw[isS,e]at h;cases h
 refine bt {n2,λp hp=>!!⟨.inr {dD kn,.inr z,(Sub.new hp) _ _ c_,rfl,?_}⟩};rw[h];refine .inr !{_,_,aa,(show iK _ 0=some _ from rfl),S2,.new hp,?_};refine !!!{lk,dD kn,.inr z,rfl,c_,rfl,hl,?_};rw[I_];exact !!!{n3,fin (.inl ⟨z,ws,hz,hw,PX,rfl⟩) (.inl {_,z,ws,.inl rfl,rfl,rfl})<|hI.put hz hw}
inductive Au (ds:δ D) (S:ak) (R:KD) (Z:KX):η where
 |mk (cs:δ<|ρ×ρ) (lk:ε) (kn:Kn) (h0:ds=[.ref lk]) (h1:S lk=some (.bG<|dD kn)) (h2:KI cs kn) (h3:∀ss p,ss.Perm (kn.map (·.1))->PyProof.Rows.sortedS ss=true->S p=none->R (.ref p) (S.set p<|.lst<|(aL kn ss).map ah))
theorem rA(T:Txt w K mg t):Ok P w base T.qG 1 Au:=by
 refine T.qG.F.ck FO ?_;obtain⟨cs,lk,kn,e,hk,hI,q⟩;have XY:=hI.len;refine{_,(s1<|sr<|su (N:=["_law_key_here","_law_standing"]) (src:=[none,some 0]) (js IG) (il<|cb xg T.gs eR<|ap 0 an) nK<|b9<|ap 0<|ac (ix hr.u (dv 1)<|dv 0) an),?_};refine !{lk,dD kn,kn.map (·.1),rfl,hk,by unfold dD;rw[zq,zq];rfl,by unfold dD;rw[za];lia,λss hp hs p m9=>?_};have hlen:ss.length<=60:=by rw[hp.length_eq,za];exact XY
 refine{_,aa,?_};refine comp_map (λd=>match d with|.str z=>.tup [.str z,sH kn z]|_=>.au) aa (by show(ss.map D.str).length<=1000;rw[za];lia) (λd hd Q hQ=>?_) λp2 iy=>?_;obtain⟨z,hz,rfl⟩:=zg.mp hd;obtain⟨ws,Ae⟩:=jk<|hp.mem_iff.mp hz;have hQ:Q (.tup [.str z,sH kn z]) (S.set p<|.lst<|ss.map D.str):=hQ;have e1:bL (dD kn) (.inr z)=some (sH kn z):=by rw[qX];unfold sH;rw[Ae];rfl
 exact !!!{dD kn,_,(Sub.new m9) _ _ hk,e1,cz,hQ};have em:(ss.map D.str).map (λd=>match d with|.str z=>D.tup [.str z,sH kn z]|_=>.au)=(aL kn ss).map ah:=by rw[uf hp,zq];rfl
 rw[show({ss.map D.str,λS=>o9 S (.ref p)<|ss.map D.str}:ke).xs=ss.map D.str from rfl,em];exact{_,cW<|.new m9,q ss p2 hp hs<|cH (.new m9) iy}
structure Wq(t:fA)(ds:δ D)(S:ak)(R:KD)(Z:KX):η where
 of:NV t ds S R Z
noncomputable def Fs(lk lm:ε)(kn:Kn)(ce:δ D):δ (ε×Ce):=[(lk,.bG<|dD kn),(lm,.lst ce)]
structure Bt(t:fA)(S0:ak)(a lk lm:ε)(cs:δ (ρ×ρ))(kn:Kn)(ce:δ D)(F:δ ε)(dl:δ D)(rs:lQ)(S:ak):η where
 st:St t S0 a (Fs lk lm kn ce) F cs dl rs S
 ki:KI cs kn
 ri:RI rs dl.length kn
 le:dl.length<=99
inductive Bv (S:ak) (cs:δ<|ρ×ρ) (l a lk lm:ε) (ax:SD) (S':ak):η where
 |mk (lx:ε) (ys:δ ν) (o6:θ D) (h0:ax=[some<|.tup<|cs.map az,some<|.ref l,some<|.ref a,some<|.ref lk,some<|.ref lm,some<|.ref lx,o6]) (h1:Sub S S') (h2:S' lx=some (.lst<|ys.map D.int)) (h3:ys.length<=59):Bv S cs l a lk lm ax S'
inductive Bw (t:fA) (S:ak) (cs:δ<|ρ×ρ) (l a lk lm lx lz:ε) (zs:δ ν) (i:π) (ax:SD) (S':ak):η where
 |mk (kn:Kn) (ce:δ D) (F:δ ε) (dl:δ D) (rs:lQ) (o6:θ D) (h0:ax=[some<|.tup<|cs.map az,some<|.ref l,some<|.ref a,some<|.ref lk,some<|.ref lm,some<|.ref lx,o6]) (h1:dl.length=i) (h2:St t S a ((lz,.lst<|zs.map D.int)::Fs lk lm kn ce) F cs dl rs S') (h3:KI cs kn) (h4:RI rs dl.length kn) (h5:ce.length=dl.length+1):Bw t S cs l a lk lm lx lz zs i ax S'
inductive um (t:fA) (ds:δ D) (S:ak) (R:KD) (Z:KX):η where
 |mk (cs:δ<|ρ×ρ) (l:ε) (ms:δ ν) (h0:ds=[.tup<|cs.map az,.ref l]) (h1:Gd cs) (h2:S l=some (.lst<|ms.map D.int)) (h3:ms.length<=40) (h4:∀S' a lk lm kn ce F dl rs,Bt t S a lk lm cs kn ce F dl rs S'->R (.tup [.ref a,.ref lm,.ref lk]) S')
theorem JF(T:Txt w K mg t):Ok P w base T.vi 8 (um t):=by
 have rB:Ok P w base T.mU 7 (Wq t):=(Ef T).Qb λds S R Z h=>h.of;refine T.vi.F.ck cG ?_;obtain⟨cs,l,ms,e,hg,hl,h30,q⟩;refine{_,(sc (bW (i:=2) cG.nd<|mk T.IP (Me T) (hr.mono<|by decide) T.IM T.fk.b d0<|ap 0 an)<|sc (bW (i:=3) cG.nd UL)<|sc (bW (i:=4) cG.nd<|b8<|ac (b8 an) an)<|sc (bW (i:=5) cG.nd<|b8 an)<|sc (nL<|HJ (il<|Qv (dv 1) o0<|o1 di) (gn (i:=6) cG.nd)<|s1<|si (aX aQ hr.u (bo bz hr.u (dv 6) di) di) (s1<|qr (N:=["_law_k","_law_cell"]) (src:=[none,some 6]) 5 cG.nd (js FG) (Nq T.fO<|ac (bo aV hr.u di<|bo bz hr.u (bo bS hr.u (dv 6) di) di) an) nK<|bo aV hr.u (bo bS hr.u (dv 1) di)<|bo qd hr.u di<|dv 0) s0)<|sc (nL<|HJ (il<|bo aV hr.u (dv 5)<|dv 1) (gn (i:=6) cG.nd)<|sc (se<|bp T.mU rB hr<|ap 2<|ac (bp T.vh (As T) hr<|ap 0<|ap 3<|ap 6 an) an)<|s1<|se<|bm zQ yb yc cC (dv 4)<|ac (bp T.qG (rA T) hr<|ap 3 an) an)<|s1<|sr<|b9<|ap 2<|ap 4<|ap 3 an),?_};refine{_,rfl,λa ha=>{a,cs,rfl,hg,aa,λS1 F1 D_ V4=>{rfl,?_}}};have aa1:XU S F1 S1:=λb c hb=>by have h2:b≠a:=gC hb ha;exact V4 b c (λm=>h2<|zI.mp m)<|(ae h2).trans hb
 have QA:St t S a [] F1 cs [] [] S1:={D_,λ_ h=>(nomatch h),.nil,aa1};refine λlk LA=>?_;have JG:=QA.new LA<|.bG [];generalize S1.set lk (.bG [])=SA at JG⊢;refine{kB,λq0 hq0=>{IQ,λlm hlm=>?_}};have AH:=(JG.sub<|.new (c:=.lst []) hq0).new hlm<|.lst [.ref q0];generalize (SA.set q0<|.lst []).set lm (.lst [.ref q0])=SB at AH⊢;have Gu:St t S a (Fs lk lm [] [.ref q0]) F1 cs [] [] SB:=AH;refine{kB,λle hle=>?_};have sb0:=Sub.new (c:=.lst []) hle;have Wr:(SB.set le<|.lst []) le=some (.lst []):=aa;have L8:=sb0 _ _<|Gu.GI.sub _ _ hl;generalize SB.set le (.lst [])=SC at sb0 Wr L8⊢;refine{Bv SC cs l a lk lm,?_,?_};refine !!{_,L8,λp1 nh=>{_,aa,?_}};have Q8:=Sub.new (c:=.lst<|cN (ms.map D.int) none<|some 1) nh;have ME:(SC.set p1<|.lst<|cN (ms.map D.int) none<|some 1) p1=some (.lst<|cN (ms.map D.int) none<|some 1):=aa;generalize SC.set p1 (.lst<|cN (ms.map D.int) none<|some 1)=SD at Q8 ME⊢;rw[l9]at ME⊢;generalize cN ms none (some 1)=m1 at ME⊢;refine{λ_=>Bv SD cs l a lk lm,{le,[],none,rfl,.refl _,Q8 _ _ Wr,zY _},?_,?_,?_};rintro i ax S' ⟨_,_,_,_,sb,_⟩;exact sb _ _ ME;rintro i d ax S' hd ⟨lx,ys,o6,rfl,sb,hx,hy⟩;have hd:(m1.map D.int)[i]?=some d:=hd;obtain⟨c,_,rfl⟩:=zg.mp<|zH hd;refine !{by decide,_,rfl,bQ (λ_=>?_) λ_=>{lx,ys,_,rfl,sb,hx,hy}};have b0:0<=c/8%40:=zR _ (by decide);have b1:c/8%40<40:=zM _ (by decide);refine{_,rfl,{by decide,by trivial},by decide,_,rfl,by lia,by lia,?_};refine lM (λ_ v=>∃x:ν,v=.int x) trivial (by show(dJ 0 _).length<=_;rw[cq];lia) (λd hd Q hQ=>?_) λout BN p m9=>?_;obtain⟨j,hj⟩:=yh hd;obtain⟨_,rfl⟩:=cQ hj;exact{_,rfl,{by decide,by trivial},_,rfl,.inl<|by decide,hQ _ {_,rfl}};have hlen:=y0 BN;have:∀{L out:δ D},Paired (λ_ v=>∃x:ν,v=D.int x) L out->∃xs:δ ν,out=xs.map D.int:=λ{L out} h=>by induction h with|nil=>exact{[],rfl}|cons r _ ih=>obtain⟨x,rfl⟩:=r;obtain⟨xs,rfl⟩:=ih;exact{x::xs,rfl}
 obtain⟨zs,rfl⟩:=this BN;rw[za]at hlen;have hlen:(dJ 0 (20+c/8%40).toNat).length=zs.length:=hlen;rw[cq]at hlen;exact{p,zs,_,rfl,sb.trans<|.new m9,aa,by lia};rintro ax S' ⟨lx,ys,o6,rfl,sb,r1,r2⟩;exact fo {lx,ys,o6,rfl,Q8.trans sb,r1,r2};rintro ax S2 ⟨lx,ys,o6,rfl,JZ,hx,hy⟩;have Gi:=(Gu.sub sb0).sub JZ;refine{λax S'=>∃(kn:Kn)(ce:δ D)(F:δ ε)(dl:δ D)(rs:lQ)(o6:θ D),ax=[some<|.tup<|cs.map az,some<|.ref l,some<|.ref a,some<|.ref lk,some<|.ref lm,some<|.ref lx,o6]/\Bt t S a lk lm cs kn ce F dl rs S',?_,?_};refine !!{_,_,hx,JZ _ _ L8,sm<|by rw[za,za];lia,λlz hlz=>{_,aa,?_}};rw[<-zL];have Z2:(ys++ms).length<=99:=by rw[zA];lia
 generalize ys++ms=zs at Z2⊢;have sU:St t S a ((lz,.lst<|zs.map D.int)::Fs lk lm [] [.ref q0]) F1 cs [] [] (S2.set lz<|.lst<|zs.map D.int):=(Gi.new hlz _).perm (List.perm_append_singleton _ _).symm;generalize S2.set lz (.lst<|zs.map D.int)=S3 at sU⊢;refine{Bw t S cs l a lk lm lx lz zs,?_,?_,?_,?_};exact{[],[.ref q0],F1,[],[],_,rfl,rfl,sU,KI.nil cs,RI.nil,rfl};rintro i ax S' ⟨_,_,_,_,_,_,_,_,st,_⟩;exact st.at 0 rfl;rintro i d ax S' hd ⟨kn,ce,F,dl,rs,o6,rfl,K6,st,hI,hR,hH⟩;have hd:(zs.map D.int)[i]?=some d:=hd;have hi:=(ze.mp hd).1;rw[za]at hi;obtain⟨c,_,rfl⟩:=zg.mp<|zH hd;refine !!!!{cs,lk,kn,c,rfl,hg,st.at 1 rfl,hI,λde iF hde SO XZ=>?_};have wa:St t S a ((lz,.lst<|zs.map D.int)::Fs lk lm iF ce) F cs dl rs _:=st.put 1 rfl<|.bG<|dD iF;generalize S'.set lk (.bG<|dD iF)=S6 at wa⊢;refine⟨(ug wa.sh hg hI hR (by lia) hde SO λS7 F7 rs7 hS7 hK7 hR7=>?_).of⟩;have N_:=wa.Wi hS7 hK7;have hM:=N_.at 2 rfl;have Bi:ce.length<sizeLine:=bg (by lia);refine{_,rfl,{rfl,_,hM},_,rfl,cs,lk,iF,rfl,N_.at 1 rfl,XZ,λss p hp ho m9=>?_};refine{lm,_,_,rfl,rfl,(Sub.new m9) _ _ hM,Bi,?_};have st8:=(N_.sub<|.new (c:=.lst<|(aL iF ss).map ah) m9).put 2 rfl<|.lst<|ce++[.ref p];exact{iF,ce++[D.ref p],F7,dl++[de],rs7,_,rfl,by rw[zA,K6];rfl,st8,XZ,by rw[zA];exact hR7,by rw[zA,zA,hH];rfl};rintro ax S' ⟨kn,ce,F,dl,rs,o6,rfl,K6,st,hI,hR,hH⟩;have K6:dl.length=(zs.map D.int).length:=K6;rw[za]at K6;exact fo {kn,ce,F,dl,rs,o6,rfl,st.less (yf.mp st.nd).2 λx hx=>zh _ hx,hI,hR,by lia};rintro ax S' ⟨kn,ce,F,dl,rs,o6,rfl,hb⟩;exact !!!{qL,fo<|q _ _ _ _ _ _ _ _ _ hb}
theorem RA{cs:δ<|ρ×ρ}{ps:δ Part}{g:AS}(h:Gp cs ps g){S:ak} : Ly S 3 (sI g):=by
 have hs:PyData.strOk g.2.2=true:=by have:=h.side;unfold Ah at this;rw[yS]at this;rcases this with q|q<;>rw[zE q]<;>decide +kernel
 refine Ly.tup λx hx=>?_;simp only[zk,zP,or_false]at hx;rcases hx with rfl|rfl;refine Ly.tup λx hx=>?_;simp only[zk,zP,or_false]at hx;rcases hx with rfl|rfl;refine Ly.tup λx hx=>?_;obtain⟨i,ei⟩:=yh hx;obtain⟨k,_,hv⟩:=dh h.pv ei;exact Ly.plain hv.2;exact(Ly.str (gb _ h.key).2.2).le (by decide);exact(Ly.str hs).le<|by decide
theorem Ws{S:ak}{ds:δ D}{z:ρ}{R:KD}(h:Ly S 3<|.tup ds)(hz:PyData.strOk z=true)(q:R (.bl false) S):Gy false (.tup ds) (.str z) S R:=by obtain⟨p,a,b,c⟩:=h;simp only[Dp]at a;obtain⟨ps,rfl,k⟩:=a;refine{.tuple ps,.str z,by simp only[Dl,Dp];exact⟨ps,rfl,k⟩,by simp only[Dl,Dp],b,by simp only[PyData.canLay0];exact hz,.inl<|by lia,?_};rw[xz zd,show PyData.eqv (.tuple ps) (.str z)=false by simp only[PyData.eqv]];exact q
theorem Oa{S:ak}{σ:SD}{ds:δ D}{z:ρ}{R:KD}{Z:KX}(h:Ly S 3<|.tup ds)(hz:PyData.strOk z=true)(q:R (.bl false) S):dC (.str z) σ S (λy S2=>Gy false (.tup ds) y S2 R) Z:=Ws h hz q
set_option genInjectivity true in
set_option genSizeOfSpec true in
inductive Sd where
 |s
 |e
 |g (g:AS)
noncomputable def Ob:Sd->D|.s=>.str "start"|.e=>.str "end"|.g g=>sI g
noncomputable def pJ(cs:δ<|ρ×ρ)(ps:δ Part)(wy:ρ)(A:δ Row):Sd->π|.s=>0|.e=>A.length|.g g=>A.countP<|gP cs ps wy g
def X0(cs:δ<|ρ×ρ)(ps:δ Part):Sd->η|.g g=>Gp cs ps g|_=>True
theorem wb:∀s,pJ cs ps wy A s<=A.length|.s=>zY _|.e=>zm _|.g _=>List.countP_le_length
structure Wk where
 (w a:ε)
 ps:δ Part
 wy:ρ
 d:D
 n:π
 (f h:Sd)
noncomputable def sO(C:ε)(q:Wk):Ce:=.ins C [("shelf",.ref q.a),("order",c9 q.ps q.wy),("sieve",q.d),("size",.int (q.n:π)),("fore",Ob q.f),("hinder",Ob q.h)]
noncomputable def CJ(cs:δ<|ρ×ρ)(ps:δ Part)(rows:δ Row)(s:Sd):Sd×Sd:=match rows[0]?,rows[rows.length-1]? with|some r0,some r1=>(.g<|N9 cs ps "ahead" r0,.g<|N9 cs ps "behind" r1)|_,_=>(s,s)
noncomputable def dm(cs:δ<|ρ×ρ)(ps:δ Part)(wy:ρ)(A:δ Row)(s:Sd)(n:π):π×Nat:=(pJ cs ps wy A s,N8 A (pJ cs ps wy A s) n)
inductive j5 (ds:δ D) (S:ak) (R:KD) (Z:KX):η where
 |mk (cs:δ<|ρ×ρ) (ps:δ Part) (wy:ρ) (p:ε) (rows:δ Row) (b c:π) (s:Sd) (h0:ds=[.tup<|cs.map az,c9 ps wy,CF p b c,Ob s]) (h1:Gd cs) (h2:Pin cs ps) (h3:ps.length<=8) (h4:S p=some (.lst<|rows.map ah)) (h5:∀r∈rows,Wg cs r.2) (h6:R (.tup [Ob (CJ cs ps rows s).1,Ob (CJ cs ps rows s).2]) S)
theorem rC(T:Txt w K mg t):Ok P w base T.ja 5 j5:=by refine T.ja.F.ck jc ?_;obtain⟨cs,ps,wy,p,rows,b,c,s,e,hg,hp,h8,hS,hw,q⟩;refine{_,(sc (bW (i:=4) jc.nd<|bp T.vf (CG T) hr<|ap 0<|ap 1<|ap 2 an)<|s1<|sr<|UK (aX gH hr.u (dv 4) dn) (b9<|ap 3<|ap 3 an)<|dv 4),?_};refine !!!{cs,ps,wy,p,rows,b,c,rfl,hg,hp,h8,hS,hw,λz=>?_,λr0 r1 q0 q1=>?_};subst z;exact !!⟨dX !!{cz,fo q}⟩;unfold CJ at q;rw[q0,q1]at q;exact !!⟨bt !⟨fo q⟩⟩
inductive oj (t:fA) (ds:δ D) (S:ak) (R:KD) (Z:KX):η where
 |mk (k a:ε) (cs:δ<|ρ×ρ) (ps:δ Part) (wy:ρ) (d:D) (n:π) (F:δ ε) (dl:δ D) (rs:lQ) (h0:ds=[.ref k,.ref a,c9 ps wy,d,.int (n:π)]) (h1:Gd cs) (h2:Og cs ps wy) (h3:Sq cs d) (h4:1<=n) (h5:n<=1000) (h6:bX t.aq S a F cs dl rs) (h7:S k=some (.ins t.aE [])) (h8:R .au<|S.set k<|sO t.aE {k,a,ps,wy,d,n,.s,.s})
theorem JH(T:Txt w K mg t):r_ P w mg base T.f9 7 (oj t):=by refine T.f9.F.ck mW ?_;obtain⟨k,a,cs,ps,wy,d,n,F,dl,rs,e,hg,ho,hd,h1,h2,hS,hk,q⟩;obtain⟨ld,lr,ra,h,_⟩:=id hS;refine{_,(sc (se<|bp T.i6 (qY T) hr<|ac (oA (dv 1) T.ao T.aN (bU T) hr)<|ap 2 an)<|sc (se<|bp T.i8 (q8 T) hr<|ac (oA (dv 1) T.ao T.aN (bU T) hr)<|ap 3 an)<|sc (se<|bp T.ku (sM T) hr<|ap 4 an)<|sc (sf T.aY T.dU (dv 0)<|dv 1)<|sc (sf T.aY T.dW (dv 0)<|dv 2)<|sc (sf T.aY T.jU (dv 0)<|dv 3)<|sc (sf T.aY T.lB (dv 0)<|dv 4)<|sc (sf T.aY T.lC (dv 0)<|dg (v:=.str "start") T.qA {_,rfl} λ_=>dI _)<|s1<|sf T.aY T.fc (dv 0)<|dg (v:=.str "start") T.qA {_,rfl} λ_=>dI _),?_};refine !{a,_,rfl,h.ins,rfl,a,F,cs,dl,rs,rfl,hS,_,rfl,cs,ps,wy,rfl,hg,ho.tx,ho.ok,?_};refine !{a,_,rfl,h.ins,rfl,a,F,cs,dl,rs,rfl,hS,_,rfl,cs,d,rfl,hg,hd,?_};refine !!{by lia,by lia,?_};refine !!{k,_,rfl,hk,(show 0<1000 by decide),?_};refine !!{k,_,rfl,aa,(show 1<1000 by decide),?_};refine !!{k,_,rfl,aa,(show 2<1000 by decide),?_};refine !!{k,_,rfl,aa,(show 3<1000 by decide),?_};refine !{k,_,rfl,aa,(show 4<1000 by decide),?_};refine !{k,_,rfl,aa,(show 5<1000 by decide),?_};rw[ba,ba,ba,ba,ba];exact fo q
inductive om (t:fA) (ds:δ D) (S:ak) (R:KD) (Z:KX):η where
 |mk (q:Wk) (l:ε) (s:Sd) (A:δ Row) (cs:δ<|ρ×ρ) (F:δ ε) (dl:δ D) (rs:lQ) (h0:ds=[.ref q.w,.ref l,Ob s]) (h1:S q.w=some (sO t.aE q)) (h2:Gd cs) (h3:Og cs q.ps q.wy) (h4:bX t.aq S q.a F cs dl rs) (h5:S l=some (.lst<|A.map ah)) (h6:An cs q.ps q.wy A) (h7:X0 cs q.ps s) (h8:R (.int (pJ cs q.ps q.wy A s:π)) S)
theorem JI(T:Txt w K mg t):r_ P w mg base T.eE 6 (om t):=by refine T.eE.F.ck kz ?_;obtain⟨k,l,s,A,cs,F,dl,rs,e,hk,hg,ho,hS,hl,hA,hs,q⟩;obtain⟨ld,lr,ra,h,_⟩:=id hS;refine{_,(sc (si (aX aQ hr.u (dv 2)<|dg (v:=.str "start") T.qA {_,rfl} λ_=>dI _) (s1<|sr di) s0)<|sc (si (aX aQ hr.u (dv 2)<|dg (v:=.str "end") T.QM {_,rfl} λ_=>dI _) (s1<|sr<|cb aZ T.aT aH<|ap 1 an) s0)<|s1<|sr<|bp T.i_ (rq T) hr<|ac (oA (fl T.aY T.dU<|dv 0) T.ao T.aN (bU T) hr)<|ac (fl T.aY T.dW<|dv 0)<|ap 1<|ap 2 an),?_};cases s with|s=>exact (!!⟨kM<|fo q⟩)|e=>refine !!⟨bZ !!⟨kM !!⟨.inl {_,hl,?_}⟩⟩⟩;rw[za];exact fo q|g g=>have hly:=RA hs (S:=S);exact{_,rfl,Oa hly (by trivial) !⟨bt !⟨Oa hly (by trivial) !⟨bt !{k.w,_,_,rfl,hk,rfl,k.a,_,rfl,h.ins,rfl,k.a,F,cs,dl,rs,rfl,hS,_,rfl,k.w,_,_,rfl,hk,rfl,_,rfl,_,rfl,cs,k.ps,k.wy,A,l,g,rfl,hg,ho.pin,ho.len,hl,hA,hs,fo q}⟩⟩⟩}
inductive ma (t:fA) (ds:δ D) (S:ak) (R:KD) (Z:KX):η where
 |mk (q:Wk) (p:ε) (b c:π) (s:Sd) (rows:δ Row) (cs:δ<|ρ×ρ) (F:δ ε) (dl:δ D) (rs:lQ) (h0:ds=[.ref q.w,CF p b c,Ob s]) (h1:S q.w=some (sO t.aE q)) (h2:Gd cs) (h3:Og cs q.ps q.wy) (h4:bX t.aq S q.a F cs dl rs) (h5:S p=some (.lst<|rows.map ah)) (h6:∀r∈rows,Wg cs r.2) (h7:R .au<|S.set q.w<|sO t.aE {q.w,q.a,q.ps,q.wy,q.d,q.n,(CJ cs q.ps rows s).1,(CJ cs q.ps rows s).2})
theorem Gj(T:Txt w K mg t):r_ P w mg base T.dy 6 (ma t):=by refine T.dy.F.ck dZ ?_;obtain⟨k,p,b,c,s,rows,cs,F,dl,rs,e,hk,hg,ho,hS,hp,hw,q⟩;obtain⟨ld,lr,ra,h,_⟩:=id hS;refine{_,(sc (bW (i:=3) dZ.nd<|bp T.ja (rC T) hr<|ac (oA (fl T.aY T.dU<|dv 0) T.ao T.aN (bU T) hr)<|ac (fl T.aY T.dW<|dv 0)<|ap 1<|ap 2 an)<|sc (sf T.aY T.lC (dv 0)<|ix hr.u (dv 3) di)<|s1<|sf T.aY T.fc (dv 0)<|ix hr.u (dv 3) di),?_};refine !{k.w,_,_,rfl,hk,rfl,k.a,_,rfl,h.ins,rfl,k.a,F,cs,dl,rs,rfl,hS,_,rfl,k.w,_,_,rfl,hk,rfl,_,rfl,_,rfl,cs,k.ps,k.wy,p,rows,b,c,s,rfl,hg,ho.pin,ho.len,hp,hw,?_};refine !!!{k.w,_,rfl,hk,(show 6<1000 by decide),?_};refine !!!{k.w,_,rfl,aa,(show 6<1000 by decide),?_};rw[ba];exact fo q
inductive j6 (t:fA) (ds:δ D) (S:ak) (R:KD) (Z:KX):η where
 |mk (q:Wk) (cs:δ<|ρ×ρ) (rows:δ Row) (h0:ds=[.ref q.w]) (h1:S q.w=some (sO t.aE q)) (h2:Qs t S q.a cs q.ps q.wy q.d .au rows) (h3:∀(A:δ Row)(p:ε),Al cs q.ps q.wy 7 q.d rows A->S p=none->R (.ref p) (S.set p<|.lst<|A.map ah))
theorem CK(T:Txt w K mg t)(B:Bm mg base):r_ P w mg base T.eC 13 (j6 t):=by refine T.eC.F.ck kx ?_;obtain⟨k,cs,rows,e,hk,hq,q⟩;refine{_,(s1<|sr<|bp T.fg (l7 T B) hr<|ac (fl T.aY T.dU<|dv 0)<|ac (fl T.aY T.dW<|dv 0)<|ac (fl T.aY T.jU<|dv 0)<|ac dn an),?_};exact !{k.w,_,_,rfl,hk,rfl,_,rfl,k.w,_,_,rfl,hk,rfl,_,rfl,k.w,_,_,rfl,hk,rfl,k.a,cs,k.ps,k.wy,k.d,.au,rows,rfl,hq.g,hq.o,hq.s,hq.v,hq.t,λA l pm pw hl=>fo<|q A l (Rq hq.v.rg hq.k pm pw) hl}
inductive oo (t:fA) (f:δ (ρ×ρ)->δ Part->ρ->δ Row->Sd->π->π×π) (ds:δ D) (S:ak) (R:KD) (Z:KX):η where
 |mk (q:Wk) (s:Sd) (cs:δ<|ρ×ρ) (rows:δ Row) (h0:ds=[.ref q.w,Ob s]) (h1:S q.w=some (sO t.aE q)) (h2:Qs t S q.a cs q.ps q.wy q.d .au rows) (h3:X0 cs q.ps s) (h4:∀(A:δ Row)(p:ε)(b e:π),Al cs q.ps q.wy 7 q.d rows A->S p=none->f cs q.ps q.wy A s q.n=(b,e)->R (CF p b<|A.length-e) ((S.set p<|.lst<|(seg A b e).map ah).set q.w<|sO t.aE {q.w,q.a,q.ps,q.wy,q.d,q.n,(CJ cs q.ps (seg A b e) s).1,(CJ cs q.ps (seg A b e) s).2}))
theorem Av(T:Txt w K mg t)(B:Bm mg base):r_ P w mg base T.gU 14 (oo t dm):=by refine T.gU.F.ck eF ?_;obtain⟨k,s,cs,rows,e,hk,hq,hs,q⟩;obtain⟨F,dl,rs,hS,_⟩:=hq.v.sh;refine{_,(sc (bW (i:=2) eF.nd<|oA (dv 0) T.aY T.eC (CK T B) hr)<|sc (bW (i:=3) eF.nd<|bp T.mS (v5 T) hr<|ap 2<|ac (so (dv 0) T.aY T.eE (JI T) hr<|ap 2<|ap 1 an)<|ac (fl T.aY T.lB<|dv 0) an)<|sc (se<|so (dv 0) T.aY T.dy (Gj T) hr<|ap 3<|ap 1 an)<|s1<|sr<|dv 3),?_};refine !{k.w,_,rfl,hk,rfl,k,cs,rows,rfl,hk,hq,λA l hA hl=>?_};have s1:=Sub.new (c:=.lst<|A.map ah) hl;have NX:(S.set l<|.lst<|A.map ah) l=some (.lst<|A.map ah):=aa;generalize S.set l (.lst<|A.map ah)=S1 at s1 NX⊢;have Vv:=s1 _ _ hk;refine !!{k.w,_,rfl,Vv,rfl,_,rfl,_,rfl,k,l,s,A,cs,F,dl,rs,rfl,Vv,hq.g,hq.o,hS.sub s1,NX,hA.an,hs,_,rfl,k.w,_,_,rfl,Vv,rfl,l,A,_,k.n,rfl,NX,wb s,λp hp=>?_};have Vk:=(Sub.new (c:=.lst<|(seg A (dm cs k.ps k.wy A s k.n).1 (dm cs k.ps k.wy A s k.n).2).map ah) hp) _ _ Vv;exact !{k.w,_,rfl,Vk,rfl,_,rfl,_,rfl,k,p,_,_,s,seg A (dm cs k.ps k.wy A s k.n).1 (dm cs k.ps k.wy A s k.n).2,cs,F,dl,rs,rfl,Vk,hq.g,hq.o,(hS.sub s1).sub<|.new hp,aa,λr hr=>hA.an.rg.1 r<|pI hr,_,rfl,_,cW<|cW s1,q A p _ _ hA (cH s1 hp) rfl}
inductive uo (t:fA) (f:δ (ρ×ρ)->δ Part->ρ->δ Row->Sd->π->π×π) (g:Wk->Sd) (ds:δ D) (S:ak) (R:KD) (Z:KX):η where
 |mk (q:Wk) (cs:δ<|ρ×ρ) (rows:δ Row) (h0:ds=[.ref q.w]) (h1:S q.w=some (sO t.aE q)) (h2:Qs t S q.a cs q.ps q.wy q.d .au rows) (h3:X0 cs q.ps<|g q) (h4:∀(A:δ Row)(p:ε)(b e:π),Al cs q.ps q.wy 7 q.d rows A->S p=none->f cs q.ps q.wy A (g q) q.n=(b,e)->R (CF p b<|A.length-e) ((S.set p<|.lst<|(seg A b e).map ah).set q.w<|sO t.aE {q.w,q.a,q.ps,q.wy,q.d,q.n,(CJ cs q.ps (seg A b e)<|g q).1,(CJ cs q.ps (seg A b e)<|g q).2}))
theorem RB(T:Txt w K mg t)(B:Bm mg base):r_ P w mg base T.vk 15 (uo t dm Wk.h):=by refine T.vk.F.ck Cc ?_;obtain⟨k,cs,rows,e,hk,hq,hs,q⟩;refine{_,(s1<|sr<|so (dv 0) T.aY T.gU (Av T B) hr<|ac (fl T.aY T.fc<|dv 0) an),?_};exact !{k.w,_,rfl,hk,rfl,_,rfl,k.w,_,_,rfl,hk,rfl,k,k.h,cs,rows,rfl,hk,hq,hs,λA p b e hA hp he=>fo<|q A p b e hA hp he}
inductive rD (t:fA) (ds:δ D) (S:ak) (R:KD) (Z:KX):η where
 |mk (q:Wk) (n:π) (h0:ds=[.ref q.w,.int (n:π)]) (h1:S q.w=some (sO t.aE q)) (h2:1<=n) (h3:n<=1000) (h4:R .au<|S.set q.w<|sO t.aE ⟨q.w,q.a,q.ps,q.wy,q.d,n,q.f,q.h⟩)
section
variable{cs:δ (ρ×ρ)}{ps:δ Part}{wy:ρ}
def Lr(cs:δ<|ρ×ρ)(ps:δ Part)(wy:ρ)(r s:Row):Prop:=cy (oM ps wy) (Ep cs ps r) (Ep cs ps s)<0
def Ro(cs:δ<|ρ×ρ)(r:Row):Prop:=Wg cs r.2/\r.1∈KS
noncomputable def bH(cs:δ<|ρ×ρ)(ps:δ Part):θ Row->Sd|none=>.s|some q=>.g<|N9 cs ps "behind" q
def RC(cs:δ<|ρ×ρ)(ps:δ Part)(wy:ρ):θ Row->Row->η|none,_=>True|some q,r=>Lr cs ps wy q r
theorem Wt(hg:Gd cs)(hp:Pin cs ps):∀{fr:θ Row},(∀q,fr=some q->Ro cs q)->X0 cs ps (bH cs ps fr)|none,_=>trivial|some q,h=>JB hg hp (h q rfl).1 (h q rfl).2<|by trivial
theorem wc(hg:Gd cs)(hp:Pin cs ps){r:Row}(h:Ro cs r):¬Lr cs ps wy r r:=λq=>by have z:=(rf (ws:=oM ps wy) Et (g_ hg hp h.1 h.2)<|g_ hg hp h.1 h.2).mpr rfl;unfold Lr at q;omega
theorem Oc(hg:Gd cs)(hp:Pin cs ps){r s t:Row}(h1:Ro cs r)(h2:Ro cs s)(h3:Ro cs t)(a:Lr cs ps wy r s)(b:Lr cs ps wy s t):Lr cs ps wy r t:=CD (g_ hg hp h1.1 h1.2) (g_ hg hp h2.1 h2.2) (g_ hg hp h3.1 h3.2) a b
theorem Wu(hg:Gd cs)(hp:Pin cs ps)(h1:Ro cs q)(h2:Ro cs r):gP cs ps wy (N9 cs ps "behind" q) r=true↔¬Lr cs ps wy q r:=by have an:=Ag (ws:=oM ps wy) (g_ hg hp h2.1 h2.2)<|g_ hg hp h1.1 h1.2;show(ω (cy (oM ps wy) (Ep cs ps r) (Ep cs ps q)<0)||(ω (cy (oM ps wy) (Ep cs ps r) (Ep cs ps q)=0)&&true))=true↔_;unfold Lr;rw[an,Bool.and_true,yS,zK,zK];omega
theorem CL(hg:Gd cs)(hp:Pin cs ps){A:δ Row}(hA:An cs ps wy A){fr:θ Row}(hf:∀q,fr=some q->Ro cs q){i:π}{r:Row}(e:A[i]?=some r):RC cs ps wy fr r↔pJ cs ps wy A (bH cs ps fr)<=i:=by cases fr with|none=>exact{λ_=>zY _,λ_=>trivial}|some q=>have hr:=zH e;have h1:=vY (hA.mono hg hp<|JB hg hp (hf q rfl).1 (hf q rfl).2<|show Ah "behind"= true by trivial) e;rw[Wu hg hp (hf q rfl) {hA.rg.1 r hr,hA.ky r hr}]at h1;show Lr cs ps wy q r↔A.countP (gP cs ps wy<|N9 cs ps "behind" q)<=i;constructor;intro h;have:=mt h1.mpr λk=>k h;omega;intro h;refine Classical.byContradiction λk=>?_;have:=h1.mp k;omega
theorem RD(hg:Gd cs)(hp:Pin cs ps)(hA:An cs ps wy A)(e:A[i]?=some r):i<pJ cs ps wy A (bH cs ps<|some r):=by have hr:=zH e;have ho:Ro cs r:={hA.rg.1 r hr,hA.ky r hr};have:=CL hg hp hA (fr:=some r) (λq h=>by cases h;exact ho) e;refine Nat.lt_of_not_le λk=>wc hg hp ho<|this.mpr k
noncomputable def dR(fr:θ Row)(rows:δ Row):θ Row:=match rows.getLast? with|none=>fr|some r=>some r
theorem RE(fr:θ Row)(rows:δ Row):(CJ cs ps rows<|bH cs ps fr).2=bH cs ps (dR fr rows):=by unfold CJ dR;rw[List.getLast?_eq_getElem?];cases rows with|nil=>rfl|cons r rows=>have h:(r::rows).length-1<(r::rows).length:=(by rw[zO];omega);rw[zf h];rfl
noncomputable def JJ(x:Row×π):ρ×Nat:=(x.1.1,x.2)
structure Tw(cs:δ (ρ×ρ))(ps:δ Part)(wy:ρ)(kn:Kn)(bf:ρ->θ π)(m:π)(tr:δ (Row×π))(fr:θ Row)(L:δ (ρ×π)):η where
 ro:∀x∈tr,Ro cs x.1
 fo:∀q,fr=some q->Ro cs q
 bel:∀x∈tr,∃q,fr=some q/\(x.1=q\/Lr cs ps wy x.1 q)
 nd:(tr.map JJ).Nodup
 le:∀x∈L,x.2<=m
 sam:∀x∈tr,∀ws,dk kn x.1.1=some ws->bf x.1.1=some x.2->ws=x.1.2
 inl:∀x∈tr,JJ x∈L
 bor:∀z ws,dk kn z=some ws->∃b,bf z=some b/\(z,b)∈L
 len:L.length<=60+m
structure Fw(cs:δ (ρ×ρ))(ps:δ Part)(wy:ρ)(d:D)(kn:Kn)(bf ff:ρ->θ π)(m:π)(tr:δ (Row×π))(fr:θ Row):η where
 le:∀z b,ff z=some b->b<=m
 due:∀z ws b,dk kn z=some ws->ff z=some b->bf z=some b->aJ cs (z,ws) 7 d=true->(z,b)∈tr.map JJ\/RC cs ps wy fr (z,ws)
noncomputable def Od(bf:ρ->θ π)(z:ρ)(m:π):ρ->θ Nat:=λk=>if k=z then some m else bf k
section
variable{d:D}{kn iF:Kn}{bf ff:ρ->θ π}{m:π}{tr:δ (Row×π)}{fr:θ Row}{L:δ (ρ×π)}
theorem Tw.cnt(h:Tw cs ps wy kn bf m tr fr L):tr.length<=60+m:=by
 have:=sub_len h.nd (m:=L) λx hx=>by obtain⟨y,hy,rfl⟩:=zg.mp hx;exact h.inl y hy
 rw[za]at this;exact zG this h.len
theorem Tw.xT(h:Tw cs ps wy kn bf m tr fr L)(hk:∀k,k≠z->dk iF k=dk kn k):Tw cs ps wy iF (Od bf z<|m+1) (m+1) tr fr (L++[(z,m+1)]):=by refine{h.ro,h.fo,h.bel,h.nd,λx hx=>?_,λx hx ws e1 e2=>?_,λx hx=>zV _<|h.inl x hx,λk ws e=>?_,by rw[zA];have:=h.len;show _+1<=_;omega};rcases zN.mp hx with q|q;have:=h.le x q;omega;rw[zI.mp q];exact zm _;unfold Od at e2;by_cases q:x.1.1=z;rw[xL q]at e2;have:=h.le _<|h.inl x hx;have e3:=zS e2;have:x.2<=m:=this;omega;rw[xz q]at e2;rw[hk _ q]at e1;exact h.sam x hx ws e1 e2;unfold Od;by_cases q:k=z;exact{m+1,xL q,by rw[q];simp};rw[hk _ q]at e;obtain⟨b,b1,b2⟩:=h.bor k ws e;exact{b,by rw[xz q];exact b1,zV _ b2}
theorem Fw.xT(h:Fw cs ps wy d kn bf ff m tr fr)(hk:∀k,k≠z->dk iF k=dk kn k):Fw cs ps wy d iF (Od bf z<|m+1) ff (m+1) tr fr:=by refine{λk b e=>by have:=h.le k b e;omega,λk ws b e1 e2 e3 e4=>?_};unfold Od at e3;by_cases q:k=z;rw[xL q]at e3;have e5:=zS e3;have:=h.le k b e2;omega;rw[xz q]at e3;rw[hk _ q]at e1;exact h.due k ws b e1 e2 e3 e4
noncomputable def kN(bf:ρ->θ π)(z:ρ):Nat:=(bf z).getD 0
noncomputable def Oe(bf:ρ->θ π)(rows:δ Row):δ (Row×π):=rows.map λr=>(r,kN bf r.1)
theorem we(iE:ss.Perm (kn.map (·.1))):(z,ws)∈aL kn ss↔dk kn z=some ws:=by unfold aL;rw[zg];constructor;rintro⟨y,hy,e⟩;obtain⟨vs,hv⟩:=jk<|iE.mem_iff.mp hy;rw[hv]at e;cases e;exact hv;intro h;exact{z,iE.mem_iff.mpr<|zg.mpr {_,fS h,rfl},by rw[h];rfl}
variable{ss:δ ρ}{A:δ Row}{n:π}
theorem CM(iE:ss.Perm (kn.map (·.1)))(hA:Al cs ps wy 7 d (aL kn ss) A){r:Row} : r∈A↔dk kn r.1=some r.2/\aJ cs r 7 d=true:=by rw[hA.pm.mem_iff,yp];obtain⟨z,ws⟩:=r;rw[we iE]
theorem RF{fr:θ Row}{rows:δ Row}{q:Row}(h:dR fr rows=some q):(rows=[]/\fr=some q)\/(rows[rows.length-1]?=some q/\q∈rows):=by unfold dR at h;cases e:rows.getLast? with|none=>rw[e]at h;exact .inl {List.getLast?_eq_none_iff.mp e,h}|some r=>rw[e]at h;cases h;exact .inr {by rw[<-List.getLast?_eq_getElem?];exact e,List.mem_of_getLast? e}
theorem JK(h:r∈seg A b e):∃i,b<=i/\i<e/\A[i]?=some r:=by obtain⟨j,hj⟩:=yh h;have hl:=(ze.mp hj).1;unfold seg at hl;rw[yn]at hl;rw[pH<|by omega]at hj;exact{b+j,by omega,by omega,hj}
theorem RG{A:δ Row}{b e i:π}{r:Row}(h1:b<=i)(h2:i<e)(h:A[i]?=some r):r∈seg A b e:=by
 have:(seg A b e)[i-b]?=some r:=by rw[pH<|by omega,show b+(i-b)=i by omega];exact h
 exact zH this
section
variable(hg:Gd cs)(hp:Pin cs ps)(iE:ss.Perm (kn.map (·.1)))(hA:Al cs ps wy 7 d (aL kn ss) A)(hn:1<=n)(h:Tw cs ps wy kn bf m tr fr L)
include hg hp iE hA h
theorem Ey{r:Row}(hr:r∈seg A (dm cs ps wy A (bH cs ps fr) n).1 (dm cs ps wy A (bH cs ps fr) n).2):RC cs ps wy fr r:=by obtain⟨i,h1,_,e⟩:=JK hr;exact(CL hg hp hA.an h.fo e).mpr h1
theorem JL{i j:π}{r s:Row}(iw:i<j)(e1:A[i]?=some r)(e2:A[j]?=some s):Lr cs ps wy r s:=by have:=List.pairwise_iff_getElem.mp (hA.an.lex hg hp) i j (ze.mp e1).1 (ze.mp e2).1 iw;rw[(ze.mp e1).2,(ze.mp e2).2]at this;exact this
theorem Tw.MF:Tw cs ps wy kn bf m (tr++Oe bf (seg A (dm cs ps wy A (bH cs ps fr) n).1 (dm cs ps wy A (bH cs ps fr) n).2)) (dR fr<|seg A (dm cs ps wy A (bH cs ps fr) n).1 (dm cs ps wy A (bH cs ps fr) n).2) L:=by
 have hb:∀r∈seg A (dm cs ps wy A (bH cs ps fr) n).1 (dm cs ps wy A (bH cs ps fr) n).2,RC cs ps wy fr r:=λr hr=>Ey hg hp iE hA h hr;have hm:∀r∈seg A (dm cs ps wy A (bH cs ps fr) n).1 (dm cs ps wy A (bH cs ps fr) n).2,r∈A:=λr hr=>pI hr;have XO:((seg A (dm cs ps wy A (bH cs ps fr) n).1 (dm cs ps wy A (bH cs ps fr) n).2).map Prod.fst).Nodup:=(((List.take_sublist _ _).trans<|List.drop_sublist _ _).map _).nodup hA.an.rg.2;have Of:∀r∈seg A (dm cs ps wy A (bH cs ps fr) n).1 (dm cs ps wy A (bH cs ps fr) n).2,∀q,(seg A (dm cs ps wy A (bH cs ps fr) n).1 (dm cs ps wy A (bH cs ps fr) n).2)[(seg A (dm cs ps wy A (bH cs ps fr) n).1 (dm cs ps wy A (bH cs ps fr) n).2).length-1]?=some q->r=q\/Lr cs ps wy r q:=λr hr q hq=>by obtain⟨i,hi⟩:=yh hr;have l1:=(ze.mp hi).1;have l2:=(ze.mp hq).1;by_cases e:i=(seg A (dm cs ps wy A (bH cs ps fr) n).1 (dm cs ps wy A (bH cs ps fr) n).2).length-1;subst e;rw[hi]at hq;exact .inl<|zS hq;have l3:(seg A (dm cs ps wy A (bH cs ps fr) n).1 (dm cs ps wy A (bH cs ps fr) n).2).length<=(dm cs ps wy A (bH cs ps fr) n).2-(dm cs ps wy A (bH cs ps fr) n).1:=(by unfold seg;exact List.length_take_le _ _);rw[pH<|by omega]at hi hq;exact .inr<|JL hg hp iE hA h (by omega) hi hq
 generalize seg A (dm cs ps wy A (bH cs ps fr) n).1 (dm cs ps wy A (bH cs ps fr) n).2=B at hb hm XO Of⊢;have ro:∀r∈B,Ro cs r:=λr hr=>{hA.an.rg.1 r<|hm r hr,hA.an.ky r<|hm r hr};have lu:∀r∈B,dk kn r.1=some r.2:=λr hr=>((CM iE hA).mp<|hm r hr).1;have Wv:∀x∈Oe bf B,∃r∈B,x=(r,kN bf r.1):=λx hx=>by obtain⟨r,hr,rfl⟩:=zg.mp hx;exact⟨r,hr,rfl⟩
 have bb:∀r∈B,bf r.1=some (kN bf r.1)/\(r.1,kN bf r.1)∈L:=λr hr=>by obtain⟨b,b1,b2⟩:=h.bor _ _<|lu r hr;unfold kN;rw[b1];exact⟨rfl,b2⟩
 have fo':∀q,dR fr B=some q->Ro cs q:=λq hq=>by rcases RF hq with⟨_,e⟩|⟨_,e⟩;exact h.fo q e;exact ro q e
 refine{λx hx=>?_,fo',λx hx=>?_,?_,h.le,λx hx ws e1 e2=>?_,λx hx=>?_,h.bor,h.len};rcases zN.mp hx with q|q;exact h.ro x q;obtain⟨r,hr,rfl⟩:=Wv x q;exact ro r hr;rcases zN.mp hx with q|q;obtain⟨q0,e0,l0⟩:=h.bel x q;cases e:B.getLast? with|none=>exact{q0,by unfold dR;rw[e];exact e0,l0}|some r=>have hr:=List.mem_of_getLast? e;refine{r,by unfold dR;rw[e],.inr ?_};have b:=hb r hr;rw[e0]at b;rcases l0 with rfl|l0;exact b;exact Oc hg hp (h.ro x q) (h.fo q0 e0) (ro r hr) l0 b
 obtain⟨r,hr,rfl⟩:=Wv x q;cases e:B.getLast? with|none=>(rw[List.getLast?_eq_none_iff.mp e]at hr;cases hr)|some r'=>exact{r',by unfold dR;rw[e],Of r hr r'<|by rw[<-List.getLast?_eq_getElem?];exact e}
 rw[zL,List.nodup_append];refine{h.nd,?_,λx hx y hy e=>?_};unfold Oe;rw[zq];have:(B.map<|JJ ∘ λr=>(r,kN bf r.1)).map Prod.fst=B.map Prod.fst:=by rw[zq];rfl
 exact List.Pairwise.of_map (S:=λa b=>a≠b) Prod.fst (λa b k e=>k<|by rw[e]) (by rw[this];exact XO);obtain⟨x',uw,rfl⟩:=zg.mp hx;obtain⟨y',Pm,rfl⟩:=zg.mp hy;obtain⟨r,hr,rfl⟩:=Wv y' Pm;have e:(x'.1.1,x'.2)=(r.1,kN bf r.1):=e;have e1:x'.1.1=r.1:=(Prod.mk.inj e).1;have e2:x'.2=kN bf r.1:=(Prod.mk.inj e).2;have e3:=h.sam x' uw r.2 (by rw[e1];exact lu r hr) (by rw[e1,e2];exact(bb r hr).1);have e4:x'.1=r:=Prod.ext e1 e3.symm;obtain⟨q0,e0,l0⟩:=h.bel x' uw;have b:=hb r hr;rw[e0]at b;have b:Lr cs ps wy q0 r:=b;rw[e4]at l0;rcases l0 with rfl|l0;exact wc hg hp (ro _ hr) b;exact wc hg hp (ro r hr)<|Oc hg hp (ro r hr) (h.fo q0 e0) (ro r hr) l0 b;rcases zN.mp hx with q|q;exact h.sam x q ws e1 e2;obtain⟨r,hr,rfl⟩:=Wv x q;rw[lu r hr]at e1;exact(zS e1).symm;rcases zN.mp hx with q|q;exact h.inl x q;obtain⟨r,hr,rfl⟩:=Wv x q;exact(bb r hr).2
include hn
theorem Fw.MF(hf:Fw cs ps wy d kn bf ff m tr fr):Fw cs ps wy d kn bf ff m (tr++Oe bf (seg A (dm cs ps wy A (bH cs ps fr) n).1 (dm cs ps wy A (bH cs ps fr) n).2)) (dR fr<|seg A (dm cs ps wy A (bH cs ps fr) n).1 (dm cs ps wy A (bH cs ps fr) n).2)/\(seg A (dm cs ps wy A (bH cs ps fr) n).1 (dm cs ps wy A (bH cs ps fr) n).2=[]->∀z ws b,dk kn z=some ws->ff z=some b->bf z=some b->aJ cs (z,ws) 7 d=true->(z,b)∈tr.map JJ):=by
 have hle:=wb (cs:=cs) (ps:=ps) (wy:=wy) (A:=A)<|bH cs ps fr;have key:∀z ws b,dk kn z=some ws->ff z=some b->bf z=some b->aJ cs (z,ws) 7 d=true->(z,b)∈tr.map JJ\/∃i,(dm cs ps wy A (bH cs ps fr) n).1<=i/\A[i]?=some (z,ws):=λz ws b e1 e2 e3 e4=>by rcases hf.due z ws b e1 e2 e3 e4 with q|q;exact .inl q;obtain⟨i,hi⟩:=yh<|(CM iE hA (r:=(z,ws))).mpr ⟨e1,e4⟩;exact .inr {i,(CL hg hp hA.an h.fo hi).mp q,hi}
 refine{{hf.le,λz ws b e1 e2 e3 e4=>?_},λz0 z ws b e1 e2 e3 e4=>?_};rw[zL];rcases key z ws b e1 e2 e3 e4 with q|⟨i,h1,hi⟩;exact .inl<|zV _ q;by_cases hie:i<(dm cs ps wy A (bH cs ps fr) n).2;refine .inl<|zC _<|zg.mpr {((z,ws),kN bf z),zg.mpr {(z,ws),RG h1 hie hi,rfl},?_};show(z,kN bf z)=(z,b);unfold kN;rw[e3];rfl;right;have hl:=(ze.mp hi).1;have he:(dm cs ps wy A (bH cs ps fr) n).2<=A.length:=by show min _ _<=_;omega
 have GJ:(dm cs ps wy A (bH cs ps fr) n).1<(dm cs ps wy A (bH cs ps fr) n).2:=by have:i<A.length:=hl;show pJ cs ps wy A (bH cs ps fr)<min (pJ cs ps wy A (bH cs ps fr)+n) A.length;have h1:pJ cs ps wy A (bH cs ps fr)<=i:=h1;omega
 have sl:=pG (A:=A) (yO GJ) he;generalize (dm cs ps wy A (bH cs ps fr) n).1=b0 at *;generalize (dm cs ps wy A (bH cs ps fr) n).2=e0 at *;have ll:A[e0-1]?=some (A[e0-1]'(by omega)):=zf (by omega);generalize A[e0-1]'(by omega)=q at ll;have:dR fr (seg A b0 e0)=some q:=by unfold dR;rw[List.getLast?_eq_getElem?,sl,pH<|by omega,show b0+(e0-b0-1)=e0-1 by omega,ll]
 rw[this];exact JL hg hp iE hA h (by omega) ll hi;rcases key z ws b e1 e2 e3 e4 with q|⟨i,h1,hi⟩;exact q;exfalso;have hl:=(ze.mp hi).1;have:(z,ws)∈seg A (dm cs ps wy A (bH cs ps fr) n).1 (dm cs ps wy A (bH cs ps fr) n).2\/True:=.inr trivial;have h1:pJ cs ps wy A (bH cs ps fr)<=i:=h1;have l2:(seg A (dm cs ps wy A (bH cs ps fr) n).1 (dm cs ps wy A (bH cs ps fr) n).2).length=(dm cs ps wy A (bH cs ps fr) n).2-(dm cs ps wy A (bH cs ps fr) n).1:=pG (by show pJ cs ps wy A (bH cs ps fr)<=min (pJ cs ps wy A (bH cs ps fr)+n) A.length;omega) (by show min (pJ cs ps wy A (bH cs ps fr)+n) A.length<=_;omega);rw[z0]at l2;have l2:0=min (pJ cs ps wy A (bH cs ps fr)+n) A.length-pJ cs ps wy A (bH cs ps fr):=l2;omega
omit hn
theorem JM(hr:A.length-pJ cs ps wy A (bH cs ps fr)<=r)(jx:seg A (dm cs ps wy A (bH cs ps fr) n).1 (dm cs ps wy A (bH cs ps fr) n).2≠[]):1<=r/\A.length-pJ cs ps wy A (bH cs ps<|dR fr<|seg A (dm cs ps wy A (bH cs ps fr) n).1 (dm cs ps wy A (bH cs ps fr) n).2)<=r-1:=by have hle:=wb (cs:=cs) (ps:=ps) (wy:=wy) (A:=A)<|bH cs ps fr;cases e:(seg A (dm cs ps wy A (bH cs ps fr) n).1 (dm cs ps wy A (bH cs ps fr) n).2).getLast? with|none=>exact absurd (List.getLast?_eq_none_iff.mp e) jx|some q=>obtain⟨i,h1,h2,hi⟩:=JK<|List.mem_of_getLast? e;have h1:pJ cs ps wy A (bH cs ps fr)<=i:=h1;have hl:=(ze.mp hi).1;have:=RD hg hp hA.an hi;unfold dR;rw[e];show 1<=r/\A.length-pJ cs ps wy A (bH cs ps<|some q)<=r-1;omega
end
end
end
theorem rw_eqv(hr:∀x∈r.2,bx x=true)(hs:∀x∈s.2,bx x=true):PyData.eqv (J4 r) (J4 s)=(ω (r.1=s.1)&&CI r.2 s.2):=by have h:=Ex hr hs;simp only[J4,PyData.eqv,PyData.eqvAll,h,Bool.and_true];congr 1
noncomputable def Ez(r:Row):D->χ|.tup [.str k,.tup ws]=>ω (k=r.1)&&CI ws r.2|_=>false
noncomputable def Ww(A:δ Row)(r:Row):Bool:=(A.map ah).any<|Ez r
theorem MG{cs:δ<|ρ×ρ}{A:δ Row}{r:Row}(hA:∀x∈A,Wg cs x.2)(hr:Wg cs r.2):Ww A r=true↔r∈A:=by unfold Ww;rw[List.any_map,yx];constructor;rintro⟨x,hx,e⟩;have e:(ω (x.1=r.1)&&CI x.2 r.2)=true:=e;rw[zJ,zK,v_ (hA x hx).all hr.all]at e;rw[<-Prod.ext e.1 e.2];exact hx;intro h;refine{r,h,?_};show(ω (r.1=r.1)&&CI r.2 r.2)=true;rw[zu rfl,(v_ hr.all hr.all).mpr rfl];rfl
theorem JN(h:∀x∈r.2,bx x=true):Dl S (ah r) (J4 r):=by obtain⟨a,_,_⟩:=v9 (S:=S) h;simp only[ah,J4,Dl,Dp,DpAll];exact !{_,_,rfl,rfl,_,_,rfl,!⟨a⟩,rfl}
theorem Gk{cs:δ<|ρ×ρ}{S:ak}{r:Row}{A:δ Row}(hr:Wg cs r.2)(hk:r.1∈KS)(hA:∀x∈A,Wg cs x.2)(hK:N7 A):Each S (ah r) (A.map ah) (Ez r):=by obtain⟨l1,l2⟩:=Eu hr hk;refine{J4 r,JN hr.all,l1,λd hd=>?_};obtain⟨x,hx,rfl⟩:=zg.mp hd;obtain⟨m1,m2⟩:=Eu (hA x hx)<|hK x hx;exact{J4 x,JN (hA x hx).all,m1,.inl<|by lia,rw_eqv (hA x hx).all hr.all}
noncomputable def me(cs:δ<|ρ×ρ)(ps:δ Part):θ Row->D|none=>.au|some q=>Es (ps.map λp=>aj cs q.2 p.1) q.1
structure Pg(cs:δ (ρ×ρ))(ps:δ Part)(wy:ρ)(d:D)(kn:Kn)(A:δ Row)(b e n:π)(fr:θ Row):η where
 ss:∃ss:δ ρ,ss.Perm (kn.map (·.1))/\Al cs ps wy 7 d (aL kn ss) A
 be:b<=e
 el:e<=A.length
 n1:e-b<=n
 n2:e-b<n->e=A.length
 fo:∀q,fr=some q->Ro cs q
 by_:∀r∈seg A b e,RC cs ps wy fr r
inductive jo (ds:δ D) (S:ak) (R:KD) (Z:KX):η where
 |mk (cs:δ<|ρ×ρ) (ps:δ Part) (wy:ρ) (d:D) (lk:ε) (kn:Kn) (p:ε) (A:δ Row) (b e n:π) (fr:θ Row) (h0:ds=[.tup<|cs.map az,c9 ps wy,d,.ref lk,CF p b<|A.length-e,.int (n:π),me cs ps fr]) (h1:Gd cs) (h2:Og cs ps wy) (h3:Sq cs d) (h4:S lk=some (.bG<|dD kn)) (h5:KI cs kn) (h6:Pg cs ps wy d kn A b e n fr) (h7:S p=some (.lst<|(seg A b e).map ah)) (h8:R (.bl true) S)
inductive Prw (S:ak) (cs:δ<|ρ×ρ) (ps:δ Part) (wy:ρ) (d:D) (lk p lb:ε) (A B:δ Row) (b e n:π) (fr:θ Row) (i:π) (ax:SD) (S':ak):η where
 |mk (o11 o12:θ D) (h0:ax=[some<|.tup<|cs.map az,some<|c9 ps wy,some d,some<|.ref lk,some<|CF p b<|A.length-e,some<|.int (n:π),some<|me cs ps<|dR fr<|B.take i,some<|.ref p,some<|.int (b:π),some<|.int ((A.length-e:π):ν),o11,some<|.ref lb,o12]) (h1:S'=S):Prw S cs ps wy d lk p lb A B b e n fr i ax S'
theorem Aw{fr:θ Row}{B:δ Row}{i:π}{r:Row}(h:B[i]?=some r):dR fr (B.take<|i+1)=some r:=by unfold dR;rw[take_snoc h,List.getLast?_concat]
theorem sP(T:Txt w K mg t):Ok P w base T.gT 11 jo:=by
 refine T.gT.F.ck aW ?_;rintro _ _ _ _ _ _ _ S R Z hr ⟨cs,ps,wy,d,lk,kn,p,A,b,e,n,fr,e0,hg,ho,Oh,hk,hI,⟨⟨ss,iE,hA⟩,GJ,L5,HR,G0,hfo,hby⟩,hp,q⟩;subst e0;have Wx:(seg A b e).length=e-b:=pG GJ L5;refine{_,(sc (sa (dv 4)<|gt (n:=3)<|gc (gn (i:=7) aW.nd)<|gc (gn (i:=8) aW.nd)<|gc (gn (i:=9) aW.nd) g0)<|sc (qr (N:=["_law_row","_law_columns_here","_law_sieve_here"]) (src:=[none,some 0,some 2]) 11 aW.nd (js qx) (il<|bp T.qG (rA T) hr<|ap 3 an) (if1<|tv<|bp T.fj (hG T 7) hr<|ap 1<|ap 2<|ap 0 an)<|dv 0)<|sc (si (twd<|twor (aX iQ hr.u (cb aZ T.aT aH<|ap 11 an)<|bo aV hr.u (bo aV hr.u (dv 8)<|cb aZ T.aT aH<|ap 7 an)<|dv 9)<|twor (twd<|twand (aX mC hr.u (cb aZ T.aT aH<|ap 7 an)<|dv 5)<|tw1<|aX iQ hr.u (dv 9) di)<|tw1<|aX mD hr.u (cb aZ T.aT aH<|ap 7 an)<|dv 5) (s1<|sr db) s0)<|sc (nL<|HJ (il<|dv 7) (gn (i:=10) aW.nd)<|sc (bW (i:=12) aW.nd<|bp T.pB (Ap T) hr<|ap 0<|ap 1<|ap 10 an)<|sc (si (twd<|twor (aX Ih hr.u (dv 10)<|dv 11)<|tw1<|twd<|twand (aX mE hr.u (dv 6) dn)<|tw1<|cY<|tv<|bp T.B6 (MC T) hr<|ap 1<|ap 6<|ap 12 an) (s1<|sr db) s0)<|s1<|bW (i:=6) aW.nd<|dv 12)<|s1<|sr db),?_};refine !!{rfl,_,_,rfl,_,_,rfl,_,_,rfl,rfl,?_};refine !{cs,lk,kn,rfl,hk,hI,λjQ p1 Se _ nh=>{_,aa,?_}};have hrg:=Af hI Se;have hky:N7 (aL kn jQ):=λr eP=>by obtain⟨z,ws⟩:=r;exact(hI.ok _<|fS<|(we Se).mp eP).1
 have Q2:A.Perm ((aL kn jQ).filter λr=>aJ cs r 7 d):=hA.pm.trans<|((iE.trans Se.symm).map _).filter _;have h60:=eV hI Se;refine df (n_ cs d) id aa (by show((aL kn jQ).map ah).length<=_;rw[za];lia) (λx hx Q Q' hQ AQ=>?_) λlb MH=>?_;obtain⟨r,eP,rfl⟩:=zg.mp hx;exact !!!{cs,d,r,rfl,hg,Oh.1,hrg.1 r eP,_,rfl,bQ (λh=>!⟨hQ h⟩) λh=>AQ h};have eB:((({(aL kn jQ).map ah,λS=>o9 S (.ref p1)<|(aL kn jQ).map ah}:ke).xs.filter<|n_ cs d).map id)=((aL kn jQ).filter λr=>aJ cs r 7 d).map ah:=by show((((aL kn jQ).map ah).filter<|n_ cs d).map id)=_;rw[List.map_id,List.filter_map];rfl
 rw[eB];have sb:=(Sub.new (c:=.lst<|(aL kn jQ).map ah) nh).trans<|Sub.new (c:=.lst<|((aL kn jQ).filter λr=>aJ cs r 7 d).map ah) MH;have MI:((S.set p1<|.lst<|(aL kn jQ).map ah).set lb<|.lst<|((aL kn jQ).filter λr=>aJ cs r 7 d).map ah) lb=some (.lst<|((aL kn jQ).filter λr=>aJ cs r 7 d).map ah):=aa;generalize (S.set p1<|.lst<|(aL kn jQ).map ah).set lb (.lst<|((aL kn jQ).filter λr=>aJ cs r 7 d).map ah)=S1 at sb MI⊢;have hBg:Rg cs ((aL kn jQ).filter λr=>aJ cs r 7 d):=hrg.sub yJ;have hBk:N7 ((aL kn jQ).filter λr=>aJ cs r 7 d):=λr eP=>hky r (yp.mp eP).1;generalize ((aL kn jQ).filter λr=>aJ cs r 7 d)=Bs at Q2 MI hBg hBk;have SV:=sb _ _ hp;have hlen:=Q2.length_eq;refine !!⟨.inl {_,MI,_,rfl,_,rfl,_,rfl,.inl {_,SV,_,rfl,_,rfl,?_}}⟩;rw[za,za,Wx,<-hlen];refine bZ ?_ (by rw[xL rfl,Bool.not_eq_false',zK];lia);refine !!⟨.inl {_,SV,_,rfl,_,rfl,?_}⟩;rw[za,Wx];refine vX (!decide (((A.length-e:π):ν)=0)) (λh=>!!⟨h⟩)<|bZ ?_ (by simp only[Bool.and_eq_false_iff,yw,Bool.not_eq_false',zK];lia);refine !!⟨.inl {_,SV,_,rfl,_,rfl,?_}⟩;rw[za,Wx];refine bZ ?_<|zy (by lia);have N1:(seg A b e).Pairwise (Lr cs ps wy):=(hA.an.lex hg ho.pin).sublist<|(List.take_sublist _ _).trans<|List.drop_sublist _ _;have Hr:∀r∈seg A b e,r∈A:=λr eP=>pI eP;have aba:A.length<=60:=by rw[hA.pm.length_eq];exact zG (yt _ _)<|eV hI iE
 have abb:(seg A b e).length<=60:=by rw[Wx];lia
 generalize seg A b e=B at SV hby N1 Hr abb;refine{λax S'=>S'=S1,?_,?_};refine !{_,SV,?_};refine{Prw S1 cs ps wy d lk p lb A B b e n fr,{_,_,rfl,rfl},?_,?_,?_};rintro i ax S' ⟨_,_,_,rfl⟩;exact SV;rintro i x ax S' hx ⟨o11,o12,rfl,rfl⟩;have hx:(B.map ah)[i]?=some x:=hx;rw[zp]at hx;obtain⟨r,er,rfl⟩:=Option.map_eq_some_iff.mp hx;have hrB:=zH er;have hrA:=Hr r hrB;have Q9:=hA.an.rg.1 r hrA;have So:=hA.an.ky r hrA;refine !!!{cs,ps,wy,r,rfl,hg,ho.pin,ho.len,Q9,?_};refine !!{lb,Bs.map ah,Ez r,rfl,MI,Gk Q9 So hBg.1 hBk,?_};rw[xL rfl,show(Bs.map ah).any (Ez r)=true from(MG hBg.1 Q9).mpr (Q2.mem_iff.mp hrA)];refine{_,rfl,bt ?_};have bey:RC cs ps wy (dR fr<|B.take i) r/\∀q,dR fr (B.take i)=some q->Ro cs q:=by cases i with|zero=>exact{hby r hrB,hfo}|succ j=>have hj:j<B.length:=(by have:=(ze.mp er).1;lia);have ej:=zf hj;generalize B[j]=q at ej;rw[Aw ej];refine{?_,λq' e=>by cases e;exact{hA.an.rg.1 q<|Hr q<|zH ej,hA.an.ky q<|Hr q<|zH ej}};have:=List.pairwise_iff_getElem.mp N1 j (j+1) hj (ze.mp er).1 (by lia);rw[(ze.mp er).2,(ze.mp ej).2]at this;exact this
 have nxt:me cs ps (some r)=me cs ps (dR fr<|B.take<|i+1):=by rw[Aw er]
 generalize dR fr (B.take i)=fi at bey;cases fi with|none=>refine !!⟨bt !⟨?_⟩⟩;exact{_,_,by rw[<-nxt];rfl,rfl}|some q0=>obtain⟨b1,b2⟩:=bey;obtain⟨w0,k0⟩:=b2 q0 rfl;have b1:cy (oM ps wy) ((ps.map λp=>aj cs q0.2 p.1)++[.str q0.1]) ((ps.map λp=>aj cs r.2 p.1)++[.str r.1])<0:=b1;refine !!⟨dX !!!{ps,wy,_,q0.1,_,r.1,ps.map λp=>N6 cs p.1,rfl,by rw[za],by rw[za],ho.len,rh hg ho.pin w0,rh hg ho.pin Q9,k0,So,?_}⟩;rw[zu b1];refine{_,rfl,bt !⟨?_⟩};exact{_,_,by rw[<-nxt];rfl,rfl}
 rintro ax S' ⟨_,_,_,rfl⟩;exact fo rfl;rintro ax S' rfl;exact{_,sb,q}
structure Bd(kb:δ (Key×D))(bf:ρ->θ π)(n:π):η where
 at_:∀z,bL kb (.inr z)=(bf z).map λn=>D.int (n:π)
 le:kb.length<=n
theorem Ax(kb:δ<|Key×D)(k:Key)(v:D):(dput kb k v).length<=kb.length+1:=by unfold dput;split;rw[za];lia;rw[zA];exact zm _
theorem Bd.put(h:Bd kb bf n)(z:ρ)(m:π):Bd (dput kb (.inr z)<|.int (m:π)) (Od bf z m) (n+1):=by refine{λk=>?_,zG (Ax _ _ _)<|by have:=h.le;lia};rw[qk];unfold Od;by_cases e:k=z;rw[xL<|by rw[e],xL e];rfl;rw[xz λq=>e<|yN q,xz e];exact h.at_ k
theorem JO(l:δ<|ρ×D):(eX l).length<=l.length:=by
 unfold eX;have:∀(l:δ (ρ×D))(c:δ (Key×D)),(l.foldl (λc p=>dput c (.inr p.1) p.2) c).length<=c.length+l.length:=by intro l;induction l with|nil=>intro c;exact zm _|cons p l ih=>intro c;have:=ih<|dput c (.inr p.1) p.2;have:=Ax c (.inr p.1) p.2;rw[List.foldl_cons,zO];lia
 have:=this l [];simpa using this
noncomputable def RH(kn:Kn)(f:ρ->π):ρ->θ Nat:=λz=>if (dk kn z).isSome=true then some (f z) else none
theorem MJ(kn:Kn)(f:ρ->D)(z:ρ):((kn.map λr=>(r.1,f r.1)).any λp=>ω<|p.1=z)=(dk kn z).isSome:=by induction kn with|nil=>rfl|cons r kn ih=>rw[zw,yP,ih,bD];by_cases h:r.1=z;rw[xL h,zu h,Bool.true_or];rfl;rw[xz h,zy h,y1]
theorem Bd.of(kn:Kn)(f:ρ->π)(h:kn.length<=60):Bd (eX<|kn.map λr=>(r.1,D.int (f r.1:π))) (RH kn f) 60:=by refine{λz=>?_,zG (JO _)<|by rw[za];exact h};have h1:=tM (kn.map λr=>(r.1,D.int (f r.1:π))) z;rw[MJ kn λz=>D.int (f z:π)]at h1;unfold RH;cases e:bL (eX<|kn.map λr=>(r.1,D.int (f r.1:π))) (.inr z) with|none=>rw[e]at h1;rw[xz<|by rw[<-h1];exact zd];rfl|some d=>rw[e]at h1;have h1:(dk kn z).isSome=true:=h1.symm;rw[xL h1];obtain⟨p,hp,e1,e2⟩:=lV _ _ e;obtain⟨r,_,rfl⟩:=zg.mp hp;have e1:r.1=z:=e1;subst e1;rw[e2];rfl
theorem mf(kn:Kn):((dD kn).map (·.1)).map DZ=kn.map λr=>D.str r.1:=by unfold dD;rw[zq,zq];rfl
theorem Ay{S:ak}{a p q:ε}{c r x y:Ce}(h:S a=some c)(hp:(S.set a r) p=none)(hq:((S.set a r).set p x) q=none):(((S.set a r).set p x).set q y).set a c=(S.set p x).set q y/\S p=none/\(S.set p x) q=none/\p≠a/\q≠a:=by
 have np:p≠a:=λe=>by rw[e,aa]at hp;cases hp
 have LV:S p=none:=by rw[ae np]at hp;exact hp
 have nq:q≠a:=λe=>by rw[e,ae<|Ne.symm np,aa]at hq;cases hq
 have nqp:q≠p:=λe=>by rw[e,aa]at hq;cases hq
 have AK:(S.set p x) q=none:=by rw[ae nqp,ae nq]at hq;rw[ae nqp];exact hq
 refine{?_,LV,AK,np,nq};funext b;by_cases e1:b=a;subst e1;rw[aa,ae<|Ne.symm nq,ae<|Ne.symm np,h];rw[ae e1];by_cases e2:b=q;subst e2;rw[aa,aa];rw[ae e2,ae e2];by_cases e3:b=p;subst e3;rw[aa,aa];rw[ae e3,ae e3,ae e1]
theorem uq:∀{l:δ α}{i:π}{p:α},l.Nodup->p∉l->(l.set i p).Nodup|[],_,_,_,_=>List.nodup_nil|a::l,0,p,h,k=>yf.mpr {λq=>k<|zh _ q,(yf.mp h).2}|a::l,i+1,p,h,k=>by obtain⟨h1,h2⟩:=yf.mp h;refine yf.mpr {λq=>?_,uq h2 λq=>k<|zh _ q};rcases List.mem_or_eq_of_mem_set q with q|q;exact h1 q;exact k<|by rw[<-q];exact zj
theorem St.rep(h:St t S0 a fs F cs dl rs S)(i:π)(hp:S p=none)(c:Ce):St t S0 a (fs.set i (p,c)) F cs dl rs (S.set p c):=by
 have h1:=h.new hp c;have sub:∀x∈fs.set i (p,c),x∈fs++[(p,c)]:=λx hx=>by rcases List.mem_or_eq_of_mem_set hx with q|q;exact zV _ q;rw[q];simp
 refine h1.less ?_ sub;rw[List.map_set];refine uq h.nd λq=>?_;obtain⟨x,hx,e⟩:=zg.mp q;have:=(h.fa x hx).1;rw[show x.1=p from e,hp]at this;cases this
theorem V8.key(h:V8 kn de iF):∃z,(∀k,k≠z->dk iF k=dk kn k)/\∃n r,de=.tup (n::.str z::r):=by rcases h with⟨n,z,ws,_,rfl,rfl⟩|⟨z,_,rfl,rfl⟩;exact{z,λk hk=>by rw[Ed,xz hk],_,_,rfl};exact{z,λk hk=>by rw[Ee,xz hk],_,_,rfl}
theorem CO(l:δ ρ):∃ss:δ ρ,ss.Perm l/\PyProof.Rows.sortedS ss=true:=by refine{l.mergeSort λa b=>ω<|a.cps.toList<=b.cps.toList,List.mergeSort_perm _ _,PyProof.Rows.sortedS_of_pairwise _ ?_};refine(List.pairwise_mergeSort (λa b c h1 h2=>?_) (λa b=>?_) l).imp λ{a b} h=>?_;exact zu<|List.le_trans (zE h1)<|zE h2;rw[yS,zK,zK];exact List.le_total _ _;rw[PyProof.Rows.ltCps_eq];exact zy<|List.not_lt.mpr<|zE h
theorem Sg.up:∀{n:π}{d:D},Sg cs n d->Sg cs (n+1) d|0,_,h=>h.elim|n+1,d,h=>by rcases h with h|⟨e,h1,h2⟩|⟨o,ds,h1,h2,h3,h4⟩;exact .inl h;exact .inr<|.inl ⟨e,h1,h2.up⟩;exact .inr<|.inr {o,ds,h1,h2,h3,λe he=>(h4 e he).up}
theorem Oi:∀{n:π}{d:D},Sg cs n d->n5 (n+1) d=n5 n d|0,_,h=>h.elim|n+1,d,h=>by show((lX d).map<|n5<|n+1).sum+1=((lX d).map<|n5 n).sum+1;rw[zW λf hf=>Oi<|Jf h f hf]
theorem Oj{cs:δ<|ρ×ρ}{n:π}{d:D}(h:Sg cs n d)(h2:n5 n d<=40):∀k,Sg cs (n+k) d/\n5 (n+k) d<=40|0=>⟨h,h2⟩|k+1=>by obtain⟨a,b⟩:=Oj h h2 k;exact{a.up,by show n5 (n+k+1) d<=40;rw[Oi a];exact b}
theorem RJ{P:Ψ}{w:Ω}{K:Φ}{mg:ρ->θ ξ}{base:Γ}{k N:π}{f:ε}{fd:FuncData}{ps:δ ρ}{sp:π->qh}(F:∀n,n<=N->bK P w K mg base (fF P w mg) k f fd ps (rK K<|sp n)):bK P w K mg base (fF P w mg) k f fd ps (rK K λds S R Z=>∃n,n<=N/\sp n ds S R Z):=by refine{?_,?_};rintro vs H Q E ⟨ds,S,R,Z,a,b,⟨n,hn,c⟩,d⟩;exact(F n hn).len vs H Q E ⟨ds,S,R,Z,a,b,c,d⟩;rintro A outer s H args us vs Q E hr he hb hv ⟨ds,S,R,Z,a,b,⟨n,hn,c⟩,d⟩;exact(F n hn).run A outer s H args us vs Q E hr he hb hv ⟨ds,S,R,Z,a,b,c,d⟩
inductive ur (ds:δ D) (S:ak) (R:KD) (Z:KX):η where
 |mk (ns:δ ν) (h0:ds=[.jD<|ns.map D.int]) (h1:∀(cs:δ (ρ×ρ))(ps:δ Part)(wy:ρ)(d:D)(S':ak),Gd cs->Og cs ps wy->Sq cs d->Sub S S'->R (.tup [.tup<|cs.map az,c9 ps wy,d]) S')
theorem JP(T:Txt w K mg t):Ok P w base T.vj 6 ur:=by
 have Gm:Ok P w base T.gR 5 _:=RJ (sp:=Rj) (N:=3) λn hn=>(nv T n).mono (by lia);refine T.vj.F.ck gW ?_;obtain⟨ns,e,q⟩;refine{_,(sc (bW (i:=1) gW.nd<|bp T.mT (Cq T) hr<|ac (bp T.dN (fu T) hr<|ap 0<|ac di an) an)<|sc (bW (i:=2) gW.nd<|bp T.vg (Ju T) hr<|ap 1<|ac (bp T.dN (fu T) hr<|ap 0<|ac di an) an)<|sc (bW (i:=3) gW.nd<|bp T.gR Gm hr<|ap 1<|ac (bp T.jv (lU T) hr<|ac (bp T.dN (fu T) hr<|ap 0<|ac di an)<|ac di an)<|ac (bo bz hr.u (bp T.dN (fu T) hr<|ap 0<|ac di an) di) an)<|s1<|sr<|b9<|ap 1<|ap 2<|ap 3 an),?_};refine !{ns,0,rfl,λc0=>{c0,rfl,λcs hcg=>?_}};have hg:=hcg.1;refine !!{ns,1,rfl,λc1=>{cs,c1,rfl,hg,λps wy ho=>?_}};refine !!{ns,2,rfl,λc2=>{c2,14,rfl,by decide,λxs lx NT hx Bk=>!{ns,3,rfl,λc3=>{by decide,?_}}}};obtain⟨m,em⟩:=Int.eq_ofNat_of_zero_le<|show 0<=c3%3 from zR _ (by decide);have hm:m<3:=by have:=zM c3 (show(0:ν)<3 by decide);lia
 refine{m+1,by lia,cs,lx,m,xs,rfl,by rw[em];rfl,hcg,aa,by lia,hx,λd ys hd hsz _ _=>?_};rw[ba];have Oh:Sq cs d:=by have h13:n5 (m+1) d<=40:=zG hsz (by rcases m with _|_|_|m<;>first|decide|lia);obtain⟨a,b⟩:=Oj hd h13<|6-m;rw[show m+1+(6-m)=7 by lia]at a b;exact{a,by lia}
 exact !!!{qL,fo<|q cs ps wy d _ hg ho Oh<|.new Bk}
noncomputable def J5(x:Row×π):D:=.tup [.str x.1.1,.int (x.2:π)]
inductive Fi (cs:δ<|ρ×ρ) (ps:δ Part) (wy:ρ) (d:D) (kn:Kn) (bf:ρ->θ π) (m:π) (tr:δ<|Row×π) (fr:θ Row):D->δ (ε×Ce)->η where
 |no (h:fr=none):Fi cs ps wy d kn bf m tr fr .au []
 |yes (lf:ε) (kf:δ<|Key×D) (ff:ρ->θ π) (h1:Bd kf ff 60) (h2:Fw cs ps wy d kn bf ff m tr fr):Fi cs ps wy d kn bf m tr fr (.ref lf) [(lf,.bG kf)]
structure Dn(cs:δ (ρ×ρ))(d:D)(kn:Kn)(bf:ρ->θ π)(tr:δ (Row×π))(x:D)(fx:δ (ε×Ce)):η where
 ex:∃(lf:ε)(kf:δ (Key×D))(ff:ρ->θ π),x=.ref lf/\fx=[(lf,.bG kf)]/\Bd kf ff 60/\∀z ws b,dk kn z=some ws->ff z=some b->bf z=some b->aJ cs (z,ws) 7 d=true->(z,b)∈tr.map JJ
structure Lq(t:fA)(S0:ak)(a lk wk lb lt ll lr:ε)(cs:δ (ρ×ρ))(ps:δ Part)(wy:ρ)(d:D)(n:π)(kn:Kn)(kb:δ (Key×D))(bf:ρ->θ π)(m:π)(tr:δ (Row×π))(fr:θ Row)(L:δ (ρ×π))(ls:δ ν)(rows:δ D)(x:D)(fx:δ (ε×Ce))(F:δ ε)(dl:δ D)(rs:lQ)(f:Sd)(S:ak):η where
 st:St t S0 a ((lk,.bG<|dD kn)::(wk,sO t.aE {wk,a,ps,wy,d,n,f,bH cs ps fr})::(lb,.bG kb)::(lt,.lst<|tr.map J5)::(ll,.lst<|ls.map D.int)::(lr,.lst rows)::fx) F cs dl rs S
 ki:KI cs kn
 ri:RI rs dl.length kn
 bd:Bd kb bf (60+m)
 tw:Tw cs ps wy kn bf m tr fr L
 fi:Fi cs ps wy d kn bf m tr fr x fx
 dl:dl.length+ls.length<=139
 ml:m+ls.length<=40
 ly:∀(S:ak) y,y∈rows->Ly S 60 y
noncomputable def J6(ns:δ ν)(cs:δ<|ρ×ρ)(ps:δ Part)(wy:ρ)(d:D)(n:π)(a lm lk wk lb:ε)(x fr:D)(lt:ε)(m:π)(ll lr:ε)(J_ CP Gn:θ D):SD:=[some<|.jD<|ns.map D.int,some<|.tup<|cs.map az,some<|c9 ps wy,some d,some<|.ref a,some<|.ref lm,some<|.ref lk,some<|.int (n:π),some<|.ref wk,some<|.ref lb,some x,some<|.ref lt,some fr,some<|.int (m:π),some<|.ref ll,some<|.ref lr,J_,CP,Gn,none,none]
inductive Iw (t:fA) (S0:ak) (ns:δ ν) (cs:δ<|ρ×ρ) (ps:δ Part) (wy:ρ) (d:D) (n:π) (a lm lk wk lb:ε) (μ:π) (ax:SD) (S':ak):η where
 |mk (kn:Kn) (kb:δ<|Key×D) (bf:ρ->θ π) (m:π) (tr:δ<|Row×π) (fr:θ Row) (L:δ<|ρ×π) (lt ll lr:ε) (ls:δ ν) (rows:δ D) (x:D) (fx:δ<|ε×Ce) (F:δ ε) (dl:δ D) (rs:lQ) (f:Sd) (r:π) (J_ CP Gn:θ D)
  (h0:ax=J6 ns cs ps wy d n a lm lk wk lb x (me cs ps fr) lt m ll lr J_ CP Gn)
  (h1:Lq t S0 a lk wk lb lt ll lr cs ps wy d n kn kb bf m tr fr L ls rows x fx F dl rs f S')
  (h2:μ=1000*ls.length+(if rows.isEmpty=true then 0 else 1)+r) (h3:r<=60)
  (h4:ls=[]->∀ss A,ss.Perm (kn.map (·.1))->Al cs ps wy 7 d (aL kn ss) A->A.length-pJ cs ps wy A (bH cs ps fr)<=r)
  (h5:ls=[]->rows=[]->Dn cs d kn bf tr x fx):Iw t S0 ns cs ps wy d n a lm lk wk lb μ ax S'
inductive Ewt (t:fA) (S0:ak) (ns:δ ν) (cs:δ<|ρ×ρ) (ps:δ Part) (wy:ρ) (d:D) (n:π) (a lm lk wk lb:ε) (ax:SD) (S':ak):η where
 |mk (kn:Kn) (kb:δ<|Key×D) (bf:ρ->θ π) (m:π) (tr:δ<|Row×π) (fr:θ Row) (L:δ<|ρ×π) (lt ll lr:ε) (ls:δ ν) (rows:δ D) (x:D) (fx:δ<|ε×Ce) (F:δ ε) (dl:δ D) (rs:lQ) (f:Sd) (J_ CP Gn:θ D)
  (h0:ax=J6 ns cs ps wy d n a lm lk wk lb x (me cs ps fr) lt m ll lr J_ CP Gn)
  (h1:Lq t S0 a lk wk lb lt ll lr cs ps wy d n kn kb bf m tr fr L ls rows x fx F dl rs f S')
  (h5:Dn cs d kn bf tr x fx):Ewt t S0 ns cs ps wy d n a lm lk wk lb ax S'
theorem JQ(ls:δ ν):cN (ls.map D.int) (some 1) none=ls.tail.map D.int:=by unfold cN;rw[show HT.sIx (ls.map D.int).length 0 (some 1)=min 1 (ls.map D.int).length from HT.sIx_nat ..,show HT.sIx (ls.map D.int).length (ls.map D.int).length none=(ls.map D.int).length from rfl];cases ls with|nil=>rfl|cons x xs=>show((D.int x::xs.map D.int).drop<|min 1 (xs.map D.int).length.succ).take _=xs.map D.int;rw[show min 1 (xs.map D.int).length.succ=1 by omega];show(xs.map D.int).take ((xs.map D.int).length+1-1)=_;rw[Nat.add_sub_cancel,List.take_length]
theorem MK(ls:δ ν):iK (ls.map D.int++[D.int 3]) 0=some (.int<|ls.head?.getD 3):=by cases ls with|nil=>exact bE (j:=0) rfl|cons x xs=>exact bE (j:=0) rfl
theorem EA(ls:δ ν):∀y∈ls.map D.int,Ly S 60 y:=λy hy=>by obtain⟨i,_,rfl⟩:=zg.mp hy;exact(Ly.plain rfl).le<|by decide
theorem map_empty(f:α->β)(l:δ α):(l.map f).isEmpty=l.isEmpty:=by cases l<;>rfl
theorem Wy(ns:δ ν):(cN ns (some 4)<|some 18).length<=40:=by unfold cN;rw[show HT.sIx ns.length 0 (some 4)=min 4 ns.length from HT.sIx_nat ..,show HT.sIx ns.length ns.length (some 18)=min 18 ns.length from HT.sIx_nat ..];exact zG (List.length_take_le _ _)<|by omega
theorem Wz(ns:δ ν):(cN ns (some 18)<|some 58).length<=40:=by unfold cN;rw[show HT.sIx ns.length 0 (some 18)=min 18 ns.length from HT.sIx_nat ..,show HT.sIx ns.length ns.length (some 58)=min 58 ns.length from HT.sIx_nat ..];exact zG (List.length_take_le _ _)<|by omega
theorem RK{B:δ Row}{r1:Row}(e1:B[B.length-1]?=some r1):iK (B.map ah) (-1)=some (ah r1):=by have h0:=(ze.mp e1).1;unfold iK G4;rw[za,xz<|by decide,xL<|by omega,show((-1:ν)+((B.length:π):ν)).toNat=B.length-1 by omega];show(B.map ah)[B.length-1]?=_;rw[zp,e1];rfl
theorem ML(h:B≠[]):∃r,B[B.length-1]?=some r/\dR fr B=some r:=by have h0:0<B.length:=List.length_pos_iff.mpr h;have e:=zf (show B.length-1<B.length by omega);exact{_,e,by unfold dR;rw[List.getLast?_eq_getElem?,e]}
noncomputable def rE(bf:ρ->θ π):D->D|.str z=>.tup [.str z,.int (kN bf z:π)]|.tup [.str z,_]=>.tup [.str z,.int (kN bf z:π)]|_=>.au
noncomputable def Az(ff bf:ρ->θ π):D->χ|.tup [.str z,_]=>(ff z).isSome&&ω (((kN ff z:π):ν)=((kN bf z:π):ν))|_=>false
theorem Bd.get(h:Bd kb bf k)(e:bf z=some b):bL kb (.inr z)=some (.int (kN bf z:π)):=by rw[h.at_,e];unfold kN;rw[e];rfl
theorem EB(hg:Gd cs)(hp:Pin cs ps)(h1:ss.Perm (kn.map (·.1)))(h2:s2.Perm (kn.map (·.1)))(hA:Al cs ps wy 7 d (aL kn ss) A)(hA':Al cs ps wy 7 d (aL kn s2) A'):A'=A:=Al.one hg hp {hA'.an,hA'.pm.trans<|((h2.trans h1.symm).map _).filter _} hA
noncomputable def MM(x:Row×π):δ Key:=[.inr x.1.1,.inl (x.2:π)]
theorem RL:∀{tr:δ (Row×π)},(tr.map JJ).Nodup->(tr.map MM).Nodup:=λ{tr} h=>by refine List.pairwise_map.mpr<|(List.pairwise_map.mp h).imp λ{a b} k e=>k ?_;unfold MM at e;simp only[List.cons.injEq,Sum.inr.injEq,Sum.inl.injEq,and_true]at e;unfold JJ;rw[e.1,show a.2=b.2 by omega]
noncomputable def isT(p:ρ×π):D->χ|.tup [.str k,.int i]=>ω (k=p.1)&&ω (i=(p.2:π))|_=>false
theorem JR{tr:δ<|Row×π}{z:ρ}{b:π}(h:(z,b)∈tr.map JJ):(tr.map J5).any (isT (z,b))=true:=by obtain⟨x,hx,e⟩:=zg.mp h;refine yx.mpr {J5 x,zg.mpr ⟨x,hx,rfl⟩,?_};have e:(x.1.1,x.2)=(z,b):=e;obtain⟨e1,e2⟩:=Prod.mk.inj e;show(ω (x.1.1=z)&&ω (((x.2:π):ν)=(b:π)))=true;rw[e1,e2,zu rfl,zu rfl];rfl
theorem Ol:Dl S (.tup [.str z,.int i]) (.tuple [.str z,.int i]):=by simp only[Dl,Dp,DpAll];exact !{_,_,rfl,rfl,_,_,rfl,rfl,rfl}
theorem CQ(h:z∈KS):(PyData.tuple [.str z,.int i]).canLay0=true/\(PyData.tuple [.str z,.int i]).depth<=2:=by have:=(gb _ h).2.2;refine{by simp only[PyData.canLay0,PyData.canLayAll0,this,Bool.and_self],?_};simp only[PyData.depth,PyData.depthAll];omega
theorem Gq{S:ak}{tr:δ<|Row×π}(h:∀x∈tr,x.1.1∈KS){z:ρ}{b:π}(hz:z∈KS):Each S (.tup [.str z,.int (b:π)]) (tr.map J5) (isT (z,b)):=by refine{_,Ol,(CQ hz).1,λy hy=>?_};obtain⟨x,hx,rfl⟩:=zg.mp hy;refine{_,Ol,(CQ<|h x hx).1,.inl<|by have:=(CQ (i:=((x.2:π):ν))<|h x hx).2;omega,?_};show _=(ω (x.1.1=z)&&ω (((x.2:π):ν)=(b:π)));simp only[PyData.eqv,PyData.eqvAll,Bool.and_true];congr 1
inductive JS (t:fA) (ds:δ D) (S:ak) (R:KD) (Z:KX):η where
 |mk (ns:δ ν) (h0:ds=[.jD<|ns.map D.int]) (h1:ns.length<=63) (h2:Tb t S) (h3:R (.bl true) S)
theorem MN(T:Txt w K mg t)(B:Bm mg base):Ok P w base T.law 20 (JS t):=by
 have rB:Ok P w base T.mU 7 (Wq t):=(Ef T).Qb λds S R Z h=>h.of;refine T.law.F.ck bc ?_;obtain⟨ns,e,Qh,htb,q⟩;refine{_,(sc (sa (bp T.vj (JP T) hr<|ap 0 an)<|gt (n:=3)<|gc (gn (i:=1) bc.nd)<|gc (gn (i:=2) bc.nd)<|gc (gn (i:=3) bc.nd) g0)<|sc (sa (bp T.vi (JF T) hr<|ap 1<|ac (Qv (dv 0) (o1 di)<|o1 di) an)<|gt (n:=3)<|gc (gn (i:=4) bc.nd)<|gc (gn (i:=5) bc.nd)<|gc (gn (i:=6) bc.nd) g0)<|sc (bW (i:=7) bc.nd<|bp T.B7 (MD T) hr<|ac (bo bS hr.u (bp T.dN (fu T) hr<|ap 0<|ac di an) di) an)<|sc (bW (i:=8) bc.nd<|mk T.Ma (JH T) (hr.mono<|by decide) T.L_ T.f9.b d0<|ap 4<|ap 2<|ap 3<|ap 7 an)<|sc (nL<|bW (i:=9) bc.nd<|wlk<|ct uZ T.B4 uG<|ac (su (N:=["_law_key_here"]) (src:=[none]) (js tU) (iwd<|dv 6) nK<|b9<|ap 0<|ac di an) an)<|sc (bW (i:=10) bc.nd dn)<|sc (bW (i:=11) bc.nd<|b8 an)<|sc (bW (i:=12) bc.nd dn)<|sc (bW (i:=13) bc.nd di)<|sc (nL<|bW (i:=14) bc.nd<|ct P4 T.QO K1<|ac (Qv (dv 0) (o1 di)<|o1 di) an)<|sc (nL<|bW (i:=15) bc.nd<|b8<|ac dn an)<|sc (nL<|Xx (VN<|twd<|twor (aX iQ hr.u (dv 14)<|b8 an)<|tw1<|aX iQ hr.u (dv 15)<|b8 an)<|sc (bW (i:=16) bc.nd<|ix hr.u (bo aV hr.u (dv 14)<|b8<|ac di an) di)<|sc (nL<|bW (i:=14) bc.nd<|Qv (dv 14) (o1 di) o0)<|s1<|si (VN<|twd<|twand (aX mC hr.u (bo bz hr.u (dv 16) di) di)<|tw1<|aX iQ hr.u (dv 14)<|b8 an) (sc (bW (i:=17) bc.nd<|bp T.vh (As T) hr<|ap 1<|ap 6<|ac (bo bS hr.u (dv 16) di) an)<|sc (nL<|se<|bp T.mU rB hr<|ap 4<|ap 17 an)<|sc (bW (i:=13) bc.nd<|bo aV hr.u (dv 13) di)<|s1<|sd hr.u (dv 9) (ix hr.u (dv 17) di)<|dv 13)<|sc (nL<|si (aX gH hr.u (dv 10) dn) (s1<|bW (i:=10) bc.nd<|wlk<|ct uZ T.B4 uG<|ac (su (N:=["_law_key_here","_law_born"]) (src:=[none,some 9]) (js tU) (iwd<|dv 6) nK<|b9<|ap 0<|ac (ix hr.u (dv 1)<|dv 0) an) an) s0)<|sc (bW (i:=18) bc.nd<|oA (dv 8) T.aY T.vk (RB T B) hr)<|sc (nL<|bW (i:=15) bc.nd<|ix hr.u (dv 18) di)<|sc (si (cY<|tv<|bp T.gT (sP T) hr<|ap 1<|ap 2<|ap 3<|ap 6<|ap 18<|ap 7<|ap 12 an) (s1<|sr db) s0)<|sc (nL<|bW (i:=11) bc.nd<|bo aV hr.u (dv 11)<|su (N:=["_law_row","_law_born"]) (src:=[none,some 9]) (js tU) (il<|dv 15) nK<|b9<|ac (ix hr.u (dv 0) di)<|ac (ix hr.u (dv 1)<|ix hr.u (dv 0) di) an)<|s1<|si (aX iQ hr.u (dv 15)<|b8 an) (s1<|bW (i:=12) bc.nd<|bp T.pB (Ap T) hr<|ap 1<|ap 2<|ac (ix hr.u (dv 15)<|Ff di) an) s0)<|sc (nL<|qr (N:=["_law_row","_law_firsts","_law_born"]) (src:=[none,some 10,some 9]) 19 bc.nd (js tU) (il<|bp T.qG (rA T) hr<|ap 6 an) (if1<|twd<|twand (aX r9 hr.u (ix hr.u (dv 0) di)<|dv 1)<|tw1<|aX aQ hr.u (ix hr.u (dv 1)<|ix hr.u (dv 0) di)<|ix hr.u (dv 2)<|ix hr.u (dv 0) di)<|dv 0)<|sc (nL<|qr (N:=["_law_row","_law_born","_law_columns_here","_law_sieve_here"]) (src:=[none,some 9,some 1,some 3]) 20 bc.nd (js tU) (il<|dv 19) (if1<|tv<|bp T.fj (hG T 7) hr<|ap 2<|ap 3<|ap 0 an)<|b9<|ac (ix hr.u (dv 0) di)<|ac (ix hr.u (dv 1)<|ix hr.u (dv 0) di) an)<|s1<|sr<|p_ (cm aQ hr.u (lsG hr.u (dv 11) T.aT T.IL)<|cb aZ T.aT aH<|ap 11 an)<|Hz<|cm aQ hr.u (su (N:=["_law_one","_law_told"]) (src:=[none,some 11]) (js tU) (il<|dv 20) (if1<|aX Ih hr.u (dv 0)<|dv 1)<|dv 0)<|b8 an),?_};refine !{ns,rfl,λcs ps wy d S1 hg ho Oh s1=>!{rfl,_,_,rfl,_,_,rfl,_,_,rfl,rfl,?_}};refine !!!!⟨λp1 nh=>{cs,p1,cN ns (some 4)<|some 18,rfl,hg,by rw[l9];exact aa,Wy ns,λS4 a lk lm CT ce F0 SW SX hb=>?_}⟩;have s3:=s1.trans<|Sub.new (c:=.lst<|cN (ns.map D.int) (some 4)<|some 18) nh;generalize S1.set p1 (.lst<|cN (ns.map D.int) (some 4)<|some 18)=S0 at s3 hb;clear nh s1;refine !{rfl,_,_,rfl,_,_,rfl,_,_,rfl,rfl,?_};have WA:=hb.ki;have hR0:=hb.ri;have L8:=hb.le;have QA:St t S0 a [(lk,.bG<|dD CT)] F0 cs SW SX S4:=hb.st.less (by simp) λx hx=>by rw[zI.mp hx];exact zj
 clear hb;refine !{ns,3,rfl,λc3=>{{by decide,by trivial},_,rfl,?_}};obtain⟨n1,n2⟩:=Rz<|c3/3;generalize Ry (c3/3)=n at n1 n2;refine !!!!⟨λwk RM=>?_⟩;refine{wk,a,cs,ps,wy,d,n,F0,SW,SX,rfl,hg,ho,Oh,n1,n2,QA.sh.sub<|.new RM,aa,rfl,?_};rw[ba];have JG:=QA.new RM<|sO t.aE {wk,a,ps,wy,d,n,.s,.s};generalize S4.set wk (sO t.aE {wk,a,ps,wy,d,n,.s,.s})=S5 at JG⊢;have RN:=WA.len;refine{λax S'=>∃(lb:ε)(kb:δ (Key×D)),Bd kb (RH CT λ_=>0) 60/\ax=[some<|.jD<|ns.map D.int,some<|.tup<|cs.map az,some<|c9 ps wy,some d,some<|.ref a,some<|.ref lm,some<|.ref lk,some<|.int (n:π),some<|.ref wk,some<|.ref lb,none,none,none,none,none,none,none,none,none,none,none]/\St t S0 a [(lk,.bG<|dD CT),(wk,sO t.aE {wk,a,ps,wy,d,n,.s,.s}),(lb,.bG kb)] F0 cs SW SX S',?_,?_};have LA:=JG.at 0 rfl;refine{lk,dD CT,LA,λo hwd=>?_};refine !{lk,o,_,rfl,aa,hwd,?_};refine comp_map (λd=>.tup [d,.int 0]) aa (by show(((dD CT).map (·.1)).map DZ).length<=1000;rw[mf,za];lia) (λx hx Q hQ=>!⟨cz,hQ⟩) λpa wF=>?_;have em:(({((dD CT).map (·.1)).map DZ,λS=>S lk=some (.raw o)}:ke).xs.map λd=>D.tup [d,.int 0])=(CT.map λr=>(r.1,D.int ((0:π):ν))).map qj:=by show(((dD CT).map (·.1)).map DZ).map _=_;rw[mf,zq,zq];rfl
 rw[em];refine{_,_,rfl,.inr aa,λpb Ka=>?_};obtain⟨e1,f1,f2,f3,f4⟩:=Ay (y:=.bG<|eX<|CT.map λr=>(r.1,D.int ((0:π):ν))) LA wF Ka;refine{by rw[ae<|Ne.symm f4,ae<|Ne.symm f3,aa],?_};rw[e1];refine fo {pb,_,Bd.of CT (λ_=>0) RN,rfl,?_};exact(JG.sub<|.new f1).new f2 _;rintro ax S6 ⟨lb,kb,SY,rfl,AH⟩;clear RM JG S5 QA S4;refine{kB,λlt dr=>?_};have Gu:=AH.new dr<|.lst [];generalize S6.set lt (.lst [])=S7 at Gu⊢;refine{λax S'=>∃(ll:ε)(ls:δ ν),ls.length<=40/\ax=[some<|.jD<|ns.map D.int,some<|.tup<|cs.map az,some<|c9 ps wy,some d,some<|.ref a,some<|.ref lm,some<|.ref lk,some<|.int (n:π),some<|.ref wk,some<|.ref lb,some .au,some<|.ref lt,some .au,some<|.int 0,some<|.ref ll,none,none,none,none,none,none]/\St t S0 a [(lk,.bG<|dD CT),(wk,sO t.aE {wk,a,ps,wy,d,n,.s,.s}),(lb,.bG kb),(lt,.lst []),(ll,.lst<|ls.map D.int)] F0 cs SW SX S',?_,?_};refine !!!⟨λpa wF=>{_,_,rfl,.inl aa,λpb Ka=>?_}⟩;refine fo {pb,cN ns (some 18)<|some 58,Wz ns,rfl,?_};rw[<-l9];exact(Gu.sub<|.new wF).new Ka _;rintro ax S8 ⟨ll0,ls0,WB,rfl,Gi⟩;clear dr Gu S7;refine{λax S'=>∃μ,Iw t S0 ns cs ps wy d n a lm lk wk lb μ ax S',?_,?_};refine{IQ,λlr rL=>fo ?_};refine{_,CT,kb,RH CT λ_=>0,0,[],none,CT.map λr=>(r.1,0),lt,ll0,lr,ls0,[.au],.au,[],F0,SW,SX,.s,60,none,none,none,rfl,{Gi.new rL _,WA,hR0,SY,?_,.no rfl,by lia,by lia,?_},rfl,zm _,?_,λ_ h=>nomatch h};refine{λ_ h=>(nomatch h),λ_ h=>(nomatch h),λ_ h=>(nomatch h),List.nodup_nil,λx hx=>?_,λ_ h=>(nomatch h),λ_ h=>(nomatch h),λz ws e=>?_,by rw[za];lia};obtain⟨r,_,rfl⟩:=zg.mp hx;exact zm _;exact{0,by unfold RH;rw[e];rfl,zg.mpr {_,fS e,rfl}};intro S y hy;rw[zI.mp hy];exact Ly.au.le (by decide);intro _ ss A iE hA;have:A.length<=60:=by rw[hA.pm.length_eq];exact zG (yt _ _)<|eV WA iE
 lia;rintro ax S9 ⟨μ0,hi0⟩;clear Gi S8 AH S6;refine{Ewt t S0 ns cs ps wy d n a lm lk wk lb,?_,?_};refine{Iw t S0 ns cs ps wy d n a lm lk wk lb,⟨μ0,hi0⟩,?_};clear hi0 μ0 WA hR0 L8 RN SY WB;rintro μ ax S' ⟨kn,kb,bf,m,tr,fr,L,lt,ll,lr,ls,rows,x,fx,F,dl,rs,f,r,J_,CP,Gn,rfl,hL,rfl,abi,WC,abj⟩;refine{λb S1=>b=(!ls.isEmpty || !rows.isEmpty)/\Sub S' S1,?_,?_};have X1:=hL.st.at 4 rfl;have rL:=hL.st.at 5 rfl;refine !{kB,λpe uT=>pF ((Sub.new uT) _ _ X1) aa (EA ls) !⟨?_⟩};rw[map_empty];refine bQ (λh=>{by rw[h];rfl,.new uT}) λh=>?_;refine !{kB,λpf hpf=>pF (((Sub.new uT).trans<|.new hpf) _ _ rL) aa (λy hy=>hL.ly _ y hy) !⟨?_⟩};exact{by rw[h];rfl,(Sub.new uT).trans<|.new hpf};rintro b S1 ⟨rfl,s1⟩;have JG:=hL.st.sub s1;refine bQ (λhgo=>?_) λhex=>?_;have X1:=JG.at 4 rfl;refine !{IQ,λpa wF=>?_};refine{_,_,(Sub.new wF) _ _ X1,aa,sm<|by rw[za];have:=hL.ml;show _+1<=1000;lia,λpb Ka=>?_};refine{_,_,aa,MK ls,?_};have s2:=(Sub.new (c:=.lst [.int 3]) wF).trans<|Sub.new (c:=.lst<|ls.map D.int++[.int 3]) Ka;have AH:=JG.sub s2;have RO:=AH.at 4 rfl;generalize (S1.set pa<|.lst [.int 3]).set pb (.lst<|ls.map D.int++[.int 3])=S2 at s2 AH RO⊢;generalize ls.head?.getD 3=c;refine{λax S'=>∃ll':ε,ax=J6 ns cs ps wy d n a lm lk wk lb x (me cs ps fr) lt m ll' lr (some<|.int c) CP Gn/\Lq t S0 a lk wk lb lt ll' lr cs ps wy d n kn kb bf m tr fr L ls.tail rows x fx F dl rs f S',?_,?_};refine !!{_,RO,λpc hpc=>?_};rw[JQ];have:=List.length_tail (l:=ls);exact fo {pc,rfl,AH.rep 4 hpc _,hL.ki,hL.ri,hL.bd,hL.tw,hL.fi,by have:=hL.dl;lia,by have:=hL.ml;lia,hL.ly};rintro ax S3 ⟨JT,rfl,hU⟩;clear s2 AH RO wF Ka X1 JG s1;refine{λb S1=>(b=true->ls.tail≠[])/\Sub S3 S1,?_,?_};refine !{by decide,_,rfl,bQ (λ_=>?_) λ_=>{(λh=>(nomatch h)),.refl _}};refine !{kB,λpe uT=>pF ((Sub.new uT) _ _<|hU.st.at 4 rfl) aa (EA _) !⟨?_⟩};rw[map_empty];exact{(λh e=>by rw[e]at h;cases h),.new uT};rintro b S4 ⟨hbt,s4⟩;have Gi:=hU.st.sub s4;have dr:=List.length_tail (l:=ls);refine bQ (λhb=>?_) λ_=>?_;have jx:=hbt hb;have KJ:2<=ls.length:=by rcases ls with _|⟨_,_|⟨_,_⟩⟩;exact absurd rfl jx;exact absurd rfl jx;show 2<=_+1+1;lia
 refine !!!⟨{by decide,by trivial},cs,lk,kn,_,rfl,hg,Gi.at 0 rfl,hU.ki,λde iF hde SO XZ=>?_⟩;have sU:=Gi.put 0 rfl<|.bG<|dD iF;generalize S4.set lk (.bG<|dD iF)=S5 at sU⊢;refine{λax S'=>∃F' c8,ax=J6 ns cs ps wy d n a lm lk wk lb x (me cs ps fr) lt m JT lr (some<|.int c) (some de) Gn/\RI c8 (dl.length+1) iF/\St t S0 a ((lk,.bG<|dD iF)::(wk,sO t.aE {wk,a,ps,wy,d,n,f,bH cs ps fr})::(lb,.bG kb)::(lt,.lst<|tr.map J5)::(JT,.lst<|ls.tail.map D.int)::(lr,.lst rows)::fx) F' cs (dl++[de]) c8 S',?_,?_};refine !!⟨⟨(ug sU.sh hg hU.ki hU.ri (by have:=hU.dl;lia) hde SO λS7 F7 rs7 hS7 hK7 hR7=>?_).of⟩⟩;exact fo {F7,rs7,rfl,hR7,sU.Wi hS7 hK7};rintro ax S6 ⟨F',c8,rfl,hR',wa⟩;obtain⟨z,hz,nn,rr,rfl⟩:=SO.key;refine !!!!{.str z,bE (j:=1) rfl,lb,kb,.inr z,rfl,wa.at 2 rfl,rfl,bg<|by have:=hU.bd.le;have:=hU.ml;lia,?_};have N_:=wa.put 2 rfl<|.bG<|dput kb (.inr z)<|.int ((m+1:π):ν);have GG:=hU.bd.put z<|m+1;refine{_,?_,iF,_,Od bf z<|m+1,m+1,tr,fr,_,lt,JT,lr,ls.tail,rows,x,fx,F',_,c8,f,60,_,_,_,rfl,{N_,XZ,by rw[zA];exact hR',GG,hU.tw.xT hz,?_,by rw[zA];have:=hU.dl;have:=hL.dl;show _+1+_<=_;lia,by have:=hL.ml;lia,hU.ly},rfl,zm _,λe=>absurd e jx,λe=>absurd e jx};split<;>lia;rcases hU.fi with h|⟨lf,kf,ff,h1,h2⟩;exact .no h;exact .yes lf kf ff h1<|h2.xT hz;refine{λax S'=>∃(lf:ε)(kf:δ (Key×D))(ff:ρ->θ π),ax=J6 ns cs ps wy d n a lm lk wk lb (.ref lf) (me cs ps fr) lt m JT lr (some<|.int c) CP Gn/\Bd kf ff 60/\Fw cs ps wy d kn bf ff m tr fr/\St t S0 a [(lk,.bG<|dD kn),(wk,sO t.aE {wk,a,ps,wy,d,n,f,bH cs ps fr}),(lb,.bG kb),(lt,.lst<|tr.map J5),(JT,.lst<|ls.tail.map D.int),(lr,.lst rows),(lf,.bG kf)] F cs dl rs S',?_,?_};rcases hU.fi with h|⟨lf,kf,ff,h1,h2⟩;subst h;refine !!⟨dX ?_⟩;have LA:=Gi.at 0 rfl;have MH:=Gi.at 2 rfl;have jx:lb≠lk:=λe=>by have:=Gi.nd;rw[e]at this;simp at this
 have XY:=hU.ki.len;refine{lk,dD kn,LA,λo hwd=>?_};refine !{lk,o,_,rfl,aa,hwd,?_};refine comp_map (rE bf) aa (by show(((dD kn).map (·.1)).map DZ).length<=1000;rw[mf,za];lia) (λy hy Q hQ=>?_) λpa wF=>?_;have hy:y∈((dD kn).map (·.1)).map DZ:=hy;rw[mf]at hy;obtain⟨r,eP,rfl⟩:=zg.mp hy;obtain⟨ws,Ae⟩:=jk<|zg.mpr ⟨r,eP,rfl⟩;obtain⟨b0,eb,_⟩:=hU.tw.bor _ _ Ae;exact !!!{kb,_,(ae jx).trans MH,hU.bd.get eb,cz,hQ};have em:(({((dD kn).map (·.1)).map DZ,λS=>S lk=some (.raw o)}:ke).xs.map<|rE bf)=(kn.map λr=>(r.1,D.int (kN bf r.1:π))).map qj:=by show(((dD kn).map (·.1)).map DZ).map _=_;rw[mf,zq,zq];rfl
 rw[em];refine{_,_,rfl,.inr aa,λpb Ka=>?_};obtain⟨e1,f1,f2,f3,f4⟩:=Ay (y:=.bG<|eX<|kn.map λr=>(r.1,D.int (kN bf r.1:π))) LA wF Ka;refine{by rw[ae<|Ne.symm f4,ae<|Ne.symm f3,aa],?_};rw[e1];refine fo {pb,_,RH kn<|kN bf,rfl,Bd.of kn (kN bf) XY,{λz b e=>?_,λ_ _ _ _ _ _ _=>.inr trivial},(Gi.sub<|.new f1).new f2 _};unfold RH at e;by_cases hz:(dk kn z).isSome=true;rw[xL hz]at e;obtain⟨ws,Ae⟩:=Option.isSome_iff_exists.mp hz;obtain⟨b0,eb,hm⟩:=hU.tw.bor _ _ Ae;have:=hU.tw.le _ hm;unfold kN at e;rw[eb]at e;have e:some b0=some b:=e;cases e;exact this;rw[xz hz]at e;cases e;exact !!⟨bt<|fo ⟨lf,kf,ff,rfl,h1,h2,Gi⟩⟩;rintro ax S5 ⟨lf,kf,ff,rfl,WD,hFw,sU⟩;clear Gi s4 S4 hbt;obtain⟨ss,iE,SU⟩:=CO (kn.map (·.1));have hsn:Snap rs cs dl.length (aL kn ss):=⟨kn,ss,rfl,hU.ki,iE,SU,hU.ri.wt⟩;have hvw:=hsn.vw sU.sh hU.ri (md:=.au) rfl vI;have hq:Qs t S5 a cs ps wy d .au (aL kn ss):={hg,ho,Oh,hvw,hsn.key,htb.sub<|s3.trans sU.GI.sub};have RM:=sU.at 1 rfl;refine !{wk,_,rfl,RM,rfl,{wk,a,ps,wy,d,n,f,bH cs ps fr},cs,aL kn ss,rfl,RM,hq,Wt hg ho.pin hU.tw.fo,λA p b e hA hp he=>?_};have he:dm cs ps wy A (bH cs ps fr) n=(b,e):=he;have abl:=eV hU.ki iE;have aba:A.length<=60:=by rw[hA.pm.length_eq];exact zG (yt _ _) abl
 have tw6:=Tw.MF (n:=n) hg ho.pin iE hA hU.tw;have X2:=Fw.MF hg ho.pin iE hA n1 hU.tw hFw;have by6:∀r∈seg A (dm cs ps wy A (bH cs ps fr) n).1 (dm cs ps wy A (bH cs ps fr) n).2,RC cs ps wy fr r:=λr eP=>Ey hg ho.pin iE hA hU.tw eP;have rm6:∀{r:π},A.length-pJ cs ps wy A (bH cs ps fr)<=r->_:=λ{r} h1 h2=>JM (n:=n) (r:=r) hg ho.pin iE hA hU.tw h1 h2;have Wx:=wb (cs:=cs) (ps:=ps) (wy:=wy) (A:=A)<|bH cs ps fr;have eb:pJ cs ps wy A (bH cs ps fr)=b:=congrArg Prod.fst he;have ee:min (pJ cs ps wy A (bH cs ps fr)+n) A.length=e:=congrArg Prod.snd he;rw[he]at tw6 X2 by6 rm6;have hPg:Pg cs ps wy d kn A b e n fr:={⟨ss,iE,hA⟩,by lia,by lia,by lia,by lia,hU.tw.fo,by6};have wa:=(sU.rep 5 hp<|.lst<|(seg A b e).map ah).put 1 rfl<|sO t.aE {wk,a,ps,wy,d,n,(CJ cs ps (seg A b e)<|bH cs ps fr).1,(CJ cs ps (seg A b e)<|bH cs ps fr).2};refine{λax S'=>ax=J6 ns cs ps wy d n a lm lk wk lb (.ref lf) (me cs ps fr) lt m JT p (some<|.int c) CP (some<|CF p b<|A.length-e)/\St t S0 a [(lk,.bG<|dD kn),(wk,sO t.aE {wk,a,ps,wy,d,n,(CJ cs ps (seg A b e)<|bH cs ps fr).1,bH cs ps<|dR fr<|seg A b e}),(lb,.bG kb),(lt,.lst<|tr.map J5),(JT,.lst<|ls.tail.map D.int),(p,.lst<|(seg A b e).map ah),(lf,.bG kf)] F cs dl rs S',?_,?_};refine !!⟨fo {rfl,?_}⟩;rw[<-RE];exact wa;clear wa RM hq hvw sU hp S5;rintro ax S6 ⟨rfl,wa⟩;refine !!!!!!!{cs,ps,wy,d,lk,kn,p,A,b,e,n,fr,rfl,hg,ho,Oh,wa.at 0 rfl,hU.ki,hPg,wa.at 5 rfl,_,rfl,bt ?_};have hBA:∀r∈seg A b e,r∈A:=λr eP=>pI eP;have hBr:Rg cs (seg A b e):=hA.an.rg.sub<|(List.take_sublist _ _).trans<|List.drop_sublist _ _;have hBl:(seg A b e).length<=60:=by rw[pG (by lia)<|by lia];lia
 generalize (CJ cs ps (seg A b e)<|bH cs ps fr).1=f2 at wa;generalize seg A b e=B at wa tw6 X2 rm6 hBA hBr hBl;have rL:=wa.at 5 rfl;have MH:=wa.at 2 rfl;have htl:=hU.tw.cnt;have XR:=hU.ml;refine{λax S'=>∃lt':ε,ax=J6 ns cs ps wy d n a lm lk wk lb (.ref lf) (me cs ps fr) lt' m JT p (some<|.int c) CP (some<|CF p b<|A.length-e)/\St t S0 a [(lk,.bG<|dD kn),(wk,sO t.aE {wk,a,ps,wy,d,n,f2,bH cs ps<|dR fr B}),(lb,.bG kb),(lt',.lst<|(tr++Oe bf B).map J5),(JT,.lst<|ls.tail.map D.int),(p,.lst<|B.map ah),(lf,.bG kf)] F cs dl rs S',?_,?_};refine !!{_,rL,?_};refine comp_map (rE bf) rL (by show(B.map ah).length<=_;rw[za];lia) (λy hy Q hQ=>?_) λpa wF=>?_;obtain⟨r,eP,rfl⟩:=zg.mp hy;obtain⟨b0,eb0,_⟩:=hU.tw.bor _ _ ((CM iE hA).mp<|hBA r eP).1;exact !!!!!{kb,_,MH,hU.bd.get eb0,cz,hQ};have em:(({B.map ah,λS=>o9 S (.ref p)<|B.map ah}:ke).xs.map<|rE bf)=(Oe bf B).map J5:=by show(B.map ah).map _=_;unfold Oe;rw[zq,zq];rfl
 rw[em];refine{_,_,(Sub.new wF) _ _<|wa.at 3 rfl,aa,sm<|by rw[za,za];unfold Oe;rw[za];lia,λpb Ka=>fo {pb,rfl,?_}};rw[zL];exact(wa.sub<|.new wF).rep 3 Ka _;clear wa rL MH S6;rintro ax S7 ⟨QH,rfl,N_⟩;have ly:∀(S:ak) y,y∈B.map ah->Ly S 60 y:=λS=>MB hBr λr eP=>hA.an.ky r<|hBA r eP;obtain⟨r2,k1,k2,k3⟩:∃r2,r2<=60/\(ls.tail=[]->∀ss A,ss.Perm (kn.map (·.1))->Al cs ps wy 7 d (aL kn ss) A->A.length-pJ cs ps wy A (bH cs ps<|dR fr B)<=r2)/\1000*ls.tail.length+(if (B.map ah).isEmpty=true then 0 else 1)+r2<1000*ls.length+(if rows.isEmpty=true then 0 else 1)+r:=by rw[map_empty];by_cases hl:ls=[];subst hl;have hgo:(!([]:δ ν).isEmpty || !rows.isEmpty)=true:=hgo;have hre:rows.isEmpty=false:=(by cases e:rows.isEmpty<;>simp[e]at hgo⊢);have xW:=WC rfl ss A iE hA;by_cases hB:B=[];subst hB;refine{r,abi,λ_=>WC rfl,?_};rw[hre];show 0+0+r<0+1+r;lia;obtain⟨j1,j2⟩:=rm6 xW hB;refine{r-1,by lia,λ_ s2 A2 h1 h2=>?_,?_};rw[EB hg ho.pin iE h1 hA h2];exact j2;rw[hre,show B.isEmpty=false by cases B<;>first|rfl|exact absurd rfl hB];show 0+1+(r-1)<0+1+r;lia;have:0<ls.length:=List.length_pos_iff.mpr hl;refine{60,zm _,λ_ s2 A2 h1 h2=>?_,?_};rw[EB hg ho.pin iE h1 hA h2];lia;rw[dr];split<;>split<;>lia
 have fin:∀{S':ak},Sub S7 S'->∃μ',μ'<1000*ls.length+(if rows.isEmpty=true then 0 else 1)+r/\Iw t S0 ns cs ps wy d n a lm lk wk lb μ' (J6 ns cs ps wy d n a lm lk wk lb (.ref lf) (me cs ps<|dR fr B) QH m JT p (some<|.int c) CP<|some<|CF p b<|A.length-e) S':=λs8=>{_,k3,kn,kb,bf,m,_,_,L,QH,JT,p,ls.tail,_,_,_,F,dl,rs,f2,r2,_,_,_,rfl,{N_.sub s8,hU.ki,hU.ri,hU.bd,tw6,.yes lf kf ff WD X2.1,hU.dl,hU.ml,ly},rfl,k1,k2,λ_ hB=>{lf,kf,ff,rfl,rfl,WD,λz ws b0 e1 e2 e3 e4=>by rw[zL];exact zV _<|X2.2 (List.map_eq_nil_iff.mp hB) z ws b0 e1 e2 e3 e4}};have rL:=N_.at 5 rfl;refine !{kB,λpe uT=>pF ((Sub.new uT) _ _ rL) aa (λy hy=>ly _ y hy) !⟨?_⟩};rw[map_empty];refine bQ (λh=>?_) λh=>?_;have hB:B≠[]:=λe=>by rw[e]at h;cases h
 obtain⟨r1,e1,e2⟩:=ML (fr:=fr) hB;have xW:=zH e1;refine !!!!{_,_,(Sub.new uT) _ _ rL,RK e1,cs,ps,wy,r1,rfl,hg,ho.pin,ho.len,hBr.1 r1 xW,?_};have:=fin<|Sub.new (c:=.lst []) uT;rw[e2]at this;exact this;have hB:B=[]:=by cases B<;>first|rfl|cases h
 have:=fin<|Sub.new (c:=.lst []) uT;rw[hB]at this;exact this;have hex:(!ls.isEmpty || !rows.isEmpty)=false:=hex;rw[Bool.or_eq_false_iff,Bool.not_eq_false',Bool.not_eq_false',List.isEmpty_iff,List.isEmpty_iff]at hex;exact{_,s1,kn,kb,bf,m,tr,fr,L,lt,ll,lr,ls,rows,x,fx,F,dl,rs,f,J_,CP,Gn,rfl,hL,abj hex.1 hex.2};clear hi0 μ0 WA hR0 L8 RN SY WB CT kb SW SX F0 ll0 ls0 lt;rintro ax S1 ⟨kn,kb,bf,m,tr,fr,L,lt,ll,lr,ls,rows,x,fx,F,dl,rs,f,J_,CP,Gn,rfl,hL,hdn⟩;obtain⟨lf,kf,ff,rfl,rfl,WD,abp⟩:=hdn.ex;have M9:=hL.st.at 6 rfl;have MH:=hL.st.at 2 rfl;have dr:=hL.st.at 3 rfl;have sS:=s3.trans hL.st.GI.sub;have SY:=hL.bd;have bor:∀z ws,dk kn z=some ws->∃b,bf z=some b:=λz ws e=>by obtain⟨b,h,_⟩:=hL.tw.bor z ws e;exact⟨b,h⟩
 have hkK:∀z ws,dk kn z=some ws->z∈KS:=λz ws e=>(hL.ki.ok _<|fS e).1;have hwK:∀z ws,dk kn z=some ws->Wg cs ws:=λz ws e=>(hL.ki.ok _<|fS e).2;have afC:=hL.tw.cnt;have XR:=hL.ml;refine{λax S'=>∃(WE:ε)(RP:δ Row),RP.length<=60/\(∀r∈RP,dk kn r.1=some r.2/\∃b,ff r.1=some b/\bf r.1=some b)/\ax=(J6 ns cs ps wy d n a lm lk wk lb (.ref lf) (me cs ps fr) lt m ll lr J_ CP Gn).set 19 (some<|.ref WE)/\Sub S1 S'/\S' WE=some (.lst<|RP.map ah),?_,?_};refine !{cs,lk,kn,rfl,hL.st.at 0 rfl,hL.ki,λss p1 iE _ nh=>{_,aa,?_}};have sb:=Sub.new (c:=.lst<|(aL kn ss).map ah) nh;have h60:=eV hL.ki iE;refine df (Az ff bf) id aa (by show((aL kn ss).map ah).length<=_;rw[za];lia) (λy hy Q Q' hQ AQ=>?_) λpa wF=>?_;obtain⟨⟨z,ws⟩,eP,rfl⟩:=zg.mp hy;obtain⟨b,eb⟩:=bor z ws<|(we iE).mp eP;have e2:=SY.get eb;have e0:=WD.at_ z;have kq:Az ff bf (ah (z,ws))=((ff z).isSome&&ω (((kN ff z:π):ν)=((kN bf z:π):ν))):=rfl;refine !!!⟨.inr {kf,.inr z,sb _ _ M9,rfl,_,rfl,?_}⟩;rw[e0];cases ef:ff z with|none=>rw[ef]at kq;exact bt (AQ kq)|some b2=>rw[ef]at kq;refine dX !!!{kf,_,sb _ _ M9,WD.get ef,_,rfl,_,rfl,_,rfl,kb,_,sb _ _ MH,e2,_,rfl,?_};exact bQ (λh=>!⟨hQ<|by rw[kq];exact h⟩) λh=>AQ<|by rw[kq];exact h
 have eB:(({(aL kn ss).map ah,λS=>o9 S (.ref p1)<|(aL kn ss).map ah}:ke).xs.filter<|Az ff bf).map id=((aL kn ss).filter λr=>Az ff bf<|ah r).map ah:=by show((((aL kn ss).map ah).filter<|Az ff bf).map id)=_;rw[List.map_id,List.filter_map];rfl
 rw[eB];refine fo {pa,_,zG (yt _ _) h60,λr eP=>?_,rfl,sb.trans<|.new wF,aa};obtain⟨h1,h2⟩:=yp.mp eP;obtain⟨z,ws⟩:=r;have hz:=(we iE).mp h1;obtain⟨b,eb⟩:=bor z ws hz;have h2:((ff z).isSome&&ω (((kN ff z:π):ν)=((kN bf z:π):ν)))=true:=h2;rw[zJ,zK]at h2;obtain⟨b2,e2⟩:=Option.isSome_iff_exists.mp h2.1;have h3:=h2.2;unfold kN at h3;rw[e2,eb]at h3;have h3:((b2:π):ν)=((b:π):ν):=h3;have:b2=b:=by lia
 subst this;exact⟨hz,b2,e2,eb⟩;rintro ax S2 ⟨WE,WG,h19,WH,rfl,s2,WI⟩;refine{λax S'=>∃(X3:ε)(RQ:δ (ρ×π)),RQ.length<=60/\(∀p∈RQ,p∈tr.map JJ/\p.1∈KS)/\ax=((J6 ns cs ps wy d n a lm lk wk lb (.ref lf) (me cs ps fr) lt m ll lr J_ CP Gn).set 19<|some<|.ref WE).set 20 (some<|.ref X3)/\Sub S2 S'/\S' X3=some (.lst<|RQ.map λp=>.tup [.str p.1,.int (p.2:π)]),?_,?_};refine !{_,WI,?_};refine df (n_ cs d) (rE bf) WI (by show(WG.map ah).length<=_;rw[za];lia) (λy hy Q Q' hQ AQ=>?_) λpa wF=>?_;obtain⟨r,eP,rfl⟩:=zg.mp hy;obtain⟨hz,b2,_,eb⟩:=WH r eP;exact !!!{cs,d,r,rfl,hg,Oh.1,hwK _ _ hz,_,rfl,bQ (λh=>!!!!!{kb,_,s2 _ _ MH,SY.get eb,cz,hQ h}) λh=>AQ h};have eB:(({WG.map ah,λS=>o9 S (.ref WE)<|WG.map ah}:ke).xs.filter<|n_ cs d).map (rE bf)=((WG.filter λr=>aJ cs r 7 d).map λr=>(r.1,kN bf r.1)).map λp=>D.tup [.str p.1,.int (p.2:π)]:=by show(((WG.map ah).filter<|n_ cs d).map<|rE bf)=_;rw[List.filter_map,zq,zq];rfl
 rw[eB];refine fo {pa,_,by rw[za];exact zG (yt _ _) h19,λp hp=>?_,rfl,.new wF,aa};obtain⟨r,eP,rfl⟩:=zg.mp hp;obtain⟨h1,h2⟩:=yp.mp eP;obtain⟨hz,b2,e2,eb⟩:=WH r h1;have:kN bf r.1=b2:=by unfold kN;rw[eb];rfl
 rw[this];exact{abp r.1 r.2 b2 hz e2 eb h2,hkK _ _ hz};rintro ax S3 ⟨X3,RQ,h20,abq,rfl,s4,WJ⟩;have RS:=s4 _ _<|s2 _ _ dr;have abr:S3 lt=some (.lst<|(tr.map MM).map XG):=by rw[zq];exact RS
 refine !{(tr.map MM).map XG,abr,by rw[za,za];lia,.inr !⟨RL hL.tw.nd⟩,?_};rw[za,za];refine !!⟨.inl {_,RS,_,rfl,?_}⟩;rw[za];refine kM ?_ (by rw[xz zd];exact zu rfl);refine !{_,WJ,?_};refine df (λ_=>false) id WJ (by show(RQ.map _).length<=_;rw[za];lia) (λy hy Q Q' hQ AQ=>?_) λpa wF=>?_;obtain⟨⟨z,b⟩,hp,rfl⟩:=zg.mp hy;obtain⟨h1,h2⟩:=abq _ hp;refine !!{lt,tr.map J5,isT (z,b),rfl,RS,Gq (λx hx=>(hL.tw.ro x hx).2) h2,?_};rw[xL rfl,JR h1];exact{_,rfl,bt<|AQ rfl};rw[show(({RQ.map λp=>D.tup [.str p.1,.int (p.2:π)],λS=>o9 S (.ref X3)<|RQ.map λp=>D.tup [.str p.1,.int (p.2:π)]}:ke).xs.filter λ_=>false).map id=[] by rw[List.filter_eq_nil_iff.mpr λ_ _ h=>Bool.noConfusion h];rfl];exact{kB,λpe uT=>eq_nil ((Sub.new uT) _ _ aa) aa (λ_ h=>(nomatch h)) {S,sS.trans<|s2.trans<|s4.trans<|(Sub.new wF).trans<|.new uT,q}}
def JU(t:fA)(K:Φ):Sp:=λvs H Q _=>rK K (JS t) vs H Q E0
theorem RT(T:Txt w K mg t)(B:Bm mg base):bK P w K mg base W8 20 t.NJ t.IH ["_law_script"] (JU t K):=bK.calm<|MN T B
theorem JV{w:Ω}{K:Φ}{mg:ρ->θ ξ}{t:fA}(T:Txt w K mg t){H:Hp}{a:ε}{ns:δ ν}(hl:ns.length<=63)(hO:xp t.ts H)(hS:iu K H a<|ns.map V.int):JU t K [.ref a] H (λv _=>v=.bl true) λ_ _ _=>False:=by
 have hR:Nc K H a (ns.map V.int):=by rcases hS with (h|h)|h;rcases hO.all a with q|⟨o,xs,q⟩|⟨_,q⟩;rw[q]at h;cases h;rw[q]at h;cases h;rw[q]at h;cases h;exact .inl h;exact .inr h
 have jx:t.aG≠t.aK:=λe=>by have:=T.np;rw[e]at this;simp at this
 have tok:∀q,Dk H q #[]:=λq=>{trivial,λ_ _ e=>by cases e};refine{[.jD<|ns.map D.int],λb=>if b=t.aK then some (.tab qK) else if b=t.aG then some (.tab qV) else none,λd _=>d=.bl true,λ_ _=>False,aR (Hy hR<|Dj ns) bA,λb c e=>?_,{ns,rfl,hl,{xL rfl,(xz jx).trans<|xL rfl},rfl},λd S v H' e r _ _=>by subst e;exact r.bl,λ_ _ _ z=>z.elim};by_cases h1:b=t.aK;have e:=(xL h1).symm.trans e;cases e;rw[h1];exact{#[],hO.tab _ T.lE,tok _};by_cases h2:b=t.aG;have e:=(xz h1).symm.trans e;have e:=(xL h2).symm.trans e;cases e;rw[h2];exact{#[],hO.tab _ T.jI,tok _};have e:=(xz h1).symm.trans e;have e:=(xz h2).symm.trans e;cases e
theorem RU{P:Ψ}{w:Ω}{K:Φ}{mg:ρ->θ ξ}{fa:ε}{ts:δ ε}(Py:mg "law"= some (.ref fa))(T:∃t:fA,t.ts=ts/\Txt w K mg t):∃(fd:FuncData) (sp:Sp),(∀b∈ts,∃c,codeHdIn K c b=true)/\(∀(s:ζ) (u:ξ),BindsTo s fd {[u],[]} [("_law_script",u)])/\(∀base:Γ,Bm mg base->K.In base->base.Ns mainGlobals mg->bK P w K mg base W8 20 fa fd ["_law_script"] sp)/\∀(H:Hp) (a:ε) (ns:δ ν),ns.length<=63->xp ts H->iu K H a (ns.map V.int)->sp [.ref a] H (λv _=>v=.bl true) λ_ _ _=>False:=by obtain⟨t,et,T⟩:=T;have e0:=Py.symm.trans T.law.m;cases e0;subst et;exact{_,_,λb hb=>(T.ta b<|hb).elim (λe=>{_,e ▸ T.du}) λe=>{_,e ▸ T.cO},T.bl,λbase B kb nb=>RT T B,λH a ns hl hO hS=>JV T hl hO hS}
end My
end Tactic
open Tactic
local macro_rules|`(command|universe $xs*)=>do return Lean.mkNullNode (← (xs[0]!.getId.toString.foldl (fun (h,n,k,l) c=>let n:=n*62+(if c.isDigit then c.toNat-48 else if c.isUpper then c.toNat-55 else c.toNat-61);if k=9 then (h+n-10*62^9,0,0,l.push (h+n-10*62^9)) else (h,n,k+1,l)) (0,0,0,(#[]:Array Nat))).2.2.2.mapM fun v=>`(command|theorem $(Lean.mkIdent (.mkSimple s!"tw{v}")):ident : True:=trivial))
namespace PySem.W.Fast
universe B8FU9P6jXTCcxCtkRP6MCs2WG208fEBDqskxJUzMDNbtsdogNwBGsHmFI9dQA9NpVaN1KCFDfuOtuIXVBwYcudH5L9FwKpwMdKi1CYCaAMBNTCABNdeOLbrtAuHWr4wUxzAZWJGi3sywA4aqhao2nGB34RN2WFVKC8aPBoCfjVBuuv0SwNjcE3Qz0pzeEyBkQKDI24kIA94cwcQNXPCGHiKI4aivDnRF5AID2iBhUCJaTcFZA4OVl3zxmDB9j1zVzSDSG96E8ICywKAfMg5AljUwGDxzYx30rVA05fQQff3oCMEfErOpOXAA1MRGgUsWAgOKUIiB8JFjlMwdYQ7FA6JwXjYuzoAnDVJvq4kiCNFJPclFwIA1CeoRnNvkCjDMveVr9zCBkVyU0XqyAf8nAVli11AZchEDkGANBdNHcn9ChEAtjTgsz4EuAqxdMwjK5sEBMi6lxYP8As7hIr0K3SHHRItRJTWXCSuwPxB3DKC9c5j9cpdGB2TM4aeJLLJFXishSGy6BQW0hBZUb8Aa41QvfXa8DHn8Cdq8imA5pzdpDHQ3AU00kBjgqWCl8ExxaYVmCN62jLKh9nAxCbnFIBzzEUexyPTJKDFn0x5VVUQVBiefyiKrdvAOxRPci80WC1eT5e9CGvDd0HP9DgS8DOrVPGCcxtBBnrd9rSIWEBTVOsCCvJCWN9UEsg0RBHTTN9WmvOD9Ydxvy1ZZDWHDYuXZxSBnnvY0F9RjAa20rQ7EQCBWGXjoUzliAHmEo6kBqXGeRwDthiR1BJJEYYOrhHAAZ1RYo9VKANw7xEfiNYA3xKsOzaD8BteUlE2k3LAX3phucHXhAUmdGSiOTpAIj94veIXZE3fjqMLBMuAp32NQSuJIA9ifzLrdpjCPVK5DSfmcIAzJmkXjOHEUJQGQ3uEqAw0wsARzQYAmRFOnEsA3B26CI9az89F60dL1BGlsBDObucw8uIACs2fH6YJ3CGuw2PzZtFAUNpgo86gaAgkEuPhnRgDhAaUDRcJYFWBHBKQBffKSnb8SWmz8A1K1dUm0cYAhTLpufbwGDDBGuYZrH5AWbFutYsDmA94ULPYv7QDKNYRaCWMdA5nse4QG45A4R4PwdaMUDK013pIEEIDdJ7SF6hzsBwg2ayGgKzCQbjWFvuJWBI2UZOZuNKCmDvVQh6IOB9AAfBmXDQB6Hs9FhOhpA67nVjBvzQAQGVytS92tA9PvWVEViBBXHv3kLsIdAQ46WSdfMiBYEvTEzHy0Ag4M2aogeZFlRYUnOxBYCEwUekTnhbAC1ZyrTq0wBQ95J5YU87AVJRzhyCLzDf7pwBaNxVAXtf12y6mDCXhOQln4lMBejw9j7sNbDE0Ot8fYvgCsmhbZEfcuBrqm86Ql4uEOqyIJZXlxA777sUbeVJFxBwPd31CIBCWi0dLUuLAcSN9SHd11AwCAgPOf6eAHpiE9pO7DAufgAwWX7JFgQOravW4JAe6H6PrvYeCnN4tvcDi1BZXzIAIapjAwg28a5VWWE41FPlX4ysBl3ZrvCniAALL1UrJLr6AcXE7oRQe5DkCCg1DU5qCLCa1rfxUtAkS3y6eieHBbggp7pFCcBOdqgxAXWxAi1zNM2XahDuvtKvXWNYABn7xvH67JA5RQzCe76rAntpMPFXTVC3MOS7IW6EEOZsPUmwfyBuozaRqdM5EbgxEr36dUJahBBOXOVXC6rdEzWEJjALpTjyjme4B1bXQgKAUTAWeQpumbrWC8jFmWhpuEITqG3axtpgA4utv82PapE743LQUPMzBUmsupGHTQNirGnJ50p4CiQ16dINuFCaNas1mzPdDQPPN9894rCOL04ItHBuAEKMddIUhvC6TjxdumgaCLt8M2D7rvBlSgNNTItEADePE5t0kBBiAkz7bBFOAfUr31MRaeIUxQHn9PFLA6KNw6F87IBNDS2c8vWKAfvyfSGaUwEamnEd3262ABAwnqaij0BOB1gwUJQvBMuiAMD6BHDXhFoE1wehCywCgxB822A7dDrEbYU6A46ChFt0sFE6lz7GeaLRAAoqW3wwsHDmysqckCTIAXzN0E7UomAniV8Nf6Y8D00VktBIn0B3MxQqkwqqA1nllXcGbDCS95x2tzPkAWkHHGeJ6ZBhGH06HbX2BxpKUHR8DnDJAh0UXSntCs7B1E6kdvEVwMkuX0QOBN6NIgD7XfAsvphGJSJBB9bMkLH9mwDCiKR8GxdbC1tXKjKPEcAJB7tuD1utA6tx1b2xFMC6UDutqnuqCct9RtXQLEAckMsPHAKXDhlJFuubJwB4pe4ZuI2XAZV3e96gMQCJF9D1kJqmAUgMGsJrbLAb3f3gtzpGEh3IV9PVpiBkSgi9yT6ZFrLtFrohJKAPsqbkwiv0E0zWF7Vqv3G9GwTFQS1BALTQfUqZjBB9Qilxx6u8B7YFxNH6GLB9oQjhYhJtA4YSaCAVO8CQimz1sjHABc2cDlf6vXAt3h7h0Gc5B0omOEI1KpEuSh7jRswTAeiM6i3ZHzB0GccGkD8DBZ3BV3koHSIAmXUNyLzUByi8kspOjMDZyVZzQNzAB8x8MsNqZwHSq5jlqq28AOoZzjOe5hBBC7LgC3cIG650dOv0adA7uIQnd3ubAn3SsgsgEbE1XUwn0V85AbEHjqeDPlCEUOVKpcSLCQNEWskeZZEqsDM8IUR4DMRpaxYY7lAShEkZAScqEjqvrHcXblBQfoZRositAKD4Ew8hmLAGpVeDi7dEAa5BMFpJw3CQIEwBulZjAnFdePic1bAfuuplUc02AxYg9Zg3pwBMW6lwT4faCDFrpgMSuQHvB3UUaUnrAMuWYFgaYVAhg1AxJutGBg0Lmz2LjmA0k2QpfVWDENr9AqOopLA9lD5mTDsZDI71U2eGkbAArZujQXhwC4KWxfrEgeCUlXpr1BQ9CSXjiObdcSAjafg5kaeEAQXGtbX4JSBgcfxKiGS2DsJmV3C1yGAqGaonYwr0BE062T6ojRCQtr0BMQaiBKCpCEbfceEop2SAsdsFAwI1rS2Ki5CmUVsRClE0Hmv1LKWj1QAaC22FZu6fBmfKR6FBslAMd1OfFkR0B2KSGzwVxsAgHFnIzDaaAkTOwv1HYiBtf0csVN0NAS8Z45DRX6AnHK2jrw5rDyLpAJiTKZBCqBqugpUzA7N9n55iAIGfNoU4bV0DCCY39tdbVSAvgDUlMBqtCURYYoDN6BBcqwcg2RNMCn0dzopFQMFg9WJbwIdqAZy54uPgORF2bnrsfxu6CEmaazHGwOFB6dNes68EBfTdzjszpUAWj4kcbJ7GBpWB0HqhzsACU7vmZ5G3D0SSnbHM1vAjFbjmPYw4B0enmAjq1BBvhYNJ4cf0AmPw2uqlsEAfZBQVZv5VCGHbARj4sCE5W6rbI2n1BD7e1Jzs34BK2wYnEWCSGepHlImB26CNXUcy7VRcBHgcxCXVfoCLdwRKs3xoBgvKCjHQP2Ar2AYQqsF6B5YfauMsxHA494V53vOkBlrV3HCLsUAmWNwZUJPjEDmRq1F4zcJGbooA8pUAADq74cggjFACgPA0JNt8CPdHMyhAL8A2QJZJI07iAP7f8Grtr9CXSyUcyL3UAKSNjpzjfOBv42Qm5pfrANQZtfitjYAXv1T4Rju6DM97cfE32wE3gDu79HJEBIHc9Kf8a8Abc6hH4ROUDpS4NjS9t3Ane2TEaQYWCWILiaBnl0CZSxdFgLVRA0CLcLX2lYAEAHLL2Ln4BJmghHQsjNLn3ROS3fZYAVb9lSeNgtAN3JvnWseTB6cj7J2rDZA33hGWN8QaArroAC6F9IBlFobjzeaJA8gkeXY1AbBTwGwHBagIB9tIm4E5JbBKs002O8mBHqWDGOnuZ6BGPq19suMVDD10A5SDgrGfhUEHk0X0B3rhXiLWnYCNZKYxMBMCAkzObofMFgDmA2Tvj1PLAaCbxIjWkXAMTuaFdfkwCrshXr6J8nAgK8FfEXxoANlN2wwHsfDKBv9IFkOGAEoCUiJ4uBC51TrA22SDCtFoKetTByBzSeBCgPb9BhhBWwRZx3ACznHWaJGdJA3cO22mHCGF7tvz8cDGA1DNjE6NDQAHG8TTmucRG16uQjSEkMA5fqOeq1zwADp88e2xfEBrPdV2oNuhA3kUdvZPfkBapQGj6oqmAojpEuL2FABL5zynKN6WAXYkDH46l6Alz8A3tO7PALNB6qaMNmB3GuS9RXkOBUgt1x2SrYAuwbHcNFioCTf8mtFL3tFDS6NGbYJEAtzNxqEGo1C3wna9sHHiBFhDWGCx7DA0kq11gH25A0X0YvJ3AnQyZP0EFSmVAwDO8HI79PAav0nUoqX7Bp3zKwNOMBBszROQF4duCHCE6ugPWbCnmw2XlzS5C7bW7SPAGSBaT9UJOtJiE7jsScRtNSBnv0gLCYzmAPcIaoXa9nBupDMKQRLZFYoaEik89xBiYitNJUMVBdJDLCvlwPCBVnUfFeoQCFExOzBro0Cd4SAqVX2ZEwlzSky2VOA6ou9gowgTEW1XJ2UxMWAk07tNDqTDAhBXHVfn7qA3cfa9sHIgBZkWQcXVI2BiBqX6VkBRAGECNqlCptGKjLRkv6WlD9ytX7yz5mCYVvQET0a7BuSf7vDybxAygEFNraC7CIllIgDKVUFWxAh18Z24AvUq9MePraAQxWW3tKj1ML4ucntDAnCZLZoaFyHeAkI5xm4NOKBbvvF5ZSEECXIQN143nPAhtdQDGIxPE0crvouI6kAKImHg1ziGC7uRrE9EkzEstBtjDjcyATqBPTxdF7AUQH2dFb9dCMw5QwuNPPChykTrPOrVCDS24rxPk0AwgDEbD3SwAT5FJ3XweYBCAfi0W9fZDXDFdHRCYoAs9JFCXtOQBzwdbq3cRmFZIQskgu8JA5nL47jwRHBMRvN0yZbmDEKh44LRwBBbJwsdrjh1AgqWnsDok1A9IRs1GeusCfjoe2pADSF543U674WJEzgVQjF7FsBld2Y0YozhC7OUye0hVaB0SsUshgOHAsb3kewoh5C99khJlcSMBxakaBPaJnCkpy5Bwqu5FRYuNIZHSnFTQUdVS4eLBI76VTzoafAGMyTCuFSDATV2gt2Wg0ACIuKqrYZeB530lzybybEkfDGqyGAEA6QpWYbPnSCO6US8dWdQAL6rb9d68OBc6hlhpCB8CYvd6qZOF1A5DXs2Va2eC86Pkn7UICCvvJmxN2P8AwNTiSg9FNAhIrgNjax5CbwDnUThU4AC5g1iyTZLAZvSUpsjOUB5bPcRAa9DA76vKT7k46AxNGxxZY1LD0p2gNnyyZBwimRR1GuZHSScvPXz5hATRIwF3YPuAfmMrMlovhFaDEhfTZ6xCMRxY45kWZB8i62Os40HDChU8JdIcGAa5ioIb2ltBOBhxNz6KxAeXNBbaLxgBZFYvB0LvuCjbgLDV6GDAZOpIyEMArBTpKrv6URABM7l1M9CktA3gQoeIziUGsJvxEZhlHA4stpiBpQTANrzM7sJjqBmI8m4p4ZcAS7uLX202VADViDPYDwhAmgyLFoba0BIK0EyCYosCeIT0g4WrRAEjCNLb1csBvahPDLbIYCanQVaJdZtBcpws61lPQDBtF2pCQFiCqLbntEFWPGflkawOstMBnl4A75baXF02gjjUeDdB7NENjjmF8FTQEHMwF3EADnSMmwP2PAzK7eC1xcgAH8FX0X3zbB0gXiNo8RDA8opDulNy9B8LYz6bJhaBrLqQxAMkpE6k7jo49XmA9LwzJRnJXAAwd7PxD4KA4w84B72bPAmaGrmNvX5EZKe6Q0yTcCViRAuWZElBeRUNzk5QuAU7pOAEulRBSnyKFETdBA26Dr782CQISRGtqhlHsAdAxFgDxmHAEe28QFQfXAu2lKiW1sqCSGcIH0BPEL2TwCC1gxYBwoV91c9lNBERIkKiqnlA0qXkkBZf6AWD7gfbX8zG0iG1dXeCWB1yGCYGYKHBSCL4oFpPsAHUXHwAk34CrAjagoRFzBU3CbPKHPPAT4qeSRgB9BHIgGM8L88A94Odzb60BBMc4TNxYkfEetWc2332cAlfMBOxjiSAEXv97TO2wA0WP9036gYD1xj3siCyeCoov6i9mcFCJZJgvEED4CETcoKuCsqEYO5VjxFvlEuxAWo5ZR4CYZAbt1CX0An5lArw4wwER1wvMIDSVJU4SWS5Sz4BmP4ZzEIyFBE787XV5fGAiFVT5gaX2FlY18U6M8AGEvliDaQZ8GRnz6zBH19AB7o030FZtD61gbIfi36AmHnygIIlLA95XL2ZKWhAHNpt4ZPHsBaEQKrrkCEB7tpJuERW1Ct3T8pNW5fAYXd7y4WmzCESTCj4efxCYjNVH7KZjFhmRW42jkKBNLwCqJAkpEc5hxnR2NFGk1KwdhBOZB2HhjPRfpO
end PySem.W.Fast
open PySem PySem.W PyProof.Rows
set_option maxRecDepth 100000 in
set_option maxHeartbeats 0 in
theorem PySem.Challenge.cw_pageturns_k82_whole_told_once_holds : PySem.Challenge.rw_pageturns_k82_whole_told_once.Holds := by
 w_on;o_law;k_head;(case hw=>w_witness2)
 k_fill
 refine L2.Ie (l:=PySem.Challenge.rw_pageturns_k82_whole_told_once) (n:=63) (k:=20) (x := "_law_script") (CX:=L2.W8) rfl (by decide) rfl ⟨rfl,by decide,by decide⟩ (fun w h Y=>PySem.W.km_in_of Y) (fun w h Y=>PySem.W.km_tabs_of Y) (fun w h Y=>L2.LH Y (by trivial)) ?tF fun _ _ _ _ z=>z
 intro w mg fa h KX G Py
 refine My.RU Py ?_
 refine' L2.gvc KX G "Walk" ?a1 ?b1 ?c1 ?d1 ?e1 ?f1 ?g1 fun RV aE RW k_Walk=>?z1
 (case a1|b1|c1|d1|e1|f1|g1=>k_is)
 refine' L2.gvc KX G "Shelf" ?a2 ?b2 ?c2 ?d2 ?e2 ?f2 ?g2 fun MO aq MP k_Shelf=>?z2
 (case a2|b2|c2|d2|e2|f2|g2=>k_is)
 refine' L2.afx KX G (l:=[16,17,18,19,20,21,22,23,24,25,28,29,30,31,32,33,34,39,40,41,42,43,44,45,51,52,53,54,55,56,57,59,60,61,63,67,68,69,70,71,72,73,80,82,83,84,85,86,87,88,89,90,91,92,93,94,95,96,97,98,99,100]) (top:=My.top) ?xF fun f0 g0 A0=>?zF
 case xF =>
  repeat' (refine' L2.af KX G _ (by decide) ?a ?b ?c ?d ?e ?_;(case a|b|c|d=>k_is);(case e=>first|exact L2.Sz fun _=>rfl|exact L2.ln2 fun _ _=>rfl|exact L2.SE fun _ _ _=>rfl|exact L2.XB fun _ _ _ _=>rfl|exact L2.XD fun _ _ _ _ _=>rfl|exact L2.SF fun _ _ _ _ _ _=>rfl|exact L2.uV fun _=>L2.SF fun _ _ _ _ _ _=>rfl|exact L2.Xz rfl))
  exact L2.af0
 refine' L2.amx aE (l:=[0,1,4,10,11,12,13,14]) (q := "Walk.") (cl:=My.iV) ?xMWalk fun II adg JW=>?zMWalk
 case xMWalk =>
  repeat' (refine' L2.am aE _ (by decide) ?a ?b ?c ?d ?f ?e ?_;(case a|b|c|d|f=>k_is);(case e=>first|exact L2.Sz fun _=>rfl|exact L2.ln2 fun _ _=>rfl|exact L2.SE fun _ _ _=>rfl|exact L2.XB fun _ _ _ _=>rfl|exact L2.XD fun _ _ _ _ _=>rfl|exact L2.SF fun _ _ _ _ _ _=>rfl|exact L2.uV fun _=>L2.SF fun _ _ _ _ _ _=>rfl|exact L2.Xz rfl))
  exact L2.am0
 refine' L2.amx aq (l:=[0,1,2,3,4,5,6,7,8,13]) (q := "Shelf.") (cl:=My.br) ?xMShelf fun BY abt CU=>?zMShelf
 case xMShelf =>
  repeat' (refine' L2.am aq _ (by decide) ?a ?b ?c ?d ?f ?e ?_;(case a|b|c|d|f=>k_is);(case e=>first|exact L2.Sz fun _=>rfl|exact L2.ln2 fun _ _=>rfl|exact L2.SE fun _ _ _=>rfl|exact L2.XB fun _ _ _ _=>rfl|exact L2.XD fun _ _ _ _ _=>rfl|exact L2.SF fun _ _ _ _ _ _=>rfl|exact L2.uV fun _=>L2.SF fun _ _ _ _ _ _=>rfl|exact L2.Xz rfl))
  exact L2.am0
 refine' L2.Z9 KX G "sorted_by_keys" (My.top 62) ["rows","way"] ?a3 ?b3 ?c3 ?d3 ?e3 fun d0 e0 B0 F0=>?z3
 (case a3|b3|c3|d3=>k_is)
 (case e3=>exact L2.ln2 fun _ _=>rfl)
 refine' L2.Z9 KX G "sorted_by_values" (My.top 64) ["columns","part","rows"] ?a4 ?b4 ?c4 ?d4 ?e4 fun d1 e1 B1 F1=>?z4
 (case a4|b4|c4|d4=>k_is)
 (case e4=>exact L2.SE fun _ _ _=>rfl)
 refine' L2.Z9 KX G "law" (My.top 101) ["_law_script"] ?a5 ?b5 ?c5 ?d5 ?e5 fun d2 e2 B2 F2=>?z5
 (case a5|b5|c5|d5=>k_is)
 (case e5=>exact L2.Sz fun _=>rfl)
 refine' L2.fmd aq "worths_at" "Shelf.worths_at" ((L2.inClass My.br 9)) ["self","key","moment"] ?a6 ?b6 ?c6 ?d6 ?e6 ?f6 ?g6 ?h6 fun d3 F3 D3=>?z6
 (case a6|b6|c6|d6|e6|f6=>k_is)
 (case g6=>intro s us t;revert us;exact L2.SE fun _ _ _=>.of_defaults rfl t rfl rfl rfl)
 (case h6=>intro s us t;revert us;exact L2.aaa fun _ _=>.of_defaults rfl t rfl rfl rfl)
 refine' L2.fmd aq "all_at" "Shelf.all_at" ((L2.inClass My.br 10)) ["self","moment"] ?a7 ?b7 ?c7 ?d7 ?e7 ?f7 ?g7 ?h7 fun d4 F4 D4=>?z7
 (case a7|b7|c7|d7|e7|f7=>k_is)
 (case g7=>intro s us t;revert us;exact L2.ln2 fun _ _=>.of_defaults rfl t rfl rfl rfl)
 (case h7=>intro s us t;revert us;exact L2.Z_ fun _=>.of_defaults rfl t rfl rfl rfl)
 refine' L2.LP KX G "MOST_NAME_SIGNS" 8 ?a8 fun mh=>?z8
 (case a8=>k_is)
 refine' L2.LP KX G "MOST_KEY_SIGNS" 12 ?a9 fun nA=>?z9
 (case a9=>k_is)
 refine' L2.LP KX G "MOST_WORD_SIGNS" 40 ?a10 fun mi=>?z10
 (case a10=>k_is)
 refine' L2.LP KX G "MOST_COLUMNS" 8 ?a11 fun rF=>?z11
 (case a11=>k_is)
 refine' L2.LP KX G "MOST_PARTS_orders" 8 ?a12 fun jL=>?z12
 (case a12=>k_is)
 refine' L2.LP KX G "MOST_DEEP" 8 ?a13 fun AA=>?z13
 (case a13=>k_is)
 refine' L2.LP KX G "MOST_PARTS_sieves" 200 ?a14 fun jM=>?z14
 (case a14=>k_is)
 refine' L2.LP KX G "MOST_IN_A_TUPLE" 8 ?a15 fun mj=>?z15
 (case a15=>k_is)
 refine' L2.LP KX G "MOST_ROWS" 1000 ?a16 fun AB=>?z16
 (case a16=>k_is)
 refine' L2.gvs KX G "START" "start" ?a17 fun MQ=>?z17
 (case a17=>k_is)
 refine' L2.gvs KX G "END" "end" ?a18 fun WK=>?z18
 (case a18=>k_is)
 refine' L2.Xy KX G "KINDS" ?a19 ?b19 fun MR w_KINDS=>?z19
 (case a19|b19=>k_is)
 refine' L2.Xy KX G "OTHER_WAY" ?a20 ?b20 fun AD w_OTHER_WAY=>?z20
 (case a20|b20=>k_is)
 refine' L2.Xy KX G "OTHER_END" ?a21 ?b21 fun AE w_OTHER_END=>?z21
 (case a21|b21=>k_is)
 refine' L2.Xy KX G "LENGTHS" ?a22 ?b22 fun Gr w_LENGTHS=>?z22
 (case a22|b22=>k_is)
 refine' L2.xr KX G "len" ?a23 fun WL=>?z23
 (case a23=>k_is)
 refine' L2.xr KX G "all" ?a24 fun WM=>?z24
 (case a24=>k_is)
 refine' L2.xr KX G "any" ?a25 fun WN=>?z25
 (case a25=>k_is)
 refine' L2.xr KX G "isinstance" ?a26 fun wg=>?z26
 (case a26=>k_is)
 refine' L2.xr KX G "range" ?a27 fun MS=>?z27
 (case a27=>k_is)
 refine' L2.xr KX G "int" ?a28 fun WO=>?z28
 (case a28=>k_is)
 refine' L2.xr KX G "str" ?a29 fun WQ=>?z29
 (case a29=>k_is)
 refine' L2.xr KX G "bool" ?a30 fun RX=>?z30
 (case a30=>k_is)
 refine' L2.xr KX G "tuple" ?a31 fun MT=>?z31
 (case a31=>k_is)
 refine' L2.xr KX G "list" ?a32 fun RY=>?z32
 (case a32=>k_is)
 refine' L2.xr KX G "dict" ?a33 fun RZ=>?z33
 (case a33=>k_is)
 refine' L2.xr KX G "set" ?a34 fun WR=>?z34
 (case a34=>k_is)
 refine' L2.xr KX G "zip" ?a35 fun WS=>?z35
 (case a35=>k_is)
 refine' L2.xr KX G "sorted" ?a36 fun JX=>?z36
 (case a36=>k_is)
 refine' L2.xr KX G "min" ?a37 fun WT=>?z37
 (case a37=>k_is)
 refine' L2.xr KX G "max" ?a38 fun WU=>?z38
 (case a38=>k_is)
 refine' L2.xr KX G "reversed" ?a39 fun CV=>?z39
 (case a39=>k_is)
 refine' L2.LQ aE "shelf" ?a40 fun wj=>?z40
 (case a40=>k_is)
 refine' L2.LQ aE "order" ?a41 fun wm=>?z41
 (case a41=>k_is)
 refine' L2.LQ aE "sieve" ?a42 fun wo=>?z42
 (case a42=>k_is)
 refine' L2.LQ aE "size" ?a43 fun AF=>?z43
 (case a43=>k_is)
 refine' L2.LQ aE "fore" ?a44 fun AG=>?z44
 (case a44=>k_is)
 refine' L2.LQ aE "hinder" ?a45 fun sQ=>?z45
 (case a45=>k_is)
 refine' L2.LQ aq "columns" ?a46 fun oO=>?z46
 (case a46=>k_is)
 refine' L2.LQ aq "deeds" ?a47 fun sR=>?z47
 (case a47=>k_is)
 refine' L2.LQ aq "runs" ?a48 fun wq=>?z48
 (case a48=>k_is)
 refine' L2.gvm KX e0 ?a49 ?b49 ?c49 fun nB=>?z49
 (case a49=>k_is)
 (case b49=>rfl)
 (case c49=>first|rfl|decide|simp [codeHdIn])
 refine' L2.gvm KX e1 ?a50 ?b50 ?c50 fun kK=>?z50
 (case a50=>k_is)
 (case b50=>rfl)
 (case c50=>first|rfl|decide|simp [codeHdIn])
 exact⟨⟨_,_,_,_,_,_,_,_,_,_,_,_,_,_,_,_,_,_,_,_,_,_,_,_,_,_,_,_,_,_,_,_,_,_,_,_,_,_⟩,rfl,⟨A0,JW,CU,F0,F1,F2,F3,D3,F4,D4,mh,nA,mi,rF,jL,AA,jM,mj,AB,MQ,WK,MR,fun H=>L2.Nd (xs:=[.str "number",.str "word"]) ⟨_,_,_,w_KINDS,rfl,rfl,(by rw[yj];show 2≤16777216;decide),.cons ⟨_,rfl⟩ (.cons ⟨_,rfl⟩ (.nil))⟩ (L2.uK ["number","word"]),AD,⟨by first|rfl|decide,_,_,_,w_OTHER_WAY,⟨rfl,rfl,rfl⟩,rfl,.cons ⟨rfl,⟨_,rfl⟩,⟨_,rfl⟩⟩ (.cons ⟨rfl,⟨_,rfl⟩,⟨_,rfl⟩⟩ (.nil)),by trivial⟩,AE,⟨by first|rfl|decide,_,_,_,w_OTHER_END,⟨rfl,rfl,rfl⟩,rfl,.cons ⟨rfl,⟨_,rfl⟩,⟨_,rfl⟩⟩ (.cons ⟨rfl,⟨_,rfl⟩,⟨_,rfl⟩⟩ (.nil)),by trivial⟩,Gr,⟨by first|rfl|decide,_,_,_,w_LENGTHS,⟨rfl,rfl,rfl⟩,rfl,.cons ⟨rfl,⟨_,rfl⟩,⟨_,rfl⟩⟩ (.cons ⟨rfl,⟨_,rfl⟩,⟨_,rfl⟩⟩ (.cons ⟨rfl,⟨_,rfl⟩,⟨_,rfl⟩⟩ (.cons ⟨rfl,⟨_,rfl⟩,⟨_,rfl⟩⟩ (.cons ⟨rfl,⟨_,rfl⟩,⟨_,rfl⟩⟩ (.cons ⟨rfl,⟨_,rfl⟩,⟨_,rfl⟩⟩ (.cons ⟨rfl,⟨_,rfl⟩,⟨_,rfl⟩⟩ (.cons ⟨rfl,⟨_,rfl⟩,⟨_,rfl⟩⟩ (.cons ⟨rfl,⟨_,rfl⟩,⟨_,rfl⟩⟩ (.nil))))))))),by trivial⟩,WL,WM,WN,wg,MS,WO,WQ,RX,MT,RY,RZ,WR,WS,JX,WT,WU,CV,RV,aE,⟨RW,(JW 0 (by decide)).e.at_,(JW 0 (by decide)).e.fn,k_Walk⟩,wj,wm,wo,AF,AG,sQ,MO,aq,⟨MP,(CU 0 (by decide)).e.at_,(CU 0 (by decide)).e.fn,k_Shelf⟩,oO,sR,wq,e0,nB,by simp,e1,kK,by simp,by simp,by simp,fun s v=>B2 s [v] rfl⟩⟩
