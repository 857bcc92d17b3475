import PyProof.Rows.All
import Wide.All
import OpenK.AllK
import Wide.FinOn
import Lean
import PyProof.EqAt
import PyProof.EqKinds
import PyProof.TupleCall
import PyProof.NsDelKeeps
import KE.KIsBytes
import PyProof.Rows.SetFrom
import KE.KDictOf
import PyProof.AttrMissSeq
import PyProof.WalksMore
import PyProof.ZipIter
import PyProof.StrBlock2
import PyProof.StrBlockI
import PyProof.Rows.StrJoin2
import PyProof.Rows.CountFlat
import PyProof.Rows.Range3
import PyProof.SumWalkG
import PyProof.Rows.ListMulArg
import PyProof.FactsAll.tuple
import PyProof.EnumFor
import PyProof.EnumMake
import KE.KDictLaws
import KE.KDictSum
import KE.KRevIter
import PyProof.Rows.SortStr
import PyProof.Rows.SortWalk
import PyProof.AutoListH
import PyProof.StrLawsReplace
import PyProof.Rows.SortShellK
import KE.KLam
import KE.KSortKey
import KE.KNestM
import PyProof.EnumStmt
import PyProof.ListMulRoad
import PySem.Challenge.RW_pageturns_k41_walks
set_option compiler.extract_closed false
set_option hygiene false in
local macro_rules|`(tactic|obtain $p:rcasesPatMed)=>`(tactic|(rintro _ _ _ _ _ _ _ S R Z hr ($p:rcasesPatMed);subst e))
set_option hygiene false in
local macro_rules|`(tactic|obtain $p:rcasesPatMed:$t)=>`(tactic|(refine $t ?_;rintro _ _ _ _ _ _ _ S R Z hr ($p:rcasesPatMed);subst e;have hu:=hr.u))
local macro_rules|`(tactic| trivial)=>`(tactic| decide +kernel)
set_option Elab.async false
set_option linter.all false
set_option maxRecDepth 100000
set_option genInjectivity false
set_option genSizeOfSpec false
namespace Tactic
section
open PySem
abbrev dL:=List Value
abbrev ii:=Array Value
abbrev im:=List Addr
abbrev io:=List (Addr×Obj)
abbrev jp:=List Env
abbrev j4:=List Str
abbrev li:=Value->Shared->Prop
abbrev mt:=List Expr
abbrev pc:=List Stmt
abbrev pe:=List (Str×Value)
abbrev pi:=Option Addr
abbrev pp:=Option Expr
abbrev re:=Option Int
abbrev rp:=List Keyword
abbrev sB:=List Int
abbrev sK:=Array (Option Value)
abbrev tt:=List (Str×Addr)
abbrev ul:=List (Option Nat)
abbrev ut:=List Bool
abbrev u8:=List PyData
abbrev wp:=List Nat
abbrev ww:=List (Str×Str)
end
theorem qQQ(h:True:=by rfl):True:=h
def qQJ:Lean.Syntax:=qQQ._auto_1
theorem qQX(h:True:=by decide):True:=h
def qQZ:Lean.Syntax:=qQX._auto_1
theorem qQK(h:True:=by intro _;rfl):True:=h
def qQ0:Lean.Syntax:=qQK._auto_1
theorem qQ1(h:True:=by exact⟨rfl,rfl,rfl,rfl⟩):True:=h
def qQ2:Lean.Syntax:=qQ1._auto_1
theorem qQ3(h:True:=by with_unfolding_all rfl):True:=h
def qQ4:Lean.Syntax:=qQ3._auto_1
theorem qQ5(h:True:=by trivial):True:=h
def qQ6:Lean.Syntax:=qQ5._auto_1
theorem qQ7(h:True:=by first|exact .inl rfl|exact .inr rfl|assumption):True:=h
def qQ8:Lean.Syntax:=qQ7._auto_1
theorem qQ9(h:True:=by first|exact .inl rfl|exact .inr rfl):True:=h
def qJQ:Lean.Syntax:=qQ9._auto_1
theorem qJJ(h:True:=by intro _ _ _ _ _;exact{Or.inl rfl,rfl}):True:=h
def qJX:Lean.Syntax:=qJJ._auto_1
theorem qJZ(h:True:=by first|decide|omega):True:=h
def qJK:Lean.Syntax:=qJZ._auto_1
theorem qJ0(h:True:=by exact λ_ _=>rfl):True:=h
def qJ1:Lean.Syntax:=qJ0._auto_1
theorem qJ2(h:True:=by first|exact Or.inl rfl|exact Or.inr rfl):True:=h
def qJ3:Lean.Syntax:=qJ2._auto_1
theorem qJ4(h:True:=by intro _ _ _ _ _;rfl):True:=h
def qJ5:Lean.Syntax:=qJ4._auto_1
theorem qJ6(h:True:=by exact{by trivial,rfl,rfl,λ_ _ _ _ _=>{Or.inl rfl,rfl}}):True:=h
def qJ7:Lean.Syntax:=qJ6._auto_1
local macro_rules|`({$a:term})=>`(⟨$a⟩)|`({$a:term,$b:term,*})=>`(⟨$a,$b,*⟩)
local macro_rules|`(!$t)=>do{let mut t:=t;let mut n:=1;for _ in [0:20] do{if let `(!$u):=t then{t:=u;n:=n+1}};let xs←(match t with|`(⟨$x,*⟩)=>pure x.getElems|`({$x:term,$y:term,*})=>pure (#[x]++y.getElems)|_=>Lean.Macro.throwUnsupported);let mut a:=xs;for _ in [0:n] do{a:=#[←`(_),←`(rfl)]++a};`(⟨$a,*⟩)}
open PySem.W (instObj methodObj hideAll hideAll_get of_hideAll Frag lookIn plainGet hasDictIn findIn handedIn plainGet_of isFn plainOver takerIn makesIn emptyDict specialIn keepIn mroIn kitOne kia_one kitx_list fnOf codeIn excIn callWith_K methodCall_KW envX kla_fn codeHdIn tabObj codeHd_of_K nsIn mg_of)
theorem za:type_of%@PySem.Heap.get?_push_of_some:=@PySem.Heap.get?_push_of_some
theorem zb:type_of%@List.length_map:=@List.length_map
theorem zc:type_of%@PySem.wpAny_bind:=@PySem.wpAny_bind
theorem zd:type_of%@Bool.false_ne_true:=@Bool.false_ne_true
theorem ze:type_of%@List.getElem?_eq_some_iff:=@List.getElem?_eq_some_iff
theorem zf:type_of%@List.mem_cons_of_mem:=@List.mem_cons_of_mem
theorem zg:type_of%@List.getElem?_eq_getElem:=@List.getElem?_eq_getElem
theorem zh:type_of%@List.mem_map:=@List.mem_map
theorem zi:type_of%@List.mem_cons:=@List.mem_cons
theorem zj:type_of%@List.mem_cons_self:=@List.mem_cons_self
theorem zk:type_of%@PySem.Heap.get?_push_size:=@PySem.Heap.get?_push_size
theorem zm:type_of%@List.getElem?_map:=@List.getElem?_map
theorem zo:type_of%@List.size_toArray:=@List.size_toArray
theorem zp:type_of%@Nat.lt_of_lt_of_le:=@Nat.lt_of_lt_of_le
theorem zq:type_of%@List.map_map:=@List.map_map
theorem zr:type_of%@Nat.le_refl:=@Nat.le_refl
theorem zt:type_of%@List.map_cons:=@List.map_cons
theorem zu:type_of%@decide_eq_true:=@decide_eq_true
theorem zw:type_of%@PySem.Heap.lt_size:=@PySem.Heap.lt_size
theorem zx:type_of%@decide_eq_false:=@decide_eq_false
theorem zy:type_of%@PySem.wpAny_pure:=@PySem.wpAny_pure
theorem zA:type_of%@Bool.and_eq_true:=@Bool.and_eq_true
theorem zB:type_of%@List.getD_eq_getElem?_getD:=@List.getD_eq_getElem?_getD
theorem zC:type_of%@of_decide_eq_true:=@of_decide_eq_true
theorem zD:type_of%@Nat.ne_of_lt:=@Nat.ne_of_lt
theorem zE:type_of%@List.length_append:=@List.length_append
theorem zG:type_of%@List.mem_of_getElem?:=@List.mem_of_getElem?
theorem zH:type_of%@List.not_mem_nil:=@List.not_mem_nil
theorem zI:type_of%@Nat.le_trans:=@Nat.le_trans
theorem zJ:type_of%@List.mem_append_right:=@List.mem_append_right
theorem zK:type_of%@List.mem_singleton:=@List.mem_singleton
theorem zL:type_of%@Int.emod_lt_of_pos:=@Int.emod_lt_of_pos
theorem zM:type_of%@PySem.F.plainAttrs_list:=@PySem.F.plainAttrs_list
theorem zN:type_of%@List.map_append:=@List.map_append
theorem zO:type_of%@Int.emod_nonneg:=@Int.emod_nonneg
theorem zP:type_of%@List.mem_append:=@List.mem_append
theorem zQ:type_of%@List.length_cons:=@List.length_cons
theorem zR:type_of%@List.all_eq_true:=@List.all_eq_true
theorem zS:type_of%@decide_eq_true_eq:=@decide_eq_true_eq
theorem zT:type_of%@Option.some.inj:=@Option.some.inj
theorem zU:type_of%@List.mem_range:=@List.mem_range
theorem zV:type_of%@List.map_congr_left:=@List.map_congr_left
theorem zW:type_of%@Bool.false_and:=@Bool.false_and
theorem zX:type_of%@List.lookup_cons:=@List.lookup_cons
theorem zY:type_of%@Nat.zero_le:=@Nat.zero_le
theorem zZ:type_of%@of_decide_eq_false:=@of_decide_eq_false
theorem z0:type_of%@PySem.F.slot_list_append:=@PySem.F.slot_list_append
theorem ya:type_of%@PySem.F.type_list_append:=@PySem.F.type_list_append
theorem yb:type_of%@List.find?_cons:=@List.find?_cons
theorem yc:type_of%@PySem.Heap.size_push:=@PySem.Heap.size_push
theorem yd:type_of%@Array.length_toList:=@Array.length_toList
theorem yf:type_of%@PySem.sizeLine_eq:=@PySem.sizeLine_eq
theorem yg:type_of%@PySem.wpAny_field:=@PySem.wpAny_field
theorem yh:type_of%@PySem.mem_of_lookup:=@PySem.mem_of_lookup
theorem yi:type_of%@List.nodup_cons:=@List.nodup_cons
theorem yj:type_of%@List.drop_eq_getElem_cons:=@List.drop_eq_getElem_cons
theorem yk:type_of%@Bool.true_and:=@Bool.true_and
theorem ym:type_of%@List.mem_append_left:=@List.mem_append_left
theorem yn:type_of%@List.mem_filter:=@List.mem_filter
theorem yo:type_of%@Bool.eq_iff_iff:=@Bool.eq_iff_iff
theorem yp:type_of%@List.length_take:=@List.length_take
theorem yq:type_of%@decide_eq_false_iff_not:=@decide_eq_false_iff_not
theorem yr:type_of%@Nat.ne_of_gt:=@Nat.ne_of_gt
theorem yt:type_of%@PySem.Heap.get?_update_other:=@PySem.Heap.get?_update_other
theorem yu:type_of%@PySem.Calls.callWith_builtin:=@PySem.Calls.callWith_builtin
theorem yw:type_of%@List.filter_cons:=@List.filter_cons
theorem yx:type_of%@PySem.wpAny_mono:=@PySem.wpAny_mono
theorem yy:type_of%@PySem.wpAny_truthy_bool:=@PySem.wpAny_truthy_bool
theorem yz:type_of%@PySem.Heap.get?_update_self:=@PySem.Heap.get?_update_self
theorem yA:type_of%@List.length_filter_le:=@List.length_filter_le
theorem yB:type_of%@PySem.F.slot_dict_get:=@PySem.F.slot_dict_get
theorem yC:type_of%@PySem.Calls.spliced_cons:=@PySem.Calls.spliced_cons
theorem yD:type_of%@PySem.Obj.data_mapFields:=@PySem.Obj.data_mapFields
theorem yE:type_of%@List.getElem?_of_mem:=@List.getElem?_of_mem
theorem yF:type_of%@Nat.lt_irrefl:=@Nat.lt_irrefl
theorem yG:type_of%@PySem.wpAny_newObj_type:=@PySem.wpAny_newObj_type
theorem yH:type_of%@PySem.Heap.SameBut.update:=@PySem.Heap.SameBut.update
theorem yI:type_of%@List.length_reverse:=@List.length_reverse
theorem yJ:type_of%@List.filter_sublist:=@List.filter_sublist
theorem yK:type_of%@List.take_length:=@List.take_length
theorem yL:type_of%@List.foldl_cons:=@List.foldl_cons
theorem yM:type_of%@Sum.inr.inj:=@Sum.inr.inj
theorem yN:type_of%@Nat.le_of_lt:=@Nat.le_of_lt
theorem yO:type_of%@PySem.wpAny_holding:=@PySem.wpAny_holding
theorem yP:type_of%@PySem.wpAny_call_entry:=@PySem.wpAny_call_entry
theorem yQ:type_of%@List.map_nil:=@List.map_nil
theorem yR:type_of%@Bool.or_eq_true:=@Bool.or_eq_true
theorem yS:type_of%@PySem.codeAny_builtin:=@PySem.codeAny_builtin
theorem yT:type_of%@List.any_cons:=@List.any_cons
theorem yU:type_of%@PySem.wpAny_setField:=@PySem.wpAny_setField
theorem yV:type_of%@Nat.le_succ:=@Nat.le_succ
theorem yW:type_of%@PySem.codeAny_mono:=@PySem.codeAny_mono
theorem yX:type_of%@PySem.Paired.length:=@PySem.Paired.length
theorem yY:type_of%@PySem.wpAny_rule:=@PySem.wpAny_rule
theorem yZ:type_of%@PySem.wpAny_of_eq:=@PySem.wpAny_of_eq
namespace L2
open PySem PySem.Spec PyProof.Rows
abbrev Key:=Sum Int Str
abbrev sn:=List (Key×Value)
def keyIs:Key->Value->Bool|.inl k,v=>Value.isInt k v|.inr x,v=>Value.isStrOf x v
def YV(w:World):Key->Int|.inl k=>hashInt k|.inr x=>hashStr w x
theorem bE:∀{k:Key}{v:Value},keyIs k v=true->(∃i t,k=Sum.inl i/\v=Value.int i t)\/(∃x t,k=Sum.inr x/\v=Value.str x t)|.inl i,v,h=>(by obtain⟨t,e⟩:=Value.isInt_shape (k:=i) (v:=v) h;exact .inl ⟨i,t,rfl,e⟩)|.inr x,v,h=>by obtain⟨t,e⟩:=Value.isStrOf_shape (x:=x) (v:=v) h;exact .inr ⟨x,t,rfl,e⟩
theorem FE(i:Int)(t:Tok):keyIs (.inl i) (.int i t)=true:=by simp[keyIs,Value.isInt]
theorem FF(x:Str)(t:Tok):keyIs (.inr x) (.str x t)=true:=by simp[keyIs,Value.isStrOf]
theorem Pf(a b:Int):decide ((Sum.inl a:Key)=Sum.inl b)=(a==b):=by by_cases e:a=b;subst e;simp;have h:¬(Sum.inl a:Key)=Sum.inl b:=λq=>e<|Sum.inl.inj q;rw[zx h];exact(beq_eq_false_iff_ne.mpr e).symm
theorem Pg(a b:Str):decide ((Sum.inr a:Key)=Sum.inr b)=decide (a=b):=by by_cases e:a=b;subst e;simp;have h:¬(Sum.inr a:Key)=Sum.inr b:=λq=>e<|yM q;rw[zx h,zx e]
theorem Ph(a:Int)(b:Str):decide ((Sum.inl a:Key)=Sum.inr b)=false:=zx λq=>nomatch q
theorem Pj(a:Str)(b:Int):decide ((Sum.inr a:Key)=Sum.inl b)=false:=zx λq=>nomatch q
def aE(prog:Program)(w:World):PySem.KeyKind prog w Key where
 is:=keyIs
 hash:=YV w
 inj:=λv a b ha hb=>by
  rcases bE ha with⟨i,t,rfl,rfl⟩|⟨x,t,rfl,rfl⟩
  ·rcases bE hb with⟨j,u,rfl,e⟩|⟨y,u,rfl,e⟩
   ·injection e with e1 _;rw[e1]
   ·exact nomatch e
  ·rcases bE hb with⟨j,u,rfl,e⟩|⟨y,u,rfl,e⟩
   ·exact nomatch e
   ·injection e with e1 _;rw[e1]
 byValue:=λk v h=>by
  rcases bE h with⟨i,t,rfl,rfl⟩|⟨x,t,rfl,rfl⟩<;>rfl
 pyHash:=λhv h=>by
  rcases bE hv with⟨i,t,rfl,rfl⟩|⟨x,t,rfl,rfl⟩
  ·exact wpAny_pyHash_int h
  ·exact wpAny_pyHash_str h
 eqBool:=λhu hv h=>by
  rcases bE hu with⟨i,t,rfl,rfl⟩|⟨x,t,rfl,rfl⟩
  ·rcases bE hv with⟨j,u,rfl,rfl⟩|⟨y,u,rfl,rfl⟩
   ·rw[Pf]at h;exact wpAny_eqBool_int h
   ·rw[Ph]at h;exact SeqAt.EqAt.int_str i t y u _ _ _ _ h
  ·rcases bE hv with⟨j,u,rfl,rfl⟩|⟨y,u,rfl,rfl⟩
   ·rw[Pj]at h;exact SeqAt.EqAt.str_int x t j u _ _ _ _ h
   ·rw[Pg]at h;exact wpAny_eqBool_str h
 «strs»:=λk x t v h=>by
  rcases bE h with⟨i,u,rfl,e⟩|⟨y,u,rfl,e⟩
  ·exact nomatch e
  ·injection e with e1 _
   subst e1
   cases v<;>rfl
theorem y8(prog:Program)(w:World)(i:Int)(t:Tok):(aE prog w).is (.inl i) (.int i t)=true:=FE i t
theorem iZ(prog:Program)(w:World)(x:Str)(t:Tok):(aE prog w).is (.inr x) (.str x t)=true:=FF x t
set_option genInjectivity true in
set_option genSizeOfSpec true in
inductive V where
 |au|bl (b:Bool)|int (i:Int)|str (x:Str)|Eb (b:Array UInt8)|Pk (b:UInt64)|ref (a:Addr)|ty (n:String)
 deriving DecidableEq
abbrev cr:=List V
abbrev fv:=List (Key×V)
abbrev ge:=List (Str×V)
def RelV:V->Value->Prop|.au,u=>u=Value.none|.bl b,u=>u=Value.bool b|.int i,u=>∃t,u=Value.int i t|.str x,u=>∃t,u=Value.str x t|.Eb b,u=>∃t,u=Value.bytes b t|.Pk b,u=>∃t,u=Value.float b t|.ref a,u=>u=Value.ref a|.ty n,u=>u=Value.type n
abbrev Vals:List V->List Value->Prop:=Paired RelV
theorem Vals.length{xs:cr}{us:dL}(r:Vals xs us):xs.length=us.length:=yX r
theorem Vals.get:∀{xs:cr}{us:dL}{i:Nat}{x:V},Vals xs us->xs[i]?=some x->∃u,us[i]?=some u/\RelV x u|_,_,_,_,.nil,e=>by simp at e|_,_,0,_,.cons r _,e=>by simp at e;subst e;exact{_,rfl,r}|_,_,i+1,x,.cons _ t,e=>by obtain⟨u,h1,h2⟩:=Vals.get (i:=i) (x:=x) t (by simpa using e);exact{u,by simpa using h1,h2}
theorem Vals.set(r:RelV x u):∀{xs:cr}{us:dL}(i:Nat),Vals xs us->Vals (xs.set i x) (us.set i u)|_,_,_,.nil=>.nil|_,_,0,.cons _ t=>.cons r t|_,_,i+1,.cons q t=>.cons q<|Vals.set r i t
theorem Vals.append:∀{xs ys:cr}{us ws:dL},Vals xs us->Vals ys ws->Vals (xs++ys) (us++ws)|_,_,_,_,.nil,s=>s|_,_,_,_,.cons r t,s=>.cons r<|Vals.append t s
theorem Vals.take:∀{xs:cr}{us:dL}(n:Nat),Vals xs us->Vals (xs.take n) (us.take n)|_,_,0,_=>.nil|_,_,_+1,.nil=>.nil|_,_,n+1,.cons r t=>.cons r<|Vals.take n t
theorem Vals.drop:∀{xs:cr}{us:dL}(n:Nat),Vals xs us->Vals (xs.drop n) (us.drop n)|_,_,0,r=>r|_,_,_+1,.nil=>.nil|_,_,n+1,.cons _ t=>Vals.drop n t
def fj:Option V->Option Value->Prop|some v,some u=>RelV v u|none,none=>True|_,_=>False
def KV{κ:Type} : List (κ×V)->List (κ×Value)->Prop:=Paired λ(p:κ×V)(q:κ×Value)=>p.1=q.1/\RelV p.2 q.2
def kV:Key->V|.inl i=>.int i|.inr x=>.str x
set_option genInjectivity true in
set_option genSizeOfSpec true in
inductive HO where
  |lst (xs:cr)
  |tup (xs:cr)
  |dK (kvs:fv)|dT (kvs:List<|List Key×V)
  |set (S:Int->Bool) (n:Nat)
  |ins (C dx:Addr) (fs:ge)
  |own (x:Addr)
  |xd (fs:ge)
  |met (f x:Addr)
  |XW (lo hi:Int)
  |kD (o:Obj) (u:HO)
  |qB (ps:ii)
  |ext (φ:Heap->Prop)
abbrev Hp:=Addr->Option HO
noncomputable def upd(H:Hp)(a:Addr)(o:HO):Hp:=λb=>if b=a then some o else H b
theorem aD{H:Hp}{a:Addr}{o:HO} : upd H a o a=some o:=by unfold upd;rw[if_pos rfl]
theorem aw{H:Hp}{a b:Addr}{o:HO}(h:b≠a):upd H a o b=H b:=by unfold upd;rw[if_neg h]
theorem aF{H:Hp}{a b:Addr}{o:HO}(h:H a=some o)(h':H b=none):a≠b:=by intro e;subst e;rw[h]at h';cases h'
def hU(h:Heap)(a:Addr)(items:ii):Prop:=∃o,h.get? a=some o/\o.cls=.type "tuple"/\o.dict=none/\∃n,o.data=.seq items n
theorem hU.tup(x:hU h a items):IsTup h a items:=by obtain⟨o,e,c,_,n,d⟩:=x;exact⟨o,e,c,n,d⟩
theorem hU.lt(x:hU h a items):a<h.objs.size:=x.tup.lt
theorem hU.new(h:Heap)(items:ii):hU (h.push {cls:=.type "tuple",data:=.seq items}) h.objs.size items:={_,zk _ rfl,rfl,rfl,_,rfl}
section
variable(P:Program)(w:World)
def bp(H:Hp)(h:Heap)(a:Addr):HO->Prop|.lst xs=>xs.length<=sizeLine/\∃(ax:dL) (n:Nat),Vals xs ax/\h.get? a=some {cls:=.type "list",data:=.seq ax.toArray n}|.tup xs=>xs.length<=sizeLine/\∃ax:dL,Vals xs ax/\hU h a ax.toArray|.dK kvs=>kvs.length<=sizeLine/\(a==sysModules)=false/\∃vs,KV kvs vs/\h.DictOf (aE P w) a vs|.dT _=>False|.set S n=>h.SetOf (intKind P w) a S n|.ins C dx fs=>H dx=some (.own a)/\fs.length<=1000/\dx≠a/\h.get? a=some (instObj C dx)/\∃mA,h.Ns1 dx mA/\(∀f,fj (fs.lookup f)<|mA f)/\PySem.Within mA (fs.map (·.1))|.own _=>∃o,h.get? a=some o|.xd fs=>∃mA,h.Ns1 a mA/\∀f,fj (fs.lookup f) (mA f)|.XW lo hi=>∃t u v,h.get? a=some {cls:=.type "range",data:=.fields #[.int lo t,.int hi u,.int 1 v]}|.kD o u=>h.get? a=some o/\bp H h a u|.qB ps=>h.get? a=some {cls:=.none,data:=.fields ps}|.met f x=>h.get? a=some (methodObj (.ref f)<|.ref x)|.ext φ=>φ h/\(∃o,h.get? a=some o)/\∀h1 h2:Heap,φ h1->(∀o,h1.get? a=some o->h2.get? a=some o)->φ h2
def kX(H:Hp)(h:Heap):Prop:=∀a o,H a=some o->bp P w H h a o
end
section
variable{P:Program}{w:World}{H H':Hp}{h h':Heap}{a:Addr}{o:HO}
theorem bp.lt(x:bp P w H h a o):a<h.objs.size:=by cases o with|lst xs=>(obtain⟨_,_,_,_,e⟩:=x;exact zw e)|tup xs=>(obtain⟨_,_,_,p⟩:=x;exact p.lt)|dK kvs=>(obtain⟨_,_,_,_,o,_,_,e,_⟩:=x;exact zw e)|dT kvs=>exact False.elim x|set S n=>(obtain⟨o,_,_,_,e,_⟩:=x;exact zw e)|ins C dx fs=>(obtain⟨_,_,_,e,_⟩:=x;exact zw e)|own y=>(obtain⟨_,e⟩:=x;exact zw e)|xd fs=>(obtain⟨_,⟨_,_,_,e,_⟩,_⟩:=x;exact zw e)|XW lo hi=>(obtain⟨_,_,_,e⟩:=x;exact zw e)|kD ob u=>(obtain⟨e,_⟩:=x;exact zw e)|qB ps=>exact zw (show h.get? a=some _ from x)|met f y=>exact zw (show h.get? a=some _ from x)|ext φ=>obtain⟨_,⟨_,e⟩,_⟩:=x;exact zw e
theorem bp.p_(x:bp P w H h a o)(k:∀b u,(b=a\/H b=some (.own a))->h.get? b=some u->h'.get? b=some u)(ho:∀b,H b=some (.own a)->H' b=some (.own a))(ht:∀b xs,H b=some (.tup xs)->H' b=some (.tup xs)):bp P w H' h' a o:=by induction o with|lst xs=>(obtain⟨z,ax,n,r,e⟩:=x;exact{z,ax,n,r,k _ _ (.inl rfl) e})|tup xs=>(obtain⟨z,ax,r,ob,e,c⟩:=x;exact{z,ax,r,ob,k _ _ (.inl rfl) e,c})|dK kvs=>(obtain⟨z,y,vs,r,ob,es,ep,e,c⟩:=x;exact{z,y,vs,r,ob,es,ep,k _ _ (.inl rfl) e,c})|dT kvs=>exact False.elim x|set S n=>(obtain⟨ob,es,ep,t,e,c⟩:=x;exact{ob,es,ep,t,k _ _ (.inl rfl) e,c})|ins C dx fs=>(obtain⟨d,z,ne,e,mA,⟨od,es,ep,e2,c⟩,r⟩:=x;exact{ho _ d,z,ne,k _ _ (.inl rfl) e,mA,{od,es,ep,k _ _ (.inr d) e2,c},r})|own y=>(obtain⟨ob,e⟩:=x;exact{ob,k _ _ (.inl rfl) e})|xd fs=>(obtain⟨mA,⟨od,es,ep,e,c⟩,r⟩:=x;exact{mA,{od,es,ep,k _ _ (.inl rfl) e,c},r})|XW lo hi=>(obtain⟨t,u,v,e⟩:=x;exact{t,u,v,k _ _ (.inl rfl) e})|kD ob u ih=>(obtain⟨e,q⟩:=x;exact{k _ _ (.inl rfl) e,ih q})|qB ps=>have e:h.get? a=some {cls:=.none,data:=.fields ps}:=x;show h'.get? a=some {cls:=.none,data:=.fields ps};exact k a _ (.inl rfl) e|met f y=>have e:h.get? a=some (methodObj (.ref f)<|.ref y):=x;show h'.get? a=some (methodObj (.ref f)<|.ref y);exact k a _ (.inl rfl) e|ext φ=>obtain⟨p,⟨o,e⟩,st⟩:=x;exact{st _ _ p λo q=>k _ _ (.inl rfl) q,{o,k _ _ (.inl rfl) e},st}
theorem kX.lt(x:kX P w H h)(e:H a=some o):a<h.objs.size:=(x a o e).lt
theorem kX.fresh(x:kX P w H h)(e:h.objs.size<=a):H a=none:=by cases q:H a with|none=>rfl|some u=>exact absurd (zp (x.lt q) e)<|yF _
theorem kX.kept(x:kX P w H h)(k:∀b u,h.get? b=some u->h'.get? b=some u):kX P w H h':=λa o e=>(x a o e).p_ (λb u _ q=>k b u q) (λ_ q=>q) λ_ _ q=>q
theorem kX.laid(x:kX P w H h)(k:∀b u,h.get? b=some u->h'.get? b=some u)(hp:h.objs.size<=a)(new:bp P w (upd H a o) h' a o):kX P w (upd H a o) h':=λb u e=>by have hn:=x.fresh hp;by_cases hb:b=a;subst hb;rw[aD]at e;cases e;exact new;rw[aw hb]at e;exact(x b u e).p_ (λc v _ q=>k c v q) (λc q=>by rw[aw<|aF q hn];exact q) λc xs q=>by rw[aw<|aF q hn];exact q
end
def Rd(H:Hp)(a:Addr)(u:HO):Prop:=H a=some u\/∃o,H a=some (.kD o u)
theorem Rd.of(h:H a=some u):Rd H a u:=.inl h
theorem Rd.ok{P:Program}{w:World}{H:Hp}{h:Heap}{a:Addr}{u:HO}(r:Rd H a u)(x:kX P w H h):bp P w H h a u:=by rcases r with r|⟨o,r⟩;exact x a u r;obtain⟨_,q⟩:=x a _ r;exact q
def Ug:Option HO->Prop|some (.lst _)=>True|some (.dK _)=>True|some (.dT _)=>True|some (.set _ _)=>True|some (.ins _ _ _)=>True|some (.ext _)=>True|_=>False
section
variable{P:Program}{w:World}{H:Hp}{h h':Heap}{x e:Addr}{o':HO}
theorem kX.write(ok:kX P w H h)(mu:Ug<|H x)(he:e=x\/H e=some (.own x))(k:∀b u,b≠e->h.get? b=some u->h'.get? b=some u)(S9:∃u,h'.get? e=some u)(new:bp P w (upd H x o') h' x o'):kX P w (upd H x o') h':=λb u q=>by
 have Uh:∀c y,H c=some (.own y)->c≠x:=λc y r z=>by subst z;rw[r]at mu;exact mu
 have YW:∀c xs,H c=some (.tup xs)->c≠x:=λc xs r z=>by subst z;rw[r]at mu;exact mu
 by_cases hb:b=x;subst hb;rw[aD]at q;cases q;exact new;rw[aw hb]at q;by_cases Lk:b=e;have q':H b=some (.own x):=by rcases he with z|z;exact absurd (Lk.trans z) hb;rw[Lk];exact z
 rw[q]at q';cases q';obtain⟨v,hv⟩:=S9;exact{v,by rw[Lk];exact hv};refine(ok b u q).p_ (λc v hc r=>k c v ?_ r) (λc r=>by rw[aw<|Uh c b r];exact r) λc xs r=>by rw[aw<|YW c xs r];exact r
 rcases hc with rfl|hc;exact Lk;rintro rfl;rcases he with z|z;exact Uh c b hc z;rw[hc]at z;cases z;exact hb rfl
end
structure Un(fs ex:im)(H H':Hp)(h h':Heap):Prop where
 keep:∀b o,h.get? b=some o->H b=none->b∉fs->b∉ex->h'.get? b=some o
 slot:∀b o,h.get? b=some o->H b=none->b∈fs->b∉ex->∃sl,h'.get? b=some {o with slots:=sl}
 free:∀b o,h.get? b=some o->H b=none->b∉ex->H' b=none
 there:∀b o,h.get? b=some o->b∉ex->∃o',h'.get? b=some o'
 l4:∀b xs,H b=some (.tup xs)->H' b=some (.tup xs)
 kY:∀b o u,H b=some (.kD o u)->H' b=some (.kD o u)
 kZ:∀b ps,H b=some (.qB ps)->∃more,H' b=some (.qB<|ps++more)
section
variable{fs ex:im}{H H1:Hp}{h h1 h':Heap}{a x e:Addr}{o:HO}
theorem Un.any(u:Un fs ex H H1 h h1){b:Addr}{ob:Obj}(q:h.get? b=some ob)(n:H b=none)(hx:b∉ex):∃sl,h1.get? b=some {ob with slots:=sl}:=by by_cases hb:b∈fs;exact u.slot b ob q n hb hx;exact{ob.slots,u.keep b ob q n hb hx}
theorem Un.kept(k:∀b u,h.get? b=some u->h'.get? b=some u):Un fs ex H H h h':={λb ob q _ _ _=>k b ob q,λb ob q _ _ _=>{ob.slots,k b ob q},λ_ _ _ n _=>n,λb ob q _=>{ob,k b ob q},λ_ _ q=>q,λ_ _ _ q=>q,λ_ ps q=>{#[],by rw[q];simp}}
theorem Un.refl:Un fs ex H H h h:=Un.kept λ_ _ q=>q
theorem Un.laid(k:∀b u,h.get? b=some u->h'.get? b=some u)(hp:h.objs.size<=a)(hn:H a=none):Un fs ex H (upd H a o) h h' where
 keep:=λb u q _ _ _=>k b u q
 slot:=λb u q _ _ _=>{u.slots,k b u q}
 free:=λb u q n _=>by rw[aw<|zD<|zp (zw q) hp];exact n
 there:=λb u q _=>{u,k b u q}
 l4:=λb xs q=>by rw[aw<|aF q hn];exact q
 kY:=λb u xs q=>by rw[aw<|aF q hn];exact q
 kZ:=λb ps q=>{#[],by rw[aw<|aF q hn,q];simp}
theorem Un.write(mu:Ug<|H x)(he:e=x\/H e=some (.own x))(k:∀b u,b≠e->h.get? b=some u->h'.get? b=some u)(S9:∃u,h'.get? e=some u):Un fs ex H (upd H x o) h h':=by
 have hx:∀b,H b=none->b≠x:=λb n z=>by subst z;rw[n]at mu;exact mu
 have hb:∀b,H b=none->b≠e:=λb n z=>by subst z;rcases he with r|r;exact hx b n r;rw[n]at r;cases r
 have hm:∀b u,H b=some u->¬Ug (some u)->b≠x:=λb u q nm z=>by subst z;rw[q]at mu;exact nm mu
 refine⟨λb u q n _ _=>k b u (hb b n) q,λb u q n _ _=>{u.slots,k b u (hb b n) q},λb u q n _=>by rw[aw<|hx b n];exact n,λb u q _=>?_,
  λb xs q=>by rw[aw<|hm b _ q λz=>z];exact q,λb u xs q=>by rw[aw<|hm b _ q λz=>z];exact q,λb ps q=>{#[],by rw[aw<|hm b _ q λz=>z,q];simp}⟩
 by_cases Lk:b=e;subst Lk;exact S9;exact{u,k b u Lk q}
end
noncomputable def XX(h:Heap)(H:Hp):im:=(List.range h.objs.size).filter λa=>(H a).isSome
noncomputable def tX(h:Heap)(H:Hp):Heap:=hideAll h<|XX h H
theorem FG(h:Heap)(H:Hp):(tX h H).objs.size=h.objs.size:=PySem.W.hideAll_size _ _
theorem HI(e:h.get? b=some o)(n:H b=none):(tX h H).get? b=some o:=hideAll_get _ e λhm=>by have q:(H b).isSome=true:=(yn.mp hm).2;rw[n]at q;simp at q
theorem Ll(e:(tX h H).get? b=some o):h.get? b=some o/\H b=none:=by have e':h.get? b=some o:=of_hideAll (XX h H) e;refine{e',?_};cases q:H b with|none=>rfl|some x=>have hm:b∈XX h H:=yn.mpr {zU.mpr<|zw e',by simp[q]};have z:(tX h H).get? b=none:=PySem.W.hideAll_none (XX h H) hm;rw[z]at e;cases e
noncomputable def Ln(g h:Heap)(L:Addr):io:=(List.range h.objs.size).filterMap λa=>if a=L\/(g.get? a).isSome=true then none else (h.get? a).map λo=>(a,o)
noncomputable def rest(g h:Heap)(L d:Addr):io:=(Ln g h L).filter λp=>decide<|p.1≠d
structure Mod(K:Frag)(mg:Str->Option Value)(base:Heap):Prop where
 Ui:K.In base
 glob:base.Ns mainGlobals mg
 blt:∃mb,base.Ns builtinsNs mb/\∀x:Str,x≠"__name__"->mb x=bootBuiltins x
 nolimit:base.NoLimit
structure Cx where
 prog:Program
 w:World
 K:Frag
 mg:Str->Option Value
 base:Heap
 A:Around
 N:List Str
 dm:Shared
 v5:Hp
 env:Env
 outer:List Env
 stack:List Env
 ex:List Addr
 fn:Str->Bool
 calm:Bool
 pn:List (Addr×Obj)
 xe:Value->Shared->Prop
def nM(l:jp):im:=l.filterMap (·.frame)
noncomputable abbrev Cx.fs(X:Cx):im:=nM X.outer
def Pl(sc:Scope)(x:Str):Prop:=sc.names.lookup x=some .local\/sc.names.lookup x=some .cell\/sc.names.lookup x=some .free
def Loc(sc:Scope)(x:Str):Prop:=sc.names.lookup x=some .local\/sc.names.lookup x=some .cell
def Look(env:Env)(h:Heap)(m:Str->Option Value)(x:Str)(u:Value):Prop:=(env.kindOf x=some .local/\m x=some u)\/((env.kindOf x=some .cell\/env.kindOf x=some .free)/\∃c,env.cells.lookup x=some c/\h.IsCell c (some u))
structure Cx.Ok(X:Cx):Prop where
 mod:Mod X.K X.mg X.base
 kind:X.env.scope.kind=.function
 glob:X.env.globals=mainGlobals
 blt:X.env.builtins=builtinsNs
 above:X.dm.heap.objs.size<=X.env.locals
 inj:∀x y c,X.env.cells.lookup x=some c->X.env.cells.lookup y=some c->x=y
 has:∀x,(X.env.kindOf x=some .cell\/X.env.kindOf x=some .free)->∃c,X.env.cells.lookup x=some c
 YX:∀x c,X.fn x=true->X.env.cells.lookup x=some c->X.dm.heap.objs.size<=c
 hd:X.calm=true->X.A.handled=none
 frames:X.A.frames=some X.stack
 stk:X.stack=X.outer\/(X.stack=X.env::X.outer/\X.env.frame=some X.env.locals)
 exf:∀b∈X.ex,b≠X.env.locals/\∀x c,X.env.cells.lookup x=some c->c≠b
 bs:∀b o,X.base.get? b=some o->X.dm.heap.get? b=some o/\X.v5 b=none
 Lo:X.base.objs.size<=X.dm.heap.objs.size
 Pm:∀b o,X.base.get? b=some o->b∉X.ex
 Uj:∀b∈X.ex,b∉X.fs
 qd:X.dm.heap.FunFrames X.base X.outer
 Pn:∀b∈X.fs,X.v5 b=none
structure Inv(X:Cx)(pins:io)(σ:List (Option V))(H:Hp)(s:Shared):Prop where
 ok:X.Ok
 os:s.os=X.dm.os
 bare:AllBare s.gens
 base:Un X.fs X.ex X.v5 H X.dm.heap s.heap
 loc:∃m,s.heap.Ns X.env.locals m/\∀(i:Nat)(x:Str)(v:V),X.N[i]?=some x->σ[i]?=some (some v)->Pl X.env.scope x->∃u,RelV v u/\Look X.env s.heap m x u
 cell:∀x c,X.env.cells.lookup x=some c->∃v,s.heap.IsCell c v
 free:H X.env.locals=none
 fT:∀x c,X.env.cells.lookup x=some c->H c=none
 pin:∀p∈X.pn++pins,s.heap.get? p.1=some p.2/\H p.1=none/\p.1≠X.env.locals/\p.1∉X.fs/\∀v,p.2.data≠.cell v
 aG:kX X.prog X.w H s.heap
 len:σ.length=X.N.length
section
variable{X:Cx}{pins:io}{σ:List (Option V)}{H H':Hp}{s:Shared}{h':Heap}
theorem Cx.Ok.FH(ok:X.Ok)(e:X.base.get? b=some o):b∉X.fs:=λhb=>by have:=(ok.qd.mem hb).1;rw[e]at this;cases this
theorem Inv.bs(I:Inv X pins σ H s):∀b o,X.base.get? b=some o->s.heap.get? b=some o/\H b=none:=λb o e=>{I.base.keep b o (I.ok.bs b o e).1 (I.ok.bs b o e).2 (I.ok.FH e)<|I.ok.Pm b o e,I.base.free b o (I.ok.bs b o e).1 (I.ok.bs b o e).2<|I.ok.Pm b o e}
theorem Inv.bk(I:Inv X pins σ H s):∀b o,X.base.get? b=some o->s.heap.get? b=some o:=λb o e=>(I.bs b o e).1
theorem Inv.mod(I:Inv X pins σ H s):Mod X.K X.mg X.base:=I.ok.mod
theorem Inv.ph(I:Inv X pins σ H s):X.K.In s.heap:=I.ok.mod.Ui.keeps I.bk
theorem Inv.nolimit(I:Inv X pins σ H s):s.heap.NoLimit:=I.ok.mod.nolimit.keeps I.bk
theorem Inv.fr(I:Inv X pins σ H s):∃m,Fr X.base X.env.locals s.heap m :=
 let ⟨m,hn,_⟩:=I.loc
 ⟨m,hn,I.bk,zI I.ok.Lo I.ok.above⟩
theorem Inv.lt(I:Inv X pins σ H s):X.env.locals<s.heap.objs.size:=by obtain⟨_,hn,_⟩:=I.loc;exact hn.lt
theorem Inv.sz(I:Inv X pins σ H s):X.dm.heap.objs.size<=s.heap.objs.size:=zI I.ok.above<|yN I.lt
theorem Inv.Uk(I:Inv X pins σ H s)(h:s.heap.objs.size<=a):a∉X.fs:=λhb=>by obtain⟨_,o,ho,_⟩:=I.ok.qd.mem hb;exact absurd (zp (zw ho)<|zI I.sz h)<|yF _
theorem Inv.Po(I:Inv X pins σ H s):∀x c,X.env.cells.lookup x=some c->c≠X.env.locals:=λx c e z=>by obtain⟨v,o,ho,hd⟩:=I.cell x c e;obtain⟨m,⟨o',es,ep,B8,B9,_⟩,_⟩:=I.loc;rw[z,B8]at ho;cases ho;rw[B9]at hd;cases hd
theorem Inv.qd(I:Inv X pins σ H s):s.heap.FunFrames X.base X.outer:=by
 have all:∀(l:jp),(∀b∈nM l,b∈X.fs)->X.dm.heap.FunFrames X.base l->s.heap.FunFrames X.base l:=by intro l;induction l with|nil=>intro _ _;trivial|cons env r ih=>intro hs hl;obtain⟨hk,⟨L,o,hf,hn,ho,hd⟩,hr⟩:=hl;have hL:L∈X.fs:=hs L (by unfold nM;rw[List.filterMap_cons,hf];exact zj);obtain⟨sl,e⟩:=I.base.slot L o ho (I.ok.Pn L hL) hL λz=>I.ok.Uj L z hL;exact{hk,{L,_,hf,hn,e,hd},ih (λb hb=>hs b<|by unfold nM;rw[List.filterMap_cons,hf];exact zf _ hb) hr}
 exact all X.outer (λ_ hb=>hb) I.ok.qd
theorem Inv.stack(I:Inv X pins σ H s):s.heap.FunFrames X.base X.stack:=by rcases I.ok.stk with e|⟨e,hf⟩;rw[e];exact I.qd;rw[e];obtain⟨m,hn,_⟩:=I.loc;refine .cons (by rw[I.ok.kind];decide) hf hn ?_ I.qd;exact Heap.get?_none_of_le<|zI I.ok.Lo I.ok.above
theorem Inv.nN(I:Inv X pins σ H s):∀b∈nM X.stack,b∈X.env.locals::X.fs:=λb hb=>by rcases I.ok.stk with e|⟨e,hf⟩;rw[e]at hb;exact zf _ hb;rw[e]at hb;unfold nM at hb;rw[List.filterMap_cons,hf]at hb;exact hb
theorem Inv.qC(I:Inv X pins σ H s):∀b∈nM X.stack,H b=none:=λb hb=>by rcases zi.mp (I.nN b hb) with e|hb;rw[e];exact I.free;obtain⟨_,o,ho,_⟩:=I.ok.qd.mem hb;exact I.base.free b o ho (I.ok.Pn b hb) λz=>I.ok.Uj b z hb
theorem Inv.step{g':Array GenState}{t':Nat}{d':Drawn}{ch:im}(I:Inv X pins σ H s)(K4:∀b∈ch,(b∈X.ex\/X.dm.heap.objs.size<=b)/\b≠X.env.locals/\(∀x c,X.env.cells.lookup x=some c->c≠b)/\∀p∈X.pn++pins,p.1≠b)(keep:∀b o,b≠X.env.locals->b∉X.fs->b∉ch->s.heap.get? b=some o->H b=none->h'.get? b=some o)(slot:∀b o,b≠X.env.locals->b∈X.fs->b∉ch->s.heap.get? b=some o->H b=none->∃sl,h'.get? b=some {o with slots:=sl})(free:∀b o,b∉ch->s.heap.get? b=some o->H b=none->H' b=none)(there:∀b o,b∉ch->s.heap.get? b=some o->∃o',h'.get? b=some o')(l4:∀b xs,H b=some (.tup xs)->H' b=some (.tup xs))(kY:∀b o u,H b=some (.kD o u)->H' b=some (.kD o u))(kZ:∀b ps,H b=some (.qB ps)->∃more,H' b=some (.qB<|ps++more))(ns:∀m,s.heap.Ns X.env.locals m->h'.Ns X.env.locals m)(aG:kX X.prog X.w H' h')(hg:AllBare g'): Inv X pins σ H' {s with heap:=h',gens:=g',drawn:=d',toks:=t'}:=by
 have neL:∀b o,X.dm.heap.get? b=some o->b≠X.env.locals:=λb o e=>zD<|zp (zw e) I.ok.above;have XY:∀b o,X.dm.heap.get? b=some o->b∉X.ex->b∉ch:=λb o e hx hb=>by rcases (K4 b hb).1 with z|z;exact hx z;exact absurd (zp (zw e) z)<|yF _
 have cellK:∀x c,X.env.cells.lookup x=some c->∀v,s.heap.IsCell c v->h'.IsCell c v:=by rintro x c e v ⟨o,ho,hd⟩;have Ul:c∉ch:=λz=>(K4 c z).2.2.1 x c e rfl;by_cases hc:c∈X.fs;obtain⟨sl,q⟩:=slot c o (I.Po x c e) hc Ul ho<|I.fT x c e;exact{_,q,hd};exact{o,keep c o (I.Po x c e) hc Ul ho<|I.fT x c e,hd}
 refine{I.ok,I.os,hg,{λb o e n hb hx=>?_,λb o e n hb hx=>?_,λb o e n hx=>?_,λb o e hx=>?_,λb xs e=>l4 b xs<|I.base.l4 b xs e,λb o xs e=>kY b o xs<|I.base.kY b o xs e,λb ps e=>?_},?_,λx c e=>?_,?_,λx c e=>?_,λp hp=>?_,aG,I.len};exact keep b o (neL b o e) hb (XY b o e hx) (I.base.keep b o e n hb hx)<|I.base.free b o e n hx;obtain⟨sl,e1⟩:=I.base.slot b o e n hb hx;obtain⟨sl',e2⟩:=slot b _ (neL b o e) hb (XY b o e hx) e1<|I.base.free b o e n hx;exact⟨sl',e2⟩;obtain⟨o',e1⟩:=I.base.there b o e hx;exact free b o' (XY b o e hx) e1<|I.base.free b o e n hx;obtain⟨o',e1⟩:=I.base.there b o e hx;exact there b o' (XY b o e hx) e1;obtain⟨m1,e1⟩:=I.base.kZ b ps e;obtain⟨m2,e2⟩:=kZ b _ e1;exact{m1++m2,by rw[e2,Array.append_assoc]};obtain⟨m,hn,hl⟩:=I.loc;refine{m,ns m hn,λi x v e1 e2 e3=>?_};obtain⟨u,r,l⟩:=hl i x v e1 e2 e3;refine{u,r,?_};rcases l with l|⟨k,c,e,z⟩;exact .inl l;exact .inr {k,c,e,cellK x c e _ z};obtain⟨v,z⟩:=I.cell x c e;exact{v,cellK x c e v z};obtain⟨m,⟨o,_,_,ho,_⟩,_⟩:=I.loc;exact free _ o (λz=>(K4 _ z).2.1 rfl) ho I.free;obtain⟨v,o,ho,hd⟩:=I.cell x c e;exact free c o (λz=>(K4 c z).2.2.1 x c e rfl) ho<|I.fT x c e;obtain⟨e,n,ne,nf,d⟩:=I.pin p hp;have Ul:p.1∉ch:=λz=>(K4 p.1 z).2.2.2 p hp rfl;exact{keep p.1 p.2 ne nf Ul e n,free p.1 p.2 Ul e n,ne,nf,d}
theorem Inv.un{t':Nat}(I:Inv X pins σ H s)(u:Un X.fs [] H H' s.heap h')(aG:kX X.prog X.w H' h'):Inv X pins σ H' {s with heap:=h',toks:=t'}:=by obtain⟨m,⟨o,es,ep,ho,r⟩,_⟩:=id I.loc;obtain⟨sl,hL⟩:=u.any ho I.free (by simp);exact I.step (g':=s.gens) (d':=s.drawn) (ch:=[]) (λ_ z=>nomatch z) (λb o _ hb _ e n=>u.keep b o e n hb<|by simp) (λb o _ hb _ e n=>u.slot b o e n hb<|by simp) (λb o _ e n=>u.free b o e n<|by simp) (λb o _ e=>u.there b o e<|by simp) u.l4 u.kY u.kZ (λm' hm=>by obtain⟨o',XZ,YY,B8,r'⟩:=hm;rw[ho]at B8;cases B8;exact{_,XZ,YY,hL,r'}) aG I.bare
theorem Inv.call{g':Array GenState}{t':Nat}{d':Drawn}{ch:im}(I:Inv X pins σ H s)(u:Un (nM X.stack) ch H H' s.heap h')(aG:kX X.prog X.w H' h')(hg:AllBare g')(K4:∀b∈ch,(b∈X.ex\/X.dm.heap.objs.size<=b)/\b≠X.env.locals/\(∀x c,X.env.cells.lookup x=some c->c≠b)/\∀p∈X.pn++pins,p.1≠b): Inv X pins σ H' {s with heap:=h',gens:=g',drawn:=d',toks:=t'}:=by obtain⟨m,⟨o,es,ep,ho,r⟩,_⟩:=id I.loc;obtain⟨sl,hL⟩:=u.any ho I.free λz=>(K4 _ z).2.1 rfl;exact I.step (ch:=ch) K4 (λb o hL hb hc e n=>u.keep b o e n (λz=>(zi.mp<|I.nN b z).elim hL hb) hc) (λb o _ _ hc e n=>u.any e n hc) (λb o hc e n=>u.free b o e n hc) (λb o hc e=>u.there b o e hc) u.l4 u.kY u.kZ (λm' hm=>by obtain⟨o',XZ,YY,B8,r'⟩:=hm;rw[ho]at B8;cases B8;exact{_,XZ,YY,hL,r'}) aG hg
theorem Inv.turned{t':Nat}{it:Addr}(I:Inv X pins σ H s)(k:∀b o,b≠it->s.heap.get? b=some o->h'.get? b=some o)(hn:H it=none)(hL:it≠X.env.locals)(h1:it∈X.ex\/X.dm.heap.objs.size<=it)(h2:∀x c,X.env.cells.lookup x=some c->c≠it)(h3:∀p∈X.pn++pins,p.1≠it):Inv X pins σ H {s with heap:=h',toks:=t'}:=by
 have Pp:∀b u,H b=some u->b≠it:=λb u e z=>by rw[z,hn]at e;cases e
 refine I.step (g':=s.gens) (d':=s.drawn) (ch:=[it]) (λb hb=>?_) (λb o _ _ hc e _=>k b o (λz=>hc<|by simp[z]) e) (λb o _ _ hc e _=>{o.slots,k b o (λz=>hc<|by simp[z]) e}) (λ_ _ _ _ n=>n) (λb o hc e=>{o,k b o (λz=>hc<|by simp[z]) e}) (λ_ _ e=>e) (λ_ _ _ e=>e) (λb ps e=>{#[],by rw[e];simp}) (λm hm=>?_) (λb u e=>?_) I.bare;have e:b=it:=by simpa using hb
 subst e;exact⟨h1,hL,h2,h3⟩;obtain⟨o,es,ep,ho,r⟩:=hm;exact{o,es,ep,k _ o (Ne.symm hL) ho,r};refine(I.aG b u e).p_ (λc v hc q=>k c v ?_ q) (λ_ q=>q) λ_ _ q=>q;rcases hc with z|z;rw[z];exact Pp b u e;exact Pp c _ z
theorem Inv.tok(I:Inv X pins σ H s)(t:Nat):Inv X pins σ H {s with toks:=t}:=I.un (h':=s.heap) (t':=t) Un.refl I.aG
theorem Inv.kept(I:Inv X pins σ H s)(k:∀b u,s.heap.get? b=some u->h'.get? b=some u):Inv X pins σ H {s with heap:=h',toks:=t'}:=I.un (Un.kept k)<|I.aG.kept k
theorem Inv.laid{a:Addr}{o:HO}{t':Nat}(I:Inv X pins σ H s)(k:∀b u,s.heap.get? b=some u->h'.get? b=some u)(hp:s.heap.objs.size<=a)(new:bp X.prog X.w (upd H a o) h' a o): Inv X pins σ (upd H a o) {s with heap:=h',toks:=t'}:=I.un (Un.laid k hp<|I.aG.fresh hp)<|I.aG.laid k hp new
theorem Inv.write(I:Inv X pins σ H s)(mu:Ug<|H x)(he:e=x\/H e=some (.own x))(k:∀b u,b≠e->s.heap.get? b=some u->h'.get? b=some u)(S9:∃u,h'.get? e=some u)(new:bp X.prog X.w (upd H x o) h' x o):Inv X pins σ (upd H x o) {s with heap:=h',toks:=t'}:=I.un (Un.write mu he k S9)<|I.aG.write mu he k S9 new
theorem Inv.weak(I:Inv X pins σ H s)(hl:aA.length=σ.length)(w:∀(i:Nat) v,aA[i]?=some (some v)->σ[i]?=some (some v)):Inv X pins aA H s:={I.ok,I.os,I.bare,I.base,by obtain⟨m,hn,hl'⟩:=I.loc;exact{m,hn,λi x v e1 e2 e3=>hl' i x v e1 (w i v e2) e3},I.cell,I.free,I.fT,I.pin,I.aG,hl.trans I.len}
theorem Inv.l5(I:Inv X pins σ H s)(h:∀p∈pins',s.heap.get? p.1=some p.2/\H p.1=none/\p.1≠X.env.locals/\p.1∉X.fs/\∀v,p.2.data≠.cell v):Inv X pins' σ H s:={I.ok,I.os,I.bare,I.base,I.loc,I.cell,I.free,I.fT,λp hp=>(zP.mp hp).elim (λz=>I.pin p<|ym _ z)<|h p,I.aG,I.len}
theorem y9{N:j4}(hN:N.Nodup){i j:Nat}{x:Str}(a:N[i]?=some x)(b:N[j]?=some x):i=j:=by obtain⟨h1,e1⟩:=ze.mp a;obtain⟨h2,e2⟩:=ze.mp b;exact(List.getElem_inj hN).mp<|e1.trans e2.symm
theorem uM{M:Model}{A:Around}{E:li}{i:Nat}{x:Str}{v:V}{u:Value}{Q:Unit->Shared->Prop}(I:Inv X pins σ H s)(hN:X.N.Nodup)(hi:X.N[i]?=some x)(hx:Loc X.env.scope x)(r:RelV v u)(h:∀s',Inv X pins (σ.set i<|some v) H s'->(∃a,Heap.SameBut a s.heap s'.heap/\(a=X.env.locals\/X.env.cells.lookup x=some a))->Q () s')(hf:autoParam (X.fn x=true\/X.env.scope.names.lookup x=some .local) qQ8):wpAny M A (storeName X.env x u) Q E s:=by
 obtain⟨m,hn,hl⟩:=id I.loc;have YZ:(X.env.scope.kind==.class||(X.env.scope.kind==.module&&X.env.locals != X.env.globals))=false:=by rw[I.ok.kind];rfl
 have Um:i<σ.length:=by rw[I.len];exact(ze.mp hi).1
 have Po:=I.Po;have tracked:∀{a:Addr}{h':Heap},(∃o,s.heap.get? a=some o/\H a=none)->Heap.SameBut a s.heap h'->kX X.prog X.w H h':=λ{a h'} ha hs b ob e=>by obtain⟨_,_,NR⟩:=ha;refine(I.aG b ob e).p_ (λc w' hc q=>(hs.2 c ?_).trans q) (λ_ q=>q) λ_ _ q=>q;rintro rfl;rcases hc with rfl|hc;rw[NR]at e;cases e;rw[NR]at hc;cases hc
 rcases hx with hk|hk;refine wpAny_storeName_local hk hn (λh' NS hs=>?_) YZ;obtain⟨oL,_,_,Hs,_⟩:=id hn;refine h _ {I.ok,I.os,I.bare,{λb o e n hb hx=>?_,λb o e n hb hx=>?_,I.base.free,λb o e hx=>?_,I.base.l4,I.base.kY,I.base.kZ},{_,NS,λj y v' e1 e2 e3=>?_},λy c e=>?_,I.free,I.fT,λp hp=>?_,tracked ⟨oL,Hs,I.free⟩ hs,by simpa using I.len} {_,hs,.inl rfl};exact(hs.2 b<|zD<|zp (zw e) I.ok.above).trans<|I.base.keep b o e n hb hx;obtain⟨sl,e1⟩:=I.base.slot b o e n hb hx;exact{sl,(hs.2 b<|zD<|zp (zw e) I.ok.above).trans e1};obtain⟨o',e1⟩:=I.base.there b o e hx;exact{o',(hs.2 b<|zD<|zp (zw e) I.ok.above).trans e1};by_cases hj:j=i;subst hj;rw[hi]at e1;cases e1;rw[List.getElem?_set_self Um]at e2;cases e2;exact{u,r,.inl {hk,by simp}};rw[List.getElem?_set_ne<|Ne.symm hj]at e2;obtain⟨u',r',q⟩:=hl j y v' e1 e2 e3;refine{u',r',?_};rcases q with⟨k,e⟩|⟨k,c,e,z⟩;refine .inl {k,?_};have:y≠x:=λe=>hj<|y9 hN e1<|e ▸ hi;simp[this,e];exact .inr {k,c,e,z.sameBut hs<|Po y c e};obtain⟨w',z⟩:=I.cell y c e;exact{w',z.sameBut hs<|Po y c e};obtain⟨e,n,ne,nf,d⟩:=I.pin p hp;exact{(hs.2 p.1 ne).trans e,n,ne,nf,d};have Y0:X.fn x=true:=by rcases hf with z|z;exact z;rw[z]at hk;cases hk
 obtain⟨c,hc⟩:=I.ok.has x<|.inl hk;obtain⟨w',z⟩:=I.cell x c hc;refine wpAny_storeName_cell I.ok.kind hk hc z λh' Pq hs=>?_;obtain⟨oc,X0,Y1⟩:=id z;refine h {s with heap:=h'} {I.ok,I.os,I.bare,{λb o e n hb hx=>?_,λb o e n hb hx=>?_,I.base.free,λb o e hx=>?_,I.base.l4,I.base.kY,I.base.kZ},{m,hn.sameBut hs<|Ne.symm<|Po x c hc,λj y v' e1 e2 e3=>?_},λy c' e=>?_,I.free,I.fT,λp hp=>?_,tracked {oc,X0,I.fT x c hc} hs,by simpa using I.len} {c,hs,.inr hc};exact(hs.2 b<|zD<|zp (zw e)<|I.ok.YX x c Y0 hc).trans<|I.base.keep b o e n hb hx;obtain⟨sl,e1⟩:=I.base.slot b o e n hb hx;exact{sl,(hs.2 b<|zD<|zp (zw e)<|I.ok.YX x c Y0 hc).trans e1};obtain⟨o',e1⟩:=I.base.there b o e hx;exact{o',(hs.2 b<|zD<|zp (zw e)<|I.ok.YX x c Y0 hc).trans e1};by_cases hj:j=i;subst hj;rw[hi]at e1;cases e1;rw[List.getElem?_set_self Um]at e2;cases e2;exact{u,r,.inr {.inl hk,c,hc,Pq}};rw[List.getElem?_set_ne<|Ne.symm hj]at e2;obtain⟨u',r',q⟩:=hl j y v' e1 e2 e3;refine{u',r',?_};rcases q with q|⟨k,c',e,z'⟩;exact .inl q;refine .inr {k,c',e,z'.sameBut hs ?_};rintro rfl;exact hj<|y9 hN e1<|I.ok.inj _ _ _ e hc ▸ hi;by_cases Uo:c'=c;subst Uo;exact{_,Pq};obtain⟨w2,z2⟩:=I.cell y c' e;exact{w2,z2.sameBut hs Uo};obtain⟨e,n,ne,nf,d⟩:=I.pin p hp;refine{(hs.2 p.1 ?_).trans e,n,ne,nf,d};intro q;rw[q,X0]at e;have q':oc=p.2:=zT e;exact d w'<|by rw[<-q'];exact Y1
theorem i4(I:Inv X pins σ H s)(hN:X.N.Nodup)(hi:X.N[i]?=some x)(hx:Loc X.env.scope x)(r:RelV v u)(h:∀s',Inv X pins (σ.set i<|some v) H s'->Q () s')(hf:autoParam (X.fn x=true\/X.env.scope.names.lookup x=some .local) qQ8):wpAny M A (storeName X.env x u) Q E s:=uM I hN hi hx r (λs' I' _=>h s' I') hf
theorem Inv.Up(I:Inv X pins σ H s)(ho:s'.os=s.os)(u:Un (nM X.stack) ch H H' s.heap s'.heap)(aG:kX X.prog X.w H' s'.heap)(hg:AllBare s'.gens)(K4:∀b∈ch,(b∈X.ex\/X.dm.heap.objs.size<=b)/\b≠X.env.locals/\(∀x c,X.env.cells.lookup x=some c->c≠b)/\∀p∈X.pn++pins,p.1≠b):Inv X pins σ H' s':=by obtain⟨h',g',d',t',o'⟩:=s';have e:o'=s.os:=ho;subst e;exact I.call (g':=g') (t':=t') (d':=d') u aG hg K4
end
abbrev XK:=Value->Option Addr->Hp->Prop
abbrev St:=List<|Option V
abbrev VK:=V->Hp->Prop
abbrev TE:=St->Hp->VK->Prop
abbrev TT:=St->Hp->(Bool->Hp->Prop)->Prop
abbrev TA:=St->Hp->(List V->Hp->Prop)->Prop
structure Ends where
 nx:St->Hp->Prop
 rt:VK
 bk:St->Hp->Prop:=λ_ _=>False
 ct:St->Hp->Prop:=λ_ _=>False
abbrev TS:=Ends->St->Hp->Prop
def EP(X:Cx)(pins:io)(σ:St)(Q:VK)(u:Value)(s':Shared):Prop:=∃v H',Inv X pins σ H' s'/\RelV v u/\Q v H'
def TP(X:Cx)(pins:io)(σ:St)(Q:Bool->Hp->Prop)(b:Bool)(s':Shared):Prop:=∃H',Inv X pins σ H' s'/\Q b H'
def AP(X:Cx)(pins:io)(σ:St)(Q:List V->Hp->Prop)(us:dL)(s':Shared):Prop:=∃vs H',Inv X pins σ H' s'/\Vals vs us/\Q vs H'
def SP(X:Cx)(pins:io)(D:Ends)(f:Flow)(s':Shared):Prop:=match f with|.next=>∃aA H',Inv X pins aA H' s'/\D.nx aA H'|.brk=>∃aA H',Inv X pins aA H' s'/\D.bk aA H'|.cont=>∃aA H',Inv X pins aA H' s'/\D.ct aA H'|.ret u=>∃v aA H',Inv X pins aA H' s'/\RelV v u/\D.rt v H'
def PE(X:Cx)(e:Expr)(t:TE):Prop:=∀(pins:io)(s:Shared)(σ:St)(H:Hp)(Q:VK),Inv X pins σ H s->t σ H Q->wpAny (model X.prog X.w) X.A (eval e X.env) (EP X pins σ Q) X.xe s
def PT(X:Cx)(e:Expr)(t:TT):Prop:=∀(pins:io)(s:Shared)(σ:St)(H:Hp)(Q:Bool->Hp->Prop),Inv X pins σ H s->t σ H Q->wpAny (model X.prog X.w) X.A (isTrue e X.env<|eval e X.env) (TP X pins σ Q) X.xe s
def PW(X:Cx)(e:Expr)(t:TT):Prop:=∀(whole:Sem Value)(pins:io)(s:Shared)(σ:St)(H:Hp)(Q:Bool->Hp->Prop),Inv X pins σ H s->t σ H Q->wpAny (model X.prog X.w) X.A (isTrue e X.env whole) (TP X pins σ Q) X.xe s
theorem PW.pt{t:TT}(h:PW X e t):PT X e t:=h _
def PA(X:Cx)(es:mt)(t:TA):Prop:=∀(pos:Pos)(pins:io)(s:Shared)(σ:St)(H:Hp)(Q:List V->Hp->Prop),Inv X pins σ H s->t σ H Q->wpAny (model X.prog X.w) X.A (spliced<|backTo pos<|starEach es X.env) (AP X pins σ Q) X.xe s
def PS(X:Cx)(st:Stmt)(t:TS):Prop:=∀(pins:io)(s:Shared)(σ:St)(H:Hp)(D:Ends),Inv X pins σ H s->t D σ H->wpAny (model X.prog X.w) X.A (exec st X.env) (SP X pins D) X.xe s
def Ec(X:Cx)(st:pc)(t:TS):Prop:=∀(pins:io)(s:Shared)(σ:St)(H:Hp)(D:Ends),Inv X pins σ H s->t D σ H->wpAny (model X.prog X.w) X.A (execs st X.env) (SP X pins D) X.xe s
theorem ba{t:Sem α}(h:wpAny M A t Q E s)(hQ:∀a s,Q a s->Q' a s):wpAny M A t Q' E s:=yx h hQ λ_ _ x=>x
section
variable{X:Cx}
def Y2(i:Nat):TE:=λσ H Q=>∃v,σ[i]?=some (some v)/\Q v H
def tC(v:V):TE:=λ_ H Q=>Q v H
theorem Pr(hN:X.N[i]?=some x)(hv:Pl X.env.scope x)(hd:autoParam ((x==("__debug__": Str))=false) qQZ)(tN:autoParam ((x==("__classdict__": Str))=false) qQZ):PE X (.Name x pos) (Y2 i):=by intro pins s σ H Q I h;obtain⟨v,e,h⟩:=h;obtain⟨m,hn,hl⟩:=I.loc;obtain⟨u,r,l⟩:=hl i x v hN e hv;have fin:EP X pins σ Q u s:=⟨v,H,I,r,h⟩;rcases l with⟨hk,hm⟩|⟨hk,c,hc,Ed⟩;exact wpAny_Name (wpAny_loadName_local I.ok.kind hk hn hm fin) hd;rcases hk with hk|hk;exact wpAny_Name (wpAny_loadName_cell I.ok.kind hk hc Ed fin) hd;exact wpAny_Name (wpAny_loadName_free I.ok.kind hk hc Ed fin tN) hd
theorem Pt:PE X (.Constant (.int i) j pos) (tC<|.int i):=λ_ _ _ H _ I h=>wpAny_Constant_int {.int i,H,I.tok _,{_,rfl},h}
theorem NT:PE X (.Constant (.bool b) j pos) (tC<|.bl b):=λ_ _ _ H _ I h=>Constant_bool {.bl b,H,I,rfl,h}
theorem Pu:PE X (.Constant .none j pos) (tC .au):=λ_ _ _ H _ I h=>Constant_none {.au,H,I,rfl,h}
theorem Pw:PE X (.Constant (.str x) j pos) (tC<|.str x):=λ_ _ _ H _ I h=>Calls.Constant_str {.str x,H,I.tok _,{_,rfl},h}
def Gl(X:Cx)(x:Str):Prop:=X.env.kindOf x=some .globalImplicit
theorem v7(I:Inv X pins σ H s)(hg:Gl X x)(hm:X.mg x=some u)(h:Q u s)(hd:autoParam ((x==("__debug__": Str))=false) qQZ):wpAny (model X.prog X.w) X.A (eval (.Name x pos) X.env) Q E s:=Calls.Name_function_global I.ok.kind hg (Calls.loadGlobal_global (by rw[I.ok.glob];exact I.mod.glob.keeps I.bk) hm h) hd
theorem gs(I:Inv X pins σ H s)(hg:Gl X x)(hm:X.mg x=none)(hv:bootBuiltins x=some u)(h:Q u s)(hn:autoParam (x≠"__name__") qQZ)(hd:autoParam ((x==("__debug__": Str))=false) qQZ):wpAny (model X.prog X.w) X.A (eval (.Name x pos) X.env) Q E s:=by obtain⟨mb,h1,h2⟩:=I.mod.blt;exact Calls.Name_function_global I.ok.kind hg (Calls.loadGlobal_builtin (by rw[I.ok.glob];exact I.mod.glob.keeps I.bk) hm (by rw[I.ok.blt];exact h1.keeps I.bk) ((h2 x hn).trans hv) h) hd
theorem Ee(hg:Gl X x)(hm:X.mg x=some u)(r:RelV v u)(hd:autoParam ((x==("__debug__": Str))=false) qQZ):PE X (.Name x pos) (tC v):=λ_ _ _ H _ I h=>v7 I hg hm ⟨v,H,I,r,h⟩ hd
theorem Lp(hg:Gl X x)(hm:X.mg x=none)(hv:bootBuiltins x=some u)(r:RelV v u)(hn:autoParam (x≠"__name__") qQZ)(hd:autoParam ((x==("__debug__": Str))=false) qQZ):PE X (.Name x pos) (tC v):=λ_ _ _ H _ I h=>gs I hg hm hv ⟨v,H,I,r,h⟩ hn hd
variable{a b:Expr}{ta tb:TE}{pos:Pos}
def tB(t:TE):TT:=λσ H Q=>t σ H λx H1=>∃c,x=.bl c/\Q c H1
theorem Px{t:TE}(h:PE X e t)(he:autoParam (∀whole,isTrue e X.env whole=(do let v <-whole;standAt e.pos;holding [v] (truthy v))) qQ0):PT X e (tB t):=by intro pins s σ H Q I hw;refine isTrue_plain (ba (h pins s σ H _ I hw) λv s1 ⟨x,H1,I1,r1,q1⟩=>?_)<|he _;obtain⟨d,rfl,q⟩:=q1;cases r1;exact yy ⟨H1,I1,q⟩
variable{tA X1:TT}{rest:mt}
def Y3(t u:TT):TT:=λσ H Q=>t σ H λc H1=>if c=true then u σ H1 Q else Q false H1
def tOr(t u:TT):TT:=λσ H Q=>t σ H λc H1=>if c=true then Q true H1 else u σ H1 Q
def Y4(t:TT):TT:=λσ H Q=>t σ H λc H1=>Q (!c) H1
theorem pw_and1(ha:PT X a tA):PW X (.BoolOp .And [a] pos) tA:=by intro wh pins s σ H Q I h;refine isTrue_and<|ba (ha pins s σ H Q I h) λc s1 e=>?_;cases c with|true=>exact isTrue_and_nil e|false=>exact e
theorem pw_or1(ha:PT X a tA):PW X (.BoolOp .Or [a] pos) tA:=by intro wh pins s σ H Q I h;refine isTrue_or<|ba (ha pins s σ H Q I h) λc s1 e=>?_;cases c with|false=>exact isTrue_or_nil e|true=>exact e
theorem pw_and(ha:PT X a tA)(hb:PW X (.BoolOp .And (b::rest) pos) X1):PW X (.BoolOp .And (a::b::rest) pos) (Y3 tA X1):=by intro wh pins s σ H Q I h;refine isTrue_and<|ba (ha pins s σ H _ I h) ?_;rintro c s1 ⟨H1,I1,q1⟩;cases c with|true=>exact hb wh pins s1 σ H1 Q I1 q1|false=>exact⟨H1,I1,q1⟩
theorem pw_or(ha:PT X a tA)(hb:PW X (.BoolOp .Or (b::rest) pos) X1):PW X (.BoolOp .Or (a::b::rest) pos) (tOr tA X1):=by intro wh pins s σ H Q I h;refine isTrue_or<|ba (ha pins s σ H _ I h) ?_;rintro c s1 ⟨H1,I1,q1⟩;cases c with|true=>exact⟨H1,I1,q1⟩|false=>exact hb wh pins s1 σ H1 Q I1 q1
theorem Py(ha:PT X a tA):PT X (.UnaryOp .Not a pos) (Y4 tA):=by intro pins s σ H Q I h;exact isTrue_not<|ha pins s σ H (λc H1=>Q (!c) H1) I h
def Uq(ta tb:TE):TE:=λσ H Q=>ta σ H λx H1=>∃c,x=.bl c/\if c=true then tb σ H1 Q else Q (.bl false) H1
def Y5(ta tb:TE):TE:=λσ H Q=>ta σ H λx H1=>∃c,x=.bl c/\if c=true then Q (.bl true) H1 else tb σ H1 Q
def Ur(ta:TE):TE:=λσ H Q=>ta σ H λx H1=>∃c,x=.bl c/\Q (.bl<|!c) H1
theorem Pz{t:TE}(h:PE X a t):PE X (.BoolOp op [a] pos) t:=λpins s σ H Q I hw=>BoolOp_one<|h pins s σ H Q I hw
theorem PB(ha:PE X a ta)(hb:PE X (.BoolOp .And (b::rest) pos) tb):PE X (.BoolOp .And (a::b::rest) pos) (Uq ta tb):=by intro pins s σ H Q I h;refine BoolOp_and<|ba (ha pins s σ H _ I h) ?_;rintro v s1 ⟨x,H1,I1,r1,q1⟩;obtain⟨c,rfl,q1⟩:=q1;cases r1;refine yy ?_;cases c with|true=>exact hb pins s1 σ H1 Q I1 q1|false=>exact{.bl false,H1,I1,rfl,q1}
theorem Us(ha:PE X a ta)(hb:PE X (.BoolOp .Or (b::rest) pos) tb):PE X (.BoolOp .Or (a::b::rest) pos) (Y5 ta tb):=by intro pins s σ H Q I h;refine BoolOp_or<|ba (ha pins s σ H _ I h) ?_;rintro v s1 ⟨x,H1,I1,r1,q1⟩;obtain⟨c,rfl,q1⟩:=q1;cases r1;refine yy ?_;cases c with|false=>exact hb pins s1 σ H1 Q I1 q1|true=>exact{.bl true,H1,I1,rfl,q1}
theorem PC(ha:PE X a ta):PE X (.UnaryOp .Not a pos) (Ur ta):=by intro pins s σ H Q I h;refine UnaryOp_<|ba (ha pins s σ H _ I h) ?_;rintro v s1 ⟨x,H1,I1,r1,q1⟩;obtain⟨c,rfl,q1⟩:=q1;cases r1;exact not_of<|yy {.bl<|!c,H1,I1,rfl,q1}
def tIf(t:TT)(ta tb:TE):TE:=λσ H Q=>t σ H λc H1=>if c=true then ta σ H1 Q else tb σ H1 Q
theorem HJ(hc:PT X c tA)(ha:PE X a ta)(hb:PE X b tb):PE X (.IfExp c a b pos) (tIf tA ta tb):=by intro pins s σ H Q I h;refine wpAny_IfExp<|ba (hc pins s σ H _ I h) ?_;rintro d s1 ⟨H1,I1,q1⟩;cases d with|true=>exact ha pins s1 σ H1 Q I1 q1|false=>exact hb pins s1 σ H1 Q I1 q1
end
def iQ(K:Frag)(H:Hp)(a:Addr)(xs:cr):Prop:=Rd H a (.lst xs)\/∃(o:Obj)(ax:ii)(n:Nat),K.lookup a=some o/\o.cls=.type "list"/\o.dict=none/\o.data=.seq ax n/\ax.size<=sizeLine/\Vals xs ax.toList
def gu(K:Frag)(H:Hp)(a:Addr)(xs:cr):Prop:=Rd H a (.tup xs)\/∃(o:Obj)(ax:ii)(n:Nat),K.lookup a=some o/\o.cls=.type "tuple"/\o.data=.seq ax n/\ax.size<=sizeLine/\Vals xs ax.toList
noncomputable def Y6:Value->Option V|.none=>some .au|.bool b=>some (.bl b)|.int i _=>some (.int i)|.str x _=>some (.str x)|.bytes b _=>some (.Eb b)|.float b _=>some (.Pk b)|.ref a=>some (.ref a)|.type n=>some (.ty n)|_=>none
theorem RelV.abs(r:RelV x u):Y6 u=some x:=by cases x with|au=>(cases r;rfl)|bl _=>(cases r;rfl)|int _=>(obtain⟨t,rfl⟩:=r;rfl)|str _=>(obtain⟨t,rfl⟩:=r;rfl)|Eb _=>(obtain⟨t,rfl⟩:=r;rfl)|Pk _=>(obtain⟨t,rfl⟩:=r;rfl)|ref _=>(cases r;rfl)|ty _=>cases r;rfl
theorem RelV.inj(r:RelV x u)(q:RelV y u):x=y:=zT<|r.abs.symm.trans q.abs
theorem Vals.inj:∀{xs ys:cr}{us:dL},Vals xs us->Vals ys us->xs=ys|_,_,_,.nil,.nil=>rfl|_,_,_,.cons r t,.cons r' t'=>by rw[r.inj r',Vals.inj t t']
section
variable{X:Cx}{pins:io}{σ:St}{H:Hp}{s:Shared}{a:Addr}{xs ys:cr}
theorem iQ.of{K:Frag}(h:H a=some (.lst xs)):iQ K H a xs:=.inl<|.inl h
theorem gu.of{K:Frag}(h:H a=some (.tup xs)):gu K H a xs:=.inl<|.inl h
theorem Inv.list(I:Inv X pins σ H s)(h:iQ X.K H a xs):∃ax:dL,Vals xs ax/\PlainL s.heap a ax.toArray/\xs.length<=sizeLine:=by rcases h with h|⟨o,ax,n,hk,hc,hd,hs,hz,r⟩;obtain⟨z,ax,n,r,e⟩:=h.ok I.aG;exact{ax,r,{_,n,e,rfl,rfl,rfl},z};refine{ax.toList,r,{o,n,I.ph a o hk,hc,hd,by simpa using hs},?_};have e:=r.length;simp only[yd]at e;lia
theorem Inv.tuple(I:Inv X pins σ H s)(h:gu X.K H a xs):∃ax:dL,Vals xs ax/\IsTup s.heap a ax.toArray/\xs.length<=sizeLine:=by rcases h with h|⟨o,ax,n,hk,hc,hs,hz,r⟩;obtain⟨z,ax,r,p⟩:=h.ok I.aG;exact⟨ax,r,p.tup,z⟩;refine{ax.toList,r,{o,I.ph a o hk,hc,n,by simpa using hs},?_};have e:=r.length;simp only[yd]at e;lia
theorem Inv.y_(I:Inv X pins σ H s)(h:iQ X.K H a xs)(h':iQ X.K H a ys):xs=ys:=by
 obtain⟨ax,r,⟨o,n,e,_,_,d⟩,_⟩:=I.list h;obtain⟨its',r',⟨o',n',e',_,_,d'⟩,_⟩:=I.list h';rw[e]at e';cases e';rw[d]at d';injection d' with d1 _;have:ax=its':=by simpa using congrArg Array.toList d1
 subst this;exact r.inj r'
theorem Inv.nO(I:Inv X pins σ H s)(h:gu X.K H a xs)(h':gu X.K H a ys):xs=ys:=by
 obtain⟨ax,r,⟨o,e,_,n,d⟩,_⟩:=I.tuple h;obtain⟨its',r',⟨o',e',_,n',d'⟩,_⟩:=I.tuple h';rw[e]at e';cases e';rw[d]at d';injection d' with d1 _;have:ax=its':=by simpa using congrArg Array.toList d1
 subst this;exact r.inj r'
end
noncomputable abbrev Cx.adO(X:Cx)(E:li):Cx:={X with xe:=E}
section
variable{X:Cx}{st:Stmt}{rest:pc}{t u:TS}{e:Expr}{te:TE}{pos:Pos}
def Ut:TS:=λD σ H=>D.nx σ H
def Y7(t u:TS):TS:=λD σ H=>t {D with nx:=u D} σ H
theorem Lq:Ec X [] Ut:=λ_ _ σ H _ I h=>wpAny_execs_nil ⟨σ,H,I,h⟩
theorem HK(h1:PS X st t)(h2:Ec X rest u):Ec X (st::rest) (Y7 t u):=by intro pins s σ H D I h;refine wpAny_execs_cons<|ba (h1 pins s σ H {D with nx:=u D} I h) λf s1 q=>?_;cases f with|next=>(obtain⟨aA,H',I',q⟩:=q;exact h2 pins s1 aA H' D I' q)|ret v=>exact q|brk=>exact q|cont=>exact q
theorem Ls(h1:PS X st t):Ec X [st] t:=by intro pins s σ H D I h;refine wpAny_execs_cons<|ba (h1 pins s σ H D I h) λf s1 q=>?_;cases f with|next=>exact wpAny_execs_nil q|ret v=>exact q|brk=>exact q|cont=>exact q
theorem Inv.quiet(I:Inv X pins σ H s):interactive X.env=false:=by simp[interactive,I.ok.kind]
def Uu(te:TE):TS:=λD σ H=>te σ H λ_ H1=>D.nx σ H1
theorem Lu(he:PE X e te)(hs:autoParam (swapsWith e none pos.line X.env=pure false) qQJ):PS X (.Expr e pos) (Uu te):=by intro pins s σ H D I h;exact wpAny_Expr_any (ba (he pins s σ H _ I h) <| by rintro v s1 ⟨x,H1,I1,r1,q1⟩;exact⟨σ,H1,I1,q1⟩) I.quiet hs
def Y8(te:TE):TS:=λD σ H=>te σ H D.rt
theorem PD(he:PE X e te):PS X (.Return (some e) pos) (Y8 te):=by intro pins s σ H D I h;exact wpAny_Return_some<|ba (he pins s σ H _ I h) <| by rintro v s1 ⟨x,H1,I1,r1,q1⟩;exact⟨x,σ,H1,I1,r1,q1⟩
def Y9(c:TT)(t u:TS):TS:=λD σ H=>c σ H λb H1=>if b=true then t D σ H1 else u D σ H1
theorem Uv(hc:PT X c tc)(ha:Ec X a t)(hb:Ec X b u):PS X (.If c a b pos) (Y9 tc t u):=by intro pins s σ H D I h;refine wpAny_If<|ba (hc pins s σ H _ I h) ?_;rintro d s1 ⟨H1,I1,q1⟩;cases d with|true=>exact ha pins s1 σ H1 D I1 q1|false=>exact hb pins s1 σ H1 D I1 q1
end
abbrev TG:=V->St->Hp->(St->Hp->Prop)->Prop
abbrev NU:=List V->St->Hp->(St->Hp->Prop)->Prop
def PG(X:Cx)(target:Expr)(t:TG):Prop:=∀(pins:io)(s:Shared)(σ:St)(H:Hp)(v:V)(u:Value)(Q:St->Hp->Prop),Inv X pins σ H s->RelV v u->t v σ H Q->wpAny (model X.prog X.w) X.A (assign target X.env u) (λ_ s'=>∃aA H',Inv X pins aA H' s'/\Q aA H') X.xe s
def NV(X:Cx)(ts:mt)(t:NU):Prop:=∀(pins:io)(s:Shared)(σ:St)(H:Hp)(vs:cr)(us:dL)(Q:St->Hp->Prop),Inv X pins σ H s->Vals vs us->t vs σ H Q->wpAny (model X.prog X.w) X.A (assignInOrder ((assignEach ts X.env).map (·.2)) us) (λ_ s'=>∃aA H',Inv X pins aA H' s'/\Q aA H') X.xe s
abbrev PF:=V->V->V->Hp->(Hp->Prop)->Prop
def Uw(X:Cx)(t:PF):Prop:=∀(pins:io)(s:Shared)(σ:St)(H:Hp)(o i v:V)(ov iv u:Value)(Q:Hp->Prop),Inv X pins σ H s->RelV o ov->RelV i iv->RelV v u->t o i v H Q->wpAny (model X.prog X.w) X.A (setItem ov iv u) (λ_ s'=>∃H',Inv X pins σ H' s'/\Q H') X.xe s
abbrev Y_:=V->V->Hp->VK->Prop
def PIp(X:Cx)(op:Operator)(t:Y_):Prop:=∀(pins:io)(s:Shared)(σ:St)(H:Hp)(x y:V)(v u:Value)(Q:VK),Inv X pins σ H s->RelV x v->RelV y u->t x y H Q->wpAny (model X.prog X.w) X.A (inplaceOp op v u) (EP X pins σ Q) X.xe s
section
variable{X:Cx}{pos:Pos}
def iB(i:Nat):TG:=λv σ H Q=>Q (σ.set i<|some v) H
theorem qD(hN:X.N.Nodup)(hi:X.N[i]?=some x)(hx:Loc X.env.scope x)(hf:autoParam (X.fn x=true\/X.env.scope.names.lookup x=some .local) qQ8):PG X (.Name x pos) (iB i):=by intro pins s σ H v u Q I r h;exact wpAny_assign_Name<|i4 I hN hi hx r (λs' I'=>{_,H,I',h}) hf
def Lv:NU:=λvs σ H Q=>vs=[]/\Q σ H
def qU(t:TG)(u:NU):NU:=λvs σ H Q=>∃v r,vs=v::r/\t v σ H λaA H'=>u r aA H' Q
theorem Ef:NV X [] Lv:=by intro pins s σ H vs us Q I r h;obtain⟨e,h⟩:=h;subst e;cases r;exact assignInOrder_nil ⟨σ,H,I,h⟩
theorem qW{t:TG}(h1:PG X e t)(h2:NV X es u)(hs:autoParam ((assignEach (e::es) X.env).map (·.2)=assign e X.env::(assignEach es X.env).map (·.2)) qQJ):NV X (e::es) (qU t u):=by intro pins s σ H vs us Q I r h;obtain⟨v,vr,e1,h⟩:=h;subst e1;cases r with|cons r rr=>rw[hs];refine assignInOrder_cons<|ba (h1 pins s σ H _ _ _ I r h) ?_;rintro _ s1 ⟨y0,H1,I1,q1⟩;exact h2 pins s1 y0 H1 _ _ Q I1 rr q1
def Lw(K:Frag)(n:Nat)(t:NU):TG:=λv σ H Q=>∃a xs,v=.ref a/\gu K H a xs/\xs.length=n/\t xs σ H Q
theorem HL{t:NU}(hc:X.calm=true)(h:NV X es t)(hn:autoParam ((assignEach es X.env).length=n) qQJ)(z_:autoParam ((assignEach es X.env).findIdx? (·.1)=none) qQJ):PG X (.Tuple es k pos) (Lw X.K n t):=by intro pins s σ H v u Q I r hw;obtain⟨a,xs,e1,hq,hl,hw⟩:=hw;subst e1;cases r;obtain⟨ax,rv,ht,hz⟩:=I.tuple hq;refine assign_Tuple_tuple (I.ok.hd hc) ht (by simp[hn,<-hl,rv.length]) z_ λh' hx=>?_;have I1:Inv X pins σ H {s with heap:=h'}:=I.kept (t':=s.toks) λb o e=>hx b o (zD<|zw e) e;exact h pins _ σ H xs _ Q I1 (by simpa using rv) hw
def Za(to ti:TE)(t:PF):TG:=λv σ H Q=>to σ H λo H1=>ti σ H1 λi H2=>t o i v H2 λH3=>Q σ H3
theorem PH{t:PF}(ho:PE X o to)(hi:PE X i ti)(hs:Uw X t)
  (ha:autoParam (∀v,assign (.Subscript o i pos) X.env v=(do
   let ov <-holding [v] (eval o X.env)
   let iv <-holding [v,ov] (eval i X.env)
   standAt pos
   holding [v,ov,iv] (setItem ov iv v)
   release [v,ov,iv] [])) qQ0):PG X (.Subscript o i pos) (Za to ti t):=by
 intro pins s σ H v u Q I r h
 rw[ha]
 refine zc<|yO<|ba (ho pins s σ H _ I h) ?_
 rintro ov s1 ⟨x,H1,I1,r1,q1⟩
 refine zc<|yO<|ba (hi pins s1 σ H1 _ I1 q1) ?_
 rintro iv s2 ⟨y,H2,I2,r2,q2⟩
 refine zc<|wpAny_standAt<|zc<|yO<|ba (hs pins s2 σ H2 x y v ov iv u _ I2 r1 r2 r q2) ?_
 rintro _ s3 ⟨H3,I3,q3⟩
 exact wpAny_release ⟨σ,H3,I3,q3⟩
def PJ(te:TE)(g:TG):TS:=λD σ H=>te σ H λx H1=>g x σ H1 D.nx
theorem HM(he:PE X e te)(hg:PG X tg g)(hs:autoParam (swapsWithSole [tg] e pos.line X.env=pure false) qQJ)(hw:autoParam (swappedStores [tg] e X.env=pure none) qQJ)(h1:autoParam ((assignEach [tg] X.env).map (·.2)=[assign tg X.env]) qQJ):PS X (.Assign [tg] e pos) (PJ te g):=by intro pins s σ H D I h;refine wpAny_Assign_stores (ba (he pins s σ H _ I h) λv s1 ⟨x,H1,I1,r1,q1⟩=>?_) hs hw;rw[h1];exact ba (hg pins s1 σ H1 x v _ I1 r1 q1) λ_ s2 q=>q
theorem PK(hN:X.N.Nodup)(hi:X.N[i]?=some x)(hx:Loc X.env.scope x)(he:PE X e te)(hs:autoParam (swapsWith e (some<|.Name x pos') pos.line X.env=pure false) qQJ)(hf:autoParam (X.fn x=true\/X.env.scope.names.lookup x=some .local) qQ8): PS X (.Assign [.Name x pos'] e pos) (PJ te<|iB i):=by intro pins s σ H D I h;refine wpAny_Assign_Name (ba (he pins s σ H _ I h) λv s1 ⟨y,H1,I1,r1,q1⟩=>?_) hs;exact i4 I1 hN hi hx r1 (λs2 I2=>{_,H1,I2,q1}) hf
def Zb(i j:Nat)(ta:TA):TS:=λD σ H=>ta σ H λvs H1=>∃v w,vs=[v,w]/\D.nx ((σ.set i<|some v).set j<|some w) H1
theorem PL(hc:X.calm=true)(hN:X.N.Nodup)(hi:X.N[i]?=some x)(hj:X.N[j]?=some y)(i5:i≠j)(hx:X.env.scope.names.lookup x=some .local)(hy:X.env.scope.names.lookup y=some .local)(ha:PA X [a,b] ta)(hw:swappedStores [.Tuple [.Name x px,.Name y py] kt pt] (.Tuple [a,b] k2 pt2) X.env=pure (some [x,y]))(hs:autoParam (swapsWithSole [.Tuple [.Name x px,.Name y py] kt pt] (.Tuple [a,b] k2 pt2) pos.line X.env=pure false) qQJ): PS X (.Assign [.Tuple [.Name x px,.Name y py] kt pt] (.Tuple [a,b] k2 pt2) pos) (Zb i j ta):=by
 intro pins s σ H D I h;rw[exec_Assign_arm];refine zc<|wpAny_standAt ?_;rw[hs];refine zc<|zy ?_;rw[if_neg<|by decide];refine zc<|Tuple_<|ba (ha _ pins s σ H _ I h) ?_;rintro us s1 ⟨vs,H1,I1,r1,q1⟩;obtain⟨v,w,e1,q1⟩:=q1;subst e1;obtain⟨u1,u2,rfl,rv,l6⟩:∃u1 u2,us=[u1,u2]/\RelV v u1/\RelV w u2:=by cases r1 with|cons p q=>cases q with|cons p' q'=>cases q';exact{_,_,rfl,p,p'}
 refine yG ?_ (by show 2<=sizeLine;decide);have I2:Inv X pins σ H1 {s1 with heap:=s1.heap.push {cls:=.type "tuple",data:=.seq [u1,u2].toArray}}:=I1.kept (t':=s1.toks) λb o e=>za _ e;rw[hw];refine zc<|zy ?_;show wpAny (model X.prog X.w) X.A (do rule "assign.swapped-stores";let items <-unpackItems (.ref s1.heap.objs.size) 2 none;assignInOrder [λv=>bindName X.env y v,λv=>bindName X.env x v] items.reverse;pure Flow.next) _ _ _;refine zc<|yY<|zc<|unpackItems_tuple (items:=#[u1,u2]) (I.ok.hd hc) (IsTup.new s1.heap _) λh' FI=>?_;have I3:=I2.kept (h':=h') (t':=s1.toks) λb o e=>FI b o (zD<|zw e) e;show wpAny _ _ (assignInOrder [λv=>bindName X.env y v,λv=>bindName X.env x v] [u2,u1] >>=λ_=>pure Flow.next) _ _ _;refine zc<|assignInOrder_cons<|wpAny_bindName<|i4 I3 hN hj (.inl hy) l6 (λs2 I4=>?_)<|.inr hy;refine assignInOrder_cons<|wpAny_bindName<|i4 I4 hN hi (.inl hx) rv (λs3 I5=>assignInOrder_nil<|zy ?_)<|.inr hx;rw[List.set_comm _ _<|Ne.symm i5]at I5;exact{_,H1,I5,q1}
def Zc(i:Nat)(te:TE)(ti:Y_):TS:=λD σ H=>∃x,σ[i]?=some (some x)/\te σ H λy H1=>ti x y H1 λz H2=>D.nx (σ.set i<|some z) H2
theorem PM(hN:X.N.Nodup)(hi:X.N[i]?=some x)(hx:Loc X.env.scope x)(he:PE X e te)(ho:PIp X op ti)(hf:autoParam (X.fn x=true\/X.env.scope.names.lookup x=some .local) qQ8): PS X (.AugAssign (.Name x pos') op e pos) (Zc i te ti):=by
 intro pins s σ H D I h;obtain⟨v,e1,h⟩:=h;obtain⟨m,hn,hl⟩:=I.loc;have vis:Pl X.env.scope x:=by rcases hx with k|k;exact .inl k;exact .inr<|.inl k
 obtain⟨u,r,l⟩:=hl i x v hi e1 vis;refine wpAny_AugAssign_Name ?_;have go:wpAny (model X.prog X.w) X.A (eval e X.env) (λw bG=>wpAny (model X.prog X.w) X.A (inplaceOp op u w) (λr tY=>wpAny (model X.prog X.w) X.A (storeName X.env x r) (λ_=>SP X pins D .next) X.xe tY) X.xe bG) X.xe s:=by refine ba (he pins s σ H _ I h) ?_;rintro w s1 ⟨y,H1,I1,r1,q1⟩;refine ba (ho pins s1 σ H1 v y u w _ I1 r r1 q1) ?_;rintro z s2 ⟨zv,H2,I2,r2,q2⟩;exact i4 I2 hN hi hx r2 (λs3 I3=>{_,H2,I3,q2}) hf
 rcases l with⟨hk,hm⟩|⟨hk,c,hc,Ed⟩;exact wpAny_loadName_local I.ok.kind hk hn hm go;rcases hk with hk|hk;exact wpAny_loadName_cell I.ok.kind hk hc Ed go;rcases hx with k|k;have:X.env.scope.names.lookup x=some .free:=hk;rw[k]at this;cases this;have:X.env.scope.names.lookup x=some .free:=hk;rw[k]at this;cases this
def ipI(f:Int->Int->Int):Y_:=λx y H Q=>∃i j,x=.int i/\y=.int j/\Q (.int<|f i j) H
theorem PN:PIp X .Add (ipI λi j=>i+j):=by intro pins s σ H x y v u Q I r1 r2 h;obtain⟨i,j,e1,e2,q⟩:=h;subst e1;subst e2;obtain⟨t,rfl⟩:=r1;obtain⟨t',rfl⟩:=r2;exact iadd_int {.int _,H,I.tok _,{_,rfl},q}
def PQ(c:TT)(tb:TS):TS:=λD σ H=>∃W:Nat->St->Hp->Prop,(∃m,W m σ H)/\∀m σ H,W m σ H->c σ H λb H1=>if b=true then ∃N:St->Hp->Prop,(∀aA H',N aA H'->∃m',m'<m/\W m' aA H')/\tb {D with nx:=N,ct:=N,bk:=D.nx} σ H1 else D.nx σ H1
theorem HN(hp:PassesOwn (model X.prog X.w) X.A X.env X.xe)(hc:PT X c tc)(hb:Ec X body tb):PS X (.While c body [] pos) (PQ tc tb):=by intro pins s σ H D I h;obtain⟨W,⟨m0,w0⟩,turn⟩:=h;refine wpAny_While<|codeAny_whileLoop (λn s'=>∃aA H',Inv X pins aA H' s'/\W n aA H') ?_ m0 ⟨σ,H,I,w0⟩;rintro n s1 ⟨y0,H1,I1,w1⟩;refine wpAny_passesOwn hp<|ba (hc pins s1 y0 H1 _ I1<|turn n y0 H1 w1) ?_;rintro b s2 ⟨H2,I2,q2⟩;cases b with|true=>(obtain⟨N,hN,q2⟩:=q2;rw[if_pos rfl];refine wpAny_passesOwn hp<|ba (hb pins s2 y0 H2 _ I2 q2) λf s3 q3=>?_;cases f with|next=>(obtain⟨fP,H3,I3,n3⟩:=q3;obtain⟨m',hm,w3⟩:=hN fP H3 n3;exact⟨m',hm,fP,H3,I3,w3⟩)|cont=>(obtain⟨fP,H3,I3,n3⟩:=q3;obtain⟨m',hm,w3⟩:=hN fP H3 n3;exact⟨m',hm,fP,H3,I3,w3⟩)|brk=>exact q3|ret v=>exact q3)|false=>rw[if_neg zd];exact wpAny_execs_nil ⟨y0,H2,I2,q2⟩
end
structure It where
 go:Nat->Hp->Prop
 Ux:Nat->Hp->V->Hp->Prop
 stop:Nat->Hp->Prop
def t5(X:Cx)(pins:io)(H:Hp)(b:Addr):Prop:=H b=none/\b≠X.env.locals/\b∉X.fs/\(b∈X.ex\/X.dm.heap.objs.size<=b)/\(∀x c,X.env.cells.lookup x=some c->c≠b)/\∀p∈X.pn++pins,p.1≠b
theorem Inv.qf(I:Inv X pins σ H s)(hb:s.heap.objs.size<=b)(hn:H' b=none):t5 X pins H' b:=by refine{hn,yr<|zp I.lt hb,I.Uk hb,.inr<|zI I.sz hb,λx c e z=>?_,λp hp z=>?_};obtain⟨v,q⟩:=I.cell x c e;exact absurd (zp q.lt<|by rw[z];exact hb)<|yF _;exact absurd (zp (zw (I.pin p hp).1)<|by rw[z];exact hb)<|yF _
structure Turn(P:Program)(w:World)(K:Frag)(tg:Expr)(J:It)(fp:im)(it:Addr)(tn:Nat->Heap->Prop):Prop where
 mem:it∈fp
 obj:∀i h,tn i h->∀b∈fp,∃o,h.get? b=some o/\∀v,o.data≠.cell v
 keep:∀i h h',tn i h->(∀b∈fp,∀o,h.get? b=some o->h'.get? b=some o)->tn i h'
 item:∀(X:Cx),X.prog=P->X.w=w->X.K=K->X.calm=true->∀(i:Nat)(pins:io)(s:Shared)(σ:St)(H:Hp)(E:li),Inv X pins σ H s->(∀b∈fp,t5 X pins H b)->tn i s.heap->J.go i H ->
  wpAny (model P w) X.A (pyNext<|.ref it) (λr s1=>∃u,r=some u /\
   wpAny (model P w) X.A (letOwnedTupleGo tg (.ref it) u) (λ_ s2=>∃x H',Inv X pins σ H' s2/\RelV x u/\J.Ux i H x H'/\tn (i+1) s2.heap/\∀b∈fp,H' b=none) E s1) E s
 done:∀(X:Cx),X.prog=P->X.w=w->X.K=K->X.calm=true->∀(i:Nat)(pins:io)(s:Shared)(σ:St)(H:Hp)(E:li),Inv X pins σ H s->(∀b∈fp,t5 X pins H b)->tn i s.heap->J.stop i H ->
  wpAny (model P w) X.A (pyNext<|.ref it) (λr s1=>r=none/\Inv X pins σ H s1) E s
 self:∀(A:Around)(i:Nat)(s:Shared)(Q:li)(E:li),tn i s.heap->Q (.ref it) s->wpAny (model P w) A (pyIter<|.ref it) Q E s
abbrev TI:=St->Hp->(It->Hp->Prop)->Prop
def Zd(X:Cx)(pins:io)(σ:St)(tg:Expr)(R:It->Hp->Prop)(X2:Value)(s2:Shared):Prop:=∃(it:Addr)(fp:im)(tn:Nat->Heap->Prop)(J:It)(H':Hp),X2=.ref it/\Inv X pins σ H' s2/\Turn X.prog X.w X.K tg J fp it tn/\tn 0 s2.heap/\(∀b∈fp,t5 X pins H' b)/\R J H'
def PI(X:Cx)(tg iter:Expr)(wi:TI):Prop:=∀(pins:io)(s:Shared)(σ:St)(H:Hp)(R:It->Hp->Prop),Inv X pins σ H s->wi σ H R->wpAny (model X.prog X.w) X.A (eval iter X.env) (λv s1=>wpAny (model X.prog X.w) X.A (pyIter v) (Zd X pins σ tg R) X.xe s1) X.xe s
theorem uN(ho:s.heap.get? it=some o)(hc:o.cls=.type n)(hd:o.data=.fields vs)(hn:["enumerate","zip","dict_itemiterator","dict_reverseitemiterator","odict_iterator","itertools.zip_longest","itertools.pairwise"].contains n=false)(hQ:Q () s):wpAny M A (letOwnedTupleGo tg (.ref it) u) Q E s:=by
 unfold letOwnedTupleGo
 cases tg<;>first
  |exact zy hQ
  | (cases u<;>first
    |exact zy hQ
    | (refine zc (wpAny_load ho ?_)
       rw[hc,hd]
       show wpAny M A (if (["enumerate","zip","dict_itemiterator","dict_reverseitemiterator","odict_iterator","itertools.zip_longest","itertools.pairwise"].contains n&&vs[0]?==some (rawInt _))=true then _ else _) Q E s
       rw[if_neg<|by intro h;rw[hn,zW]at h;cases h]
       exact zy hQ))
def Itl(K:Frag)(a:Addr):It:={λi H=>∃xs x,iQ K H a xs/\xs[i]?=some x,λi H x H'=>H'=H/\∀xs,iQ K H a xs->xs[i]?=some x,λi H=>∃xs,iQ K H a xs/\xs.length<=i}
def Itt(K:Frag)(a:Addr):It:={λi H=>∃xs x,gu K H a xs/\xs[i]?=some x,λi H x H'=>H'=H/\∀xs,gu K H a xs->xs[i]?=some x,λi H=>∃xs,gu K H a xs/\xs.length<=i}
noncomputable def X3(lo:Int)(n:Nat):It:={λi _=>i<n,λi H x H'=>H'=H/\x=.int (lo+i),λi _=>n<=i}
theorem FJ{P:Program}{w:World}{K:Frag}{tg:Expr}(a it:Addr):Turn P w K tg (Itl K a) [it] it (λi h=>h.IsListIter it a i) where
 mem:=by simp
 obj:=λi h st b hb=>by
  have e:b=it:=by simpa using hb
  subst e
  obtain⟨o,e,c,d⟩:=st
  exact{o,e,λv z=>by rw[d]at z;cases z}
 keep:=λi h h' st k=>st.at λo e=>k it (by simp) o e
 item:=by
  intro X hP hw hK hc i pins s σ H E I hf st hg
  subst hP hw hK
  obtain⟨xs,x,hq,hx⟩:=hg
  obtain⟨ax,rv,p,hz⟩:=I.list hq
  obtain⟨u,hu,ru⟩:=rv.get hx
  obtain⟨f0,f1,f2,f3,f4,f5⟩:=hf it<|by simp
  refine wpAny_pyNext_list_item st p.isList (x:=u) (by simpa using hu) λh' eG sb=>?_
  have I1:Inv X pins σ H {s with heap:=h'}:=I.turned (t':=s.toks) (λb o hb e=>(sb.2 b hb).trans e) f0 f1 f3 f4 f5
  obtain⟨o,e,c,d⟩:=id eG
  exact{u,rfl,uN (s:={s with heap:=h'}) e c d (by decide) {x,H,I1,ru,{rfl,λys hy=>by rw[I.y_ hy hq];exact hx},eG,λb hb=>(hf b hb).1}}
 done:=by
  intro X hP hw hK hc i pins s σ H E I hf st hg
  subst hP hw hK
  obtain⟨xs,hq,hx⟩:=hg
  obtain⟨ax,rv,p,hz⟩:=I.list hq
  obtain⟨f0,f1,f2,f3,f4,f5⟩:=hf it<|by simp
  have hl:=rv.length
  exact wpAny_pyNext_list_end (I.ok.hd hc) st p.isList (by simp;lia) λh' eb=>{rfl,I.turned (t':=s.toks) (λb o hb e=>eb b o hb e) f0 f1 f3 f4 f5}
 self:=λ_ _ _ _ _ st h=>wpAny_pyIter_listiter st h
theorem B_{P:Program}{w:World}{K:Frag}{tg:Expr}(a it:Addr):Turn P w K tg (Itt K a) [it] it (λi h=>h.IsTupleIter it a i) where
 mem:=by simp
 obj:=λi h st b hb=>by
  have e:b=it:=by simpa using hb
  subst e
  obtain⟨o,e,c,d⟩:=st
  exact{o,e,λv z=>by rw[d]at z;cases z}
 keep:=λi h h' st k=>st.at λo e=>k it (by simp) o e
 item:=by
  intro X hP hw hK hc i pins s σ H E I hf st hg
  subst hP hw hK
  obtain⟨xs,x,hq,hx⟩:=hg
  obtain⟨ax,rv,p,hz⟩:=I.tuple hq
  obtain⟨u,hu,ru⟩:=rv.get hx
  obtain⟨f0,f1,f2,f3,f4,f5⟩:=hf it<|by simp
  refine wpAny_pyNext_tuple_item st (show s.heap.IsTuple a ax.toArray from p) (x:=u) (by simpa using hu) λh' eG sb=>?_
  have I1:Inv X pins σ H {s with heap:=h'}:=I.turned (t':=s.toks) (λb o hb e=>(sb.2 b hb).trans e) f0 f1 f3 f4 f5
  obtain⟨o,e,c,d⟩:=id eG
  exact{u,rfl,uN (s:={s with heap:=h'}) e c d (by decide) {x,H,I1,ru,{rfl,λys hy=>by rw[I.nO hy hq];exact hx},eG,λb hb=>(hf b hb).1}}
 done:=by
  intro X hP hw hK hc i pins s σ H E I hf st hg
  subst hP hw hK
  obtain⟨xs,hq,hx⟩:=hg
  obtain⟨ax,rv,p,hz⟩:=I.tuple hq
  obtain⟨f0,f1,f2,f3,f4,f5⟩:=hf it<|by simp
  have hl:=rv.length
  exact wpAny_pyNext_tuple_end (I.ok.hd hc) st (show s.heap.IsTuple a ax.toArray from p) (by simp;lia) λh' eb=>{rfl,I.turned (t':=s.toks) (λb o hb e=>eb b o hb e) f0 f1 f3 f4 f5}
 self:=λ_ _ _ _ _ st h=>wpAny_pyIter_tupleiter st h
theorem Ca{P:Program}{w:World}{K:Frag}{tg:Expr}(it:Addr)(lo:Int)(n:Nat):Turn P w K tg (X3 lo n) [it] it (λi h=>IsRangeIter h it (lo+(i:Nat)*1) ((n:Int)-(i:Nat)) 1) where
 mem:=by simp
 obj:=λi h st b hb=>by
  have e:b=it:=by simpa using hb
  subst e
  exact⟨_,st,λv z=>by
   have z':Data.fields _=Data.cell v:=z
   cases z'⟩
 keep:=λi h h' st k=>k it (by simp) _ st
 item:=by
  intro X hP hw hK hc i pins s σ H E I hf st hg
  subst hP hw hK
  obtain⟨f0,f1,f2,f3,f4,f5⟩:=hf it<|by simp
  have W:=Walks.range (prog:=X.prog) (w:=X.w) (I.ok.hd hc) it lo 1 n
  refine W.item i s _ _ hg st λv h' tk hv eG kk=>?_
  obtain⟨t,rfl⟩:=hv
  have I1:Inv X pins σ H {s with heap:=h',toks:=tk}:=I.turned (λb o hb e=>kk b o (by simpa using hb) e) f0 f1 f3 f4 f5
  refine{_,rfl,uN (s:={s with heap:=h',toks:=tk}) (n:="range_iterator") eG rfl rfl (by decide) {.int<|lo+i,H,I1,{t,?_},⟨rfl,rfl⟩,eG,λb hb=>(hf b hb).1}}
  rw[Int.mul_one]
 done:=by
  intro X hP hw hK hc i pins s σ H E I hf st hg
  subst hP hw hK
  obtain⟨f0,f1,f2,f3,f4,f5⟩:=hf it<|by simp
  exact wpAny_pyNext_range_end (I.ok.hd hc) st (by have:n<=i:=hg;lia) λh' eb=>{rfl,I.turned (t':=s.toks) (λb o hb e=>eb b o hb e) f0 f1 f3 f4 f5}
 self:=λ_ _ _ _ _ st h=>wpAny_pyIter_rangeiter st h
section
variable{X:Cx}{tg:Expr}
def Uy(K:Frag)(tl:TE):TI:=λσ H R=>tl σ H λx H1=>∃a,x=.ref a/\(∃xs,iQ K H1 a xs)/\R (Itl K a) H1
def Ze(K:Frag)(tl:TE):TI:=λσ H R=>tl σ H λx H1=>∃a,x=.ref a/\(∃xs,gu K H1 a xs)/\R (Itt K a) H1
theorem Lx{l:Expr}{tl:TE}(hl:PE X l tl):PI X tg l (Uy X.K tl):=by
 intro pins s σ H R I h;refine ba (hl pins s σ H _ I h) ?_;rintro v s1 ⟨x,H1,I1,r1,q1⟩;obtain⟨a,e,⟨xs,hq⟩,q⟩:=q1;subst e;cases r1;obtain⟨ax,rv,p,hz⟩:=I1.list hq;refine wpAny_pyIter_list p.isList ?_;refine{s1.heap.objs.size,[s1.heap.objs.size],_,_,H1,rfl,I1.kept (t':=s1.toks) λb o e=>za _ e,FJ a _,{_,zk _ rfl,rfl,rfl},λb hb=>?_,q};have e:b=s1.heap.objs.size:=by simpa using hb
 subst e;exact I1.qf (zr _)<|I1.aG.fresh<|zr _
theorem PR{l:Expr}{tl:TE}(hl:PE X l tl):PI X tg l (Ze X.K tl):=by
 intro pins s σ H R I h;refine ba (hl pins s σ H _ I h) ?_;rintro v s1 ⟨x,H1,I1,r1,q1⟩;obtain⟨a,e,⟨xs,hq⟩,q⟩:=q1;subst e;cases r1;obtain⟨ax,rv,p,hz⟩:=I1.tuple hq;refine wpAny_pyIter_tuple (show s1.heap.IsTuple a ax.toArray from p) ?_;refine{s1.heap.objs.size,[s1.heap.objs.size],_,_,H1,rfl,I1.kept (t':=s1.toks) λb o e=>za _ e,B_ a _,{_,zk _ rfl,rfl,rfl},λb hb=>?_,q};have e:b=s1.heap.objs.size:=by simpa using hb
 subst e;exact I1.qf (zr _)<|I1.aG.fresh<|zr _
theorem HP{pins:io}{σ:St}{H:Hp}{s:Shared}{R:It->Hp->Prop}{E:li}{lo hi:Int}{t u v:Tok}{tk:Nat}(I:Inv X pins σ H s)(h1:-(2^62)<=lo)(h2:lo<2^62)(h3:-(2^62)<=hi)(h4:hi<2^62)(q:R (X3 lo (hi-lo).toNat) H):wpAny (model X.prog X.w) X.A (pyIter<|.ref s.heap.objs.size) (Zd X pins σ tg R) E {s with heap:=s.heap.push {cls:=.type "range",data:=.fields #[.int lo t,.int hi u,.int 1 v]},toks:=tk}:=by
 refine wpAny_pyIter_range (IsRange.new ..) (small_one h1 h2 h3 h4) ?_;have I1:Inv X pins σ H {s with heap:=s.heap.push {cls:=.type "range",data:=.fields #[.int lo t,.int hi u,.int 1 v]},toks:=tk}:=I.kept λb o e=>za _ e;refine{(s.heap.push {cls:=.type "range",data:=.fields #[.int lo t,.int hi u,.int 1 v]}).objs.size,[(s.heap.push {cls:=.type "range",data:=.fields #[.int lo t,.int hi u,.int 1 v]}).objs.size],_,_,H,rfl,I1.kept (t':=tk) λb o e=>za _ e,Ca _ lo (hi-lo).toNat,?_,λb hb=>?_,q};have e1:lo+((0:Nat):Int)*1=lo:=by simp
 have e2:(((hi-lo).toNat:Nat):Int)-((0:Nat):Int)=Builtin.Range.rangeSize lo hi 1:=by rw[rangeSize_one];split<;>lia
 show IsRangeIter _ _ (lo+((0:Nat):Int)*1) ((((hi-lo).toNat:Nat):Int)-((0:Nat):Int)) 1;rw[e1,e2];exact zk _ rfl;have e:b=(s.heap.push {cls:=.type "range",data:=.fields #[.int lo t,.int hi u,.int 1 v]}).objs.size:=by simpa using hb
 subst e;exact I1.qf (zr _)<|I1.aG.fresh<|zr _
def Uz(ta:TA):TI:=λσ H R=>ta σ H λvs H1=>∃j:Int,vs=[.int j]/\-(2^62)<=j/\j<2^62/\R (X3 0 j.toNat) H1
theorem FK{a:Expr}{ta:TA}{p pos:Pos}(hg:Gl X "range")(hm:X.mg "range"= none)(ha:PA X [a] ta)(hs:autoParam (starEach [a] X.env=[(false,eval a X.env)]) qQJ):PI X tg (.Call (.Name "range" p) [a] [] pos) (Uz ta):=by intro pins s σ H R I h;refine Call_<|gs I hg hm boot_range<|PyProof.Rows.callWith_type1 (ba (ha pos pins s σ H _ I h) λus s1 ⟨vs,H1,I1,r1,q1⟩=>?_) hs rfl;obtain⟨j,e,q1,q2,q⟩:=q1;subst e;cases r1 with|cons r rr=>cases rr;obtain⟨t,rfl⟩:=r;exact call_range_1<|HP I1 (by lia) (by lia) q1 q2<|by simpa using q
def Zg(wi:TI)(g:TG)(tb:TS):TS:=λD σ H=>wi σ H λJ H1=>∃W:Nat->Nat->St->Hp->Prop,(∃m,W 0 m σ H1)/\∀i m σ H,W i m σ H->(J.stop i H/\D.nx σ H)\/(J.go i H/\∃N:St->Hp->Prop,(∀aA H',N aA H'->∃m',m'<m/\W (i+1) m' aA H')/\∀x H',J.Ux i H x H'->g x σ H' λqE H2=>tb {D with nx:=N,ct:=N,bk:=D.nx} qE H2)
noncomputable def qX(fp:im)(h:Heap):io:=fp.filterMap λb=>(h.get? b).map λo=>(b,o)
theorem h_(hb:b∈fp)(e:h.get? b=some o):(b,o)∈qX fp h:=List.mem_filterMap.mpr {b,hb,by rw[e];rfl}
theorem FL(hp:p∈qX fp h):p.1∈fp/\h.get? p.1=some p.2:=by obtain⟨b,hb,e⟩:=List.mem_filterMap.mp hp;cases q:h.get? b with|none=>(rw[q]at e;cases e)|some o=>rw[q]at e;have e':(b,o)=p:=zT e;subst e';exact⟨hb,q⟩
theorem Inv.pinned(I:Inv X pins σ H s)(hf:∀b∈fp,t5 X pins H b)(ho:∀b∈fp,∃o,s.heap.get? b=some o/\∀v,o.data≠.cell v):Inv X (pins++qX fp s.heap) σ H s:=I.l5 λp hp=>(zP.mp hp).elim (λz=>I.pin p<|zJ _ z) λz=>by obtain⟨hb,e⟩:=FL z;obtain⟨f0,f1,f2,_⟩:=hf p.1 hb;obtain⟨o,e',d⟩:=ho p.1 hb;rw[e]at e';cases e';exact⟨e,f0,f1,f2,d⟩
theorem Inv.qY(I:Inv X (pins++pl) σ H s):Inv X pins σ H s:=I.l5 λp hp=>I.pin p<|zJ _<|ym _ hp
theorem PU(hp:PassesOwn (model X.prog X.w) X.A X.env X.xe)(hc:X.calm=true)(hi:PI X tg iter wi)(hg:PG X tg g)(hb:Ec X body tb)(hs:autoParam (∀x,foldedSetIterable iter X.env x=pure x) qQ0):PS X (.For tg iter body [] pos) (Zg wi g tb):=by intro pins s σ H D I h;refine wpAny_For (ba (hi pins s σ H _ I h) λv s1 h1=>ba h1 λX2 s2 h2=>?_) hs;obtain⟨it,fp,tn,J,H2,e,I2,T,Cb,f2,W,⟨m0,w0⟩,turn⟩:=h2;subst e;have PX:∀{H':Hp},(∀b∈fp,H' b=none)->∀b∈fp,t5 X pins H' b:=λhn b hb=>{hn b hb,(f2 b hb).2};refine codeAny_forLoop_any (λn s'=>∃i aA H',Inv X pins aA H' s'/\tn i s'.heap/\(∀b∈fp,H' b=none)/\W i n aA H') ?_ m0 {0,σ,H2,I2,Cb,λb hb=>(f2 b hb).1,w0};rintro n s3 ⟨i,fP,H3,I3,y1,UA,w3⟩;rcases turn i n fP H3 w3 with⟨stop,qn⟩|⟨go,N,hN,step⟩;refine wpAny_passesOwn hp<|ba (T.done X rfl rfl rfl hc i pins s3 fP H3 X.xe I3 (PX UA) y1 stop) ?_;rintro r s4 ⟨hr,I4⟩;subst hr;exact wpAny_execs_nil ⟨fP,H3,I4,qn⟩;{refine wpAny_passesOwn hp<|ba (T.item X rfl rfl rfl hc i pins s3 fP H3 X.xe I3 (PX UA) y1 go) ?_;rintro r s4 ⟨u,hr,h4⟩;subst hr;refine wpAny_passesOwn hp<|ba h4 ?_;rintro _ s5 ⟨x,H5,I5,r5,y5,FN,Zh⟩;have Zi:=I5.pinned (PX Zh)<|T.obj _ _ FN;refine wpAny_passesOwn hp<|ba (hg _ s5 fP H5 x u _ Zi r5<|step x H5 y5) ?_;rintro _ s6 ⟨UB,H6,I6,q6⟩;refine wpAny_passesOwn hp<|ba (hb _ s6 UB H6 _ I6 q6) λf s7 q7=>?_;have again:∀{HQ:St}{H7:Hp},Inv X (pins++qX fp s5.heap) HQ H7 s7->N HQ H7->∃m,m<n/\∃i aA H',Inv X pins aA H' s7/\tn i s7.heap/\(∀b∈fp,H' b=none)/\W i m aA H':=λ{HQ H7} I7 n7=>(by obtain⟨m',hm,w7⟩:=hN HQ H7 n7;refine{m',hm,i+1,HQ,H7,I7.qY,T.keep _ _ _ FN λb hb o e=>(I7.pin (b,o)<|zJ _<|zJ _<|h_ hb e).1,λb hb=>?_,w7};obtain⟨o,e,d⟩:=T.obj _ _ FN b hb;exact(I7.pin (b,o)<|zJ _<|zJ _<|h_ hb e).2.1);cases f with|next=>(obtain⟨HQ,H7,I7,n7⟩:=q7;exact again I7 n7)|cont=>(obtain⟨HQ,H7,I7,n7⟩:=q7;exact again I7 n7)|brk=>(obtain⟨HQ,H7,I7,q7⟩:=q7;exact⟨HQ,H7,I7.qY,q7⟩)|ret v=>obtain⟨x7,HQ,H7,I7,r7,q7⟩:=q7;exact⟨x7,HQ,H7,I7.qY,r7,q7⟩}
end
abbrev R2:=V->V->Hp->VK->Prop
def gv(X:Cx)(f:Value->Value->Sem Value)(r:R2):Prop:=∀(pins:io)(s:Shared)(σ:St)(H:Hp)(x y:V)(v u:Value)(Q:VK),Inv X pins σ H s->RelV x v->RelV y u->r x y H Q->wpAny (model X.prog X.w) X.A (f v u) (EP X pins σ Q) X.xe s
def Zj(X:Cx)(f:Value->Sem Value)(r:V->Hp->VK->Prop):Prop:=∀(pins:io)(s:Shared)(σ:St)(H:Hp)(x:V)(v:Value)(Q:VK),Inv X pins σ H s->RelV x v->r x H Q->wpAny (model X.prog X.w) X.A (f v) (EP X pins σ Q) X.xe s
def ee(X:Cx)(f:Value)(r:List V->Hp->VK->Prop):Prop:=∀(pins:io)(s:Shared)(σ:St)(H:Hp)(xs:cr)(us:dL)(Q:VK),Inv X pins σ H s->Vals xs us->r xs H Q->wpAny (model X.prog X.w) X.A (call f us) (EP X pins σ Q) X.xe s
def PY(r:R2)(ta tb:TE):TE:=λσ H Q=>ta σ H λx H1=>tb σ H1 λy H2=>r x y H2 Q
def tUn(r:V->Hp->VK->Prop)(ta:TE):TE:=λσ H Q=>ta σ H λx H1=>r x H1 Q
def rI(C:Int->Int->Prop)(g:Int->Int->V):R2:=λx y H Q=>∃i j,x=.int i/\y=.int j/\C i j/\Q (g i j) H
def Lz(g:Int->Int->V):R2:=λx y H Q=>∃i j,x=.int i/\y=.int j/\Q (g i j) H
def rU(g:Int->V):V->Hp->VK->Prop:=λx H Q=>∃i,x=.int i/\Q (g i) H
section
variable{X:Cx}{a b:Expr}{ta tb:TE}{pos:Pos}
theorem PZ(ha:PE X a ta)(hb:PE X b tb){pins:io}{s:Shared}{σ:St}{H:Hp}{R:V->V->Hp->Prop}(I:Inv X pins σ H s)(h:ta σ H λx H1=>tb σ H1 λy H2=>R x y H2){Q:li}{f:Value->Value->Sem Value}(hf:∀v u s2 x y H2,Inv X pins σ H2 s2->RelV x v->RelV y u->R x y H2->wpAny (model X.prog X.w) X.A (f v u) Q X.xe s2): wpAny (model X.prog X.w) X.A (eval a X.env) (λv aU=>wpAny (model X.prog X.w) X.A (eval b X.env) (λu bG=>wpAny (model X.prog X.w) X.A (f v u) Q X.xe bG) X.xe aU) X.xe s:=by refine ba (ha pins s σ H _ I h) ?_;rintro v s1 ⟨x,H1,I1,r1,q1⟩;refine ba (hb pins s1 σ H1 _ I1 q1) ?_;rintro u s2 ⟨y,H2,I2,r2,q2⟩;exact hf v u s2 x y H2 I2 r1 r2 q2
theorem UC{op:Operator}{r:R2}(ho:gv X (binaryOp op) r)(ha:PE X a ta)(hb:PE X b tb):PE X (.BinOp a op b pos) (PY r ta tb):=by intro pins s σ H Q I h;exact wpAny_BinOp<|PZ ha hb I h λv u s2 x y H2 I2 rx ry q=>ho pins s2 σ H2 x y v u Q I2 rx ry q
theorem UD(ho:Zj X (unaryOp op) r)(ha:PE X a ta):PE X (.UnaryOp op a pos) (tUn r ta):=by intro pins s σ H Q I h;exact UnaryOp_<|ba (ha pins s σ H _ I h) <| by rintro v s1 ⟨x,H1,I1,r1,q1⟩;exact ho pins s1 σ H1 x v Q I1 r1 q1
theorem X4{f:Value->Value->Sem Value}{C:Int->Int->Prop}{g:Int->Int->Int}(rule:∀(i j:Int)(t u:Tok)(s:Shared)(Q:li)(E:li),C i j->Q (.int (g i j) s.toks) {s with toks:=s.toks+1}->wpAny (model X.prog X.w) X.A (f (.int i t)<|.int j u) Q E s): gv X f (rI C λi j=>.int<|g i j):=by intro pins s σ H x y v u Q I rx ry h;obtain⟨i,j,rfl,rfl,hc,q⟩:=h;obtain⟨t,rfl⟩:=rx;obtain⟨t',rfl⟩:=ry;exact rule i j t t' s _ _ hc {.int<|g i j,H,I.tok _,{_,rfl},q}
theorem UE{f:Value->Value->Sem Value}{g:Int->Int->Int}(rule:∀(i j:Int)(t u:Tok)(s:Shared)(Q:li)(E:li),Q (.int (g i j) s.toks) {s with toks:=s.toks+1}->wpAny (model X.prog X.w) X.A (f (.int i t)<|.int j u) Q E s): gv X f (Lz λi j=>.int<|g i j):=by intro pins s σ H x y v u Q I rx ry h;obtain⟨i,j,rfl,rfl,q⟩:=h;obtain⟨t,rfl⟩:=rx;obtain⟨t',rfl⟩:=ry;exact rule i j t t' s _ _ {.int<|g i j,H,I.tok _,{_,rfl},q}
theorem LA{f:Value->Value->Sem Value}{g:Int->Int->Bool}(rule:∀(i j:Int)(t u:Tok)(s:Shared)(Q:li)(E:li),Q (.bool<|g i j) s->wpAny (model X.prog X.w) X.A (f (.int i t)<|.int j u) Q E s): gv X f (Lz λi j=>.bl<|g i j):=by intro pins s σ H x y v u Q I rx ry h;obtain⟨i,j,rfl,rfl,q⟩:=h;obtain⟨t,rfl⟩:=rx;obtain⟨t',rfl⟩:=ry;exact rule i j t t' s _ _ {.bl<|g i j,H,I,rfl,q}
def UG(i j:Int):Prop:=0<=j/\j<=1000000/\i.natAbs<2^64
def LB(i j:Int):Prop:=(-(2^64)<i/\i<2^64)\/(-(2^64)<j/\j<2^64)
theorem LB.ok{i j:Int}(h:LB i j):IntMulOk i j:=by rcases h with⟨h1,h2⟩|⟨h1,h2⟩;exact .of_left<|intBits_le_64 h1 h2;exact .of_right<|intBits_le_64 h1 h2
theorem P0:gv X (binaryOp .Add) (Lz λi j=>.int<|i+j):=UE λ_ _ _ _ _ _ _ q=>add_int q
theorem P1:gv X (binaryOp .Sub) (Lz λi j=>.int<|i-j):=UE λ_ _ _ _ _ _ _ q=>sub_int q
theorem P2:gv X (binaryOp .Mult) (rI LB λi j=>.int<|i*j):=X4 λ_ _ _ _ _ _ _ hc q=>mul_int q hc.ok
theorem P4:gv X (binaryOp .Mod) (rI (λ_ j=>0<j) λi j=>.int<|i%j):=X4 λi j _ _ _ _ _ hc q=>by have h1:(0:Int)<j:=hc;exact mod_int' (by lia)<|by rw[Int.fmod_eq_emod_of_nonneg i<|by lia];exact q
theorem P5:gv X (binaryOp .Pow) (rI UG λi j=>.int<|i^j.toNat):=X4 λ_ _ _ _ _ _ _ hc q=>pow_int_small hc.1 hc.2.1 hc.2.2 q
theorem unI{f:Value->Sem Value}{g:Int->Int}(rule:∀(i:Int)(t:Tok)(s:Shared)(Q:li)(E:li),Q (.int (g i) s.toks) {s with toks:=s.toks+1}->wpAny (model X.prog X.w) X.A (f<|.int i t) Q E s): Zj X f (rU λi=>.int<|g i):=by intro pins s σ H x v Q I rx h;obtain⟨i,rfl,q⟩:=h;obtain⟨t,rfl⟩:=rx;exact rule i t s _ _ {.int<|g i,H,I.tok _,{_,rfl},q}
theorem P6:Zj X (unaryOp .USub) (rU λi=>.int (-i)):=unI λ_ _ _ _ _ q=>neg_int q
end
noncomputable def UH:V->V->Bool|.au,.au=>true|.au,.int _=>true|.int _,.au=>true|.au,.bl _=>true|.bl _,.au=>true|.au,.str _=>true|.str _,.au=>true|.int _,.int _=>true|.bl _,.bl _=>true|.str _,.str _=>true|.Eb _,.Eb _=>true|.int _,.str _=>true|.str _,.int _=>true|.bl _,.str _=>true|.str _,.bl _=>true|_,_=>false
def rEq:R2:=λx y H Q=>UH x y=true/\Q (.bl<|decide<|x=y) H
def rNe:R2:=λx y H Q=>UH x y=true/\Q (.bl<|!decide (x=y)) H
theorem Eg:decide (V.int i=V.int j)=(i==j):=by rw[yo];simp
theorem HR:decide (V.bl i=V.bl j)=(i==j):=by rw[yo];simp
theorem Eh:decide (V.str i=V.str j)=(i==j):=by rw[yo];simp
theorem Ei:decide (V.Eb i=V.Eb j)=(i.toList==j.toList):=by rw[yo];cases i;cases j;simp
section
variable{X:Cx}{a b c:Expr}{ta tb tc:TE}{pos:Pos}
theorem aH(I:Inv X pins σ H s)(q:Q (.bl k) H)(e:k=k'):EP X pins σ Q (.bool k') s:=by subst e;exact{.bl k,H,I,rfl,q}
theorem NW:gv X (compareOp .Eq) rEq:=by intro pins s σ H x y v u Q I rx ry h;obtain⟨hs,q⟩:=h;cases x with|au=>(cases rx;cases y with|au=>(cases ry;exact PySem.EqNone.eq_none_none<|aH I q<|by simp)|bl j=>(cases ry;exact PySem.EqNone.eq_none_bool<|aH I q<|by simp)|int j=>(obtain⟨t',rfl⟩:=ry;exact PySem.EqNone.eq_none_int<|aH I q<|by simp)|str j=>(obtain⟨t',rfl⟩:=ry;exact PySem.EqNone.eq_none_str<|aH I q<|by simp)|_=>exact absurd (show false=true from hs) zd)|bl i=>(cases rx;cases y with|au=>(cases ry;exact PySem.EqNone.eq_bool_none<|aH I q<|by simp)|bl j=>(cases ry;exact eq_bool<|aH I q HR)|str j=>(obtain⟨t',rfl⟩:=ry;exact PySem.EqMixed.eq_bool_str<|aH I q<|by simp)|_=>exact absurd (show false=true from hs) zd)|int i=>(obtain⟨t,rfl⟩:=rx;cases y with|au=>(cases ry;exact PySem.EqNone.eq_int_none<|aH I q<|by simp)|int j=>(obtain⟨t',rfl⟩:=ry;exact eq_int<|aH I q Eg)|str j=>(obtain⟨t',rfl⟩:=ry;exact PySem.EqMixed.eq_int_str<|aH I q<|by simp)|_=>exact absurd (show false=true from hs) zd)|str i=>(obtain⟨t,rfl⟩:=rx;cases y with|au=>(cases ry;exact PySem.EqNone.eq_str_none<|aH I q<|by simp)|bl j=>(cases ry;exact PySem.EqMixed.eq_str_bool<|aH I q<|by simp)|int j=>(obtain⟨t',rfl⟩:=ry;exact PySem.EqMixed.eq_str_int<|aH I q<|by simp)|str j=>(obtain⟨t',rfl⟩:=ry;exact eq_str<|aH I q Eh)|_=>exact absurd (show false=true from hs) zd)|Eb i=>(obtain⟨t,rfl⟩:=rx;cases y with|Eb j=>(obtain⟨t',rfl⟩:=ry;exact PySem.W.eq_bytes<|aH I q Ei)|_=>exact absurd (show false=true from hs) zd)|_=>cases y<;>exact absurd (show false=true from hs) zd
theorem NX:gv X (compareOp .NotEq) rNe:=by intro pins s σ H x y v u Q I rx ry h;obtain⟨hs,q⟩:=h;cases x with|au=>(cases rx;cases y with|au=>(cases ry;exact PySem.EqNone.ne_none_none<|aH I q<|by simp)|bl j=>(cases ry;exact PySem.EqNone.ne_none_bool<|aH I q<|by simp)|int j=>(obtain⟨t',rfl⟩:=ry;exact PySem.EqNone.ne_none_int<|aH I q<|by simp)|str j=>(obtain⟨t',rfl⟩:=ry;exact PySem.EqNone.ne_none_str<|aH I q<|by simp)|_=>exact absurd (show false=true from hs) zd)|bl i=>(cases rx;cases y with|au=>(cases ry;exact PySem.EqNone.ne_bool_none<|aH I q<|by simp)|bl j=>(cases ry;exact ne_bool<|aH I q<|congrArg not HR)|str j=>(obtain⟨t',rfl⟩:=ry;exact PySem.EqMixed.ne_bool_str<|aH I q<|by simp)|_=>exact absurd (show false=true from hs) zd)|int i=>(obtain⟨t,rfl⟩:=rx;cases y with|au=>(cases ry;exact PySem.EqNone.ne_int_none<|aH I q<|by simp)|int j=>(obtain⟨t',rfl⟩:=ry;exact ne_int<|aH I q<|congrArg not Eg)|str j=>(obtain⟨t',rfl⟩:=ry;exact PySem.EqMixed.ne_int_str<|aH I q<|by simp)|_=>exact absurd (show false=true from hs) zd)|str i=>(obtain⟨t,rfl⟩:=rx;cases y with|au=>(cases ry;exact PySem.EqNone.ne_str_none<|aH I q<|by simp)|bl j=>(cases ry;exact PySem.EqMixed.ne_str_bool<|aH I q<|by simp)|int j=>(obtain⟨t',rfl⟩:=ry;exact PySem.EqMixed.ne_str_int<|aH I q<|by simp)|str j=>(obtain⟨t',rfl⟩:=ry;exact ne_str<|aH I q<|congrArg not Eh)|_=>exact absurd (show false=true from hs) zd)|Eb i=>(obtain⟨t,rfl⟩:=rx;cases y with|Eb j=>(obtain⟨t',rfl⟩:=ry;exact PySem.W.ne_bytes<|aH I q<|congrArg not Ei)|_=>exact absurd (show false=true from hs) zd)|_=>cases y<;>exact absurd (show false=true from hs) zd
theorem UI:gv X (compareOp .Lt) (Lz λi j=>.bl<|decide<|i<j):=LA λ_ _ _ _ _ _ _ q=>lt_int q
theorem UJ:gv X (compareOp .LtE) (Lz λi j=>.bl<|decide<|i<=j):=LA λ_ _ _ _ _ _ _ q=>le_int q
theorem UK:gv X (compareOp .Gt) (Lz λi j=>.bl<|decide<|j<i):=LA λ_ _ _ _ _ _ _ q=>gt_int q
theorem UL:gv X (compareOp .GtE) (Lz λi j=>.bl<|decide<|j<=i):=LA λ_ _ _ _ _ _ _ q=>ge_int q
theorem FO:gv X (compareOp .Lt) (λx y H Q=>∃i j,x=.str i/\y=.str j/\Q (.bl<|decide<|i.cps.toList<j.cps.toList) H):=by intro pins s σ H x y v u Q I rx ry h;obtain⟨i,j,rfl,rfl,q⟩:=h;obtain⟨t,rfl⟩:=rx;obtain⟨t',rfl⟩:=ry;exact lt_str<|aH I q rfl
theorem FP:gv X (compareOp .In) (λx y H Q=>∃i j,x=.str i/\y=.str j/\Q (.bl<|!(Builtin.Str.occurrences j i 0 j.length 1).isEmpty) H):=by intro pins s σ H x y v u Q I rx ry h;obtain⟨i,j,rfl,rfl,q⟩:=h;obtain⟨t,rfl⟩:=rx;obtain⟨t',rfl⟩:=ry;exact in_str<|aH I q rfl
theorem P7:gv X (compareOp .Is) (λx y H Q=>y=.au/\Q (.bl<|decide<|x=.au) H):=by intro pins s σ H x y v u Q I rx ry h;obtain⟨rfl,q⟩:=h;cases ry;refine is_none_gen<|aH I q ?_;cases x<;>first| (cases rx;rfl)| (obtain⟨t,rfl⟩:=rx;rfl)
theorem LC:gv X (compareOp .IsNot) (λx y H Q=>y=.au/\Q (.bl<|!decide (x=.au)) H):=by intro pins s σ H x y v u Q I rx ry h;obtain⟨rfl,q⟩:=h;cases ry;refine isnot_none_gen<|aH I q ?_;cases x<;>first| (cases rx;rfl)| (obtain⟨t,rfl⟩:=rx;rfl)
theorem Zk(b:Expr)(h:autoParam (op≠.In) qQZ)(h2:autoParam (op≠.NotIn) qQZ):behindInMarks op b=false:=by
 have e1:(op==CmpOp.In)=false:=by cases op<;>first|rfl|exact absurd rfl h
 have e2:(op==CmpOp.NotIn)=false:=by cases op<;>first|rfl|exact absurd rfl h2
 cases b<;>simp[behindInMarks,e1,e2]
theorem Ej{op:CmpOp}{r:R2}(ho:gv X (compareOp op) r)(ha:PE X a ta)(hb:PE X b tb)(hm:behindInMarks op b=false):PE X (.Compare a [op] [b] pos) (PY r ta tb):=by intro pins s σ H Q I h;exact wpAny_Compare1 (PZ ha hb I h λv u s2 x y H2 I2 rx ry q=>ho pins s2 σ H2 x y v u Q I2 rx ry q) hm
def HS(t:TE):TT:=λσ H Q=>t σ H λx H'=>∃k,x=.bl k/\Q k H'
theorem LD{op:CmpOp}{r:R2}(ho:gv X (compareOp op) r)(ha:PE X a ta)(hb:PE X b tb)(hm:behindInMarks op b=false):PT X (.Compare a [op] [b] pos) (HS<|PY r ta tb):=by intro pins s σ H Q I h;refine wpAny_isTrue_Compare1 (ba (ha pins s σ H _ I h) λv s1 ⟨x,H1,I1,r1,q1⟩=>ba (hb pins s1 σ H1 _ I1 q1) λu s2 ⟨y,H2,I2,r2,q2⟩=>ba (ho pins s2 σ H2 x y v u _ I2 r1 r2 q2) λc s3 ⟨z,H3,I3,r3,k,e,q3⟩=>?_) hm;subst e;cases r3;exact yy ⟨H3,I3,q3⟩
def Cc(r r':R2)(ta tb tc:TE):TE:=λσ H Q=>ta σ H λx H1=>tb σ H1 λy H2=>r x y H2 λz H3=>∃k,z=.bl k/\(if k=true then tc σ H3 λw' H4=>r' y w' H4 Q else Q (.bl false) H3)
theorem HU{op FQ:CmpOp}{r r':R2}(ho:gv X (compareOp op) r)(B8:gv X (compareOp FQ) r')(ha:PE X a ta)(hb:PE X b tb)(hc:PE X c tc)(hm:autoParam (lastMarks [op,FQ] [b,c]=false) qQ4):PE X (.Compare a [op,FQ] [b,c] pos) (Cc r r' ta tb tc):=by intro pins s σ H Q I h;refine Compare_chain (ba (ha pins s σ H _ I h) λv s1 ⟨x,H1,I1,r1,q1⟩=>chain_link<|ba (hb pins s1 σ H1 _ I1 q1) λu s2 ⟨y,H2,I2,r2,q2⟩=>ba (ho pins s2 σ H2 x y v u _ I2 r1 r2 q2) λd s3 ⟨z,H3,I3,r3,k,e,q3⟩=>?_) hm;subst e;cases r3;refine yy ?_;cases k with|false=>exact ite_ff {.bl false,H3,I3,rfl,q3}|true=>exact ite_tt<|chain_last<|ba (hc pins s3 σ H3 _ I3 q3) λw' s4 ⟨z',H4,I4,r4,q4⟩=>B8 pins s4 σ H4 y z' u w' Q I4 r2 r4 q4
theorem HV{op FQ:CmpOp}{r r':R2}(ho:gv X (compareOp op) r)(B8:gv X (compareOp FQ) r')(ha:PE X a ta)(hb:PE X b tb)(hc:PE X c tc)(hm:autoParam (lastMarks [op,FQ] [b,c]=false) qQ4):PT X (.Compare a [op,FQ] [b,c] pos) (HS<|Cc r r' ta tb tc):=by intro pins s σ H Q I h;refine isTrue_chain (ba (ha pins s σ H _ I h) λv s1 ⟨x,H1,I1,r1,q1⟩=>test_link<|ba (hb pins s1 σ H1 _ I1 q1) λu s2 ⟨y,H2,I2,r2,q2⟩=>ba (ho pins s2 σ H2 x y v u _ I2 r1 r2 q2) λd s3 ⟨z,H3,I3,r3,k,e,q3⟩=>?_) hm;subst e;cases r3;refine yy ?_;cases k with|false=>(obtain⟨k',e',q'⟩:=q3;cases e';exact ite_ff ⟨H3,I3,q'⟩)|true=>refine ite_tt<|test_last<|ba (hc pins s3 σ H3 _ I3 q3) λw' s4 ⟨z',H4,I4,r4,q4⟩=>ba (B8 pins s4 σ H4 y z' u w' _ I4 r2 r4 q4) ?_;rintro d' s5 ⟨z2,H5,I5,r5,k2,e2,q5⟩;subst e2;cases r5;exact yy ⟨H5,I5,q5⟩
theorem qZ:(sizeLine:Nat)<2^63:=by rw[yf];decide
theorem Cd:gv X (binaryOp .Add) (λx y H Q=>∃i j,x=.str i/\y=.str j/\i.length+j.length<=sizeLine/\Q (.str<|i++j) H):=by intro pins s σ H x y v u Q I rx ry h;obtain⟨i,j,rfl,rfl,hz,q⟩:=h;obtain⟨t,rfl⟩:=rx;obtain⟨t',rfl⟩:=ry;exact add_str (λt' tk=>{.str<|i++j,H,I.tok _,{_,rfl},q}) hz
theorem vals1(r:Vals [x] us):∃u,us=[u]/\RelV x u:=by cases r with|cons r1 r2=>cases r2;exact{_,rfl,r1}
theorem vals2(r:Vals [x,y] us):∃u w',us=[u,w']/\RelV x u/\RelV y w':=by cases r with|cons r1 r2=>cases r2 with|cons r3 r4=>cases r4;exact{_,_,rfl,r1,r3}
theorem FR(hc:X.calm=true):ee X (.builtin "max") (λxs H Q=>∃i j,xs=[.int i,.int j]/\Q (.int<|if j>i then j else i) H):=by intro pins s σ H xs us Q I r h;obtain⟨i,j,rfl,q⟩:=h;obtain⟨u,w',rfl,⟨t,rfl⟩,⟨t',rfl⟩⟩:=vals2 r;refine max_two_ints (I.ok.hd hc) λh' tk k=>{_,H,I.kept k,?_,q};by_cases hj:j>i;rw[if_pos hj,if_pos hj];exact{_,rfl};rw[if_neg hj,if_neg hj];exact{_,rfl}
theorem FT(hc:X.calm=true):ee X (.builtin "min") (λxs H Q=>∃i j,xs=[.int i,.int j]/\Q (.int<|if j<i then j else i) H):=by intro pins s σ H xs us Q I r h;obtain⟨i,j,rfl,q⟩:=h;obtain⟨u,w',rfl,⟨t,rfl⟩,⟨t',rfl⟩⟩:=vals2 r;refine min_two_ints (I.ok.hd hc) λh' tk k=>{_,H,I.kept k,?_,q};by_cases hj:j<i;rw[if_pos hj,if_pos hj];exact{_,rfl};rw[if_neg hj,if_neg hj];exact{_,rfl}
theorem uO:ee X (.type "int") (λxs H Q=>(∃i,xs=[.int i]/\Q (.int i) H)\/∃k,xs=[.bl k]/\Q (.int<|if k then 1 else 0) H):=by intro pins s σ H xs us Q I r h;rcases h with⟨i,rfl,q⟩|⟨k,rfl,q⟩;obtain⟨u,rfl,t,rfl⟩:=vals1 r;exact call_int_int {.int i,H,I,{_,rfl},q};obtain⟨u,rfl,r1⟩:=vals1 r;cases r1;exact call_int_bool {.int<|if k then 1 else 0,H,I.tok _,{_,rfl},q}
def Zl(K:Frag)(x:V)(H:Hp)(n:Nat):Prop:=match x with|.str y=>y.length<=sizeLine/\n=y.length|.Eb y=>y.size<=sizeLine/\n=y.size|.ref p=>(∃xs,iQ K H p xs/\n=xs.length)\/∃xs,gu K H p xs/\n=xs.length|_=>False
theorem i6:ee X (.builtin "len") (λxs H Q=>∃x n,xs=[x]/\Zl X.K x H n/\Q (.int n) H):=by intro pins s σ H xs us Q I r h;obtain⟨x,n,rfl,e,q⟩:=h;obtain⟨u,rfl,rx⟩:=vals1 r;have hl:=qZ;have hs:sizeLine=16777216:=yf;cases x with|str y=>(obtain⟨t,rfl⟩:=rx;obtain⟨hy,e'⟩:y.length<=sizeLine/\n=y.length:=e;subst e';exact len_str (by lia) {.int _,H,I.tok _,{_,rfl},q})|Eb y=>(obtain⟨t,rfl⟩:=rx;obtain⟨hy,e'⟩:y.size<=sizeLine/\n=y.size:=e;subst e';exact PySem.W.len_bytes (by lia) {.int _,H,I.tok _,{_,rfl},q})|ref p=>(cases rx;have e':(∃xs,iQ X.K H p xs/\n=xs.length)\/∃xs,gu X.K H p xs/\n=xs.length:=e;rcases e' with⟨xs,hx,e'⟩|⟨xs,hx,e'⟩;subst e';obtain⟨ax,r',pl,hz⟩:=I.list hx;have hlen:=r'.length;exact Calls.call_len_list pl.isList (by simp only[zo];lia) {.int xs.length,H,I.tok _,{_,by simp only[zo];rw[hlen]},q};subst e';obtain⟨ax,r',pl,hz⟩:=I.tuple hx;have hlen:=r'.length;exact len_tuple pl (by simp only[zo];lia) {.int xs.length,H,I.tok _,{_,by simp only[zo];rw[hlen]},q})|_=>exact(show False from e).elim
end
structure Cf(h:Heap)(x dx C:Addr)(mA:Str->Option Value):Prop where
 obj:h.get? x=some (instObj C dx)
 ns:h.Ns1 dx mA
 ne:dx≠x
theorem FU{h:Heap}{dx:Addr}{mA:Str->Option Value}(n:h.Ns1 dx mA):∃od,h.get? dx=some od/\∀name,lookIn name od=some (mA name):=by
 obtain⟨o,es,ep,ho,hd,hk,_,hm⟩:=n;refine{o,ho,λname=>?_};have e:=hm name;unfold nsFind findBy at e;rw[<-Array.find?_toList]at e;unfold lookIn;rw[hd];dsimp only;split;rename_i y q;rw[q]at e;exact congrArg some e;rename_i q;rw[q]at e;have a:es.toList.any (·.refKey)=false:=by rw[List.any_eq_false];intro y hy;obtain⟨z,t,P8⟩:=hk y<|Array.mem_toList_iff.mp hy;simp[DictEntry.refKey,P8]
 have a':¬es.toList.any (·.refKey)=true:=by rw[a];exact zd
 rw[if_neg a'];exact congrArg some e
theorem Cf.look(I:Cf h x dx C mA):∃od,PySem.W.InstAt h x (instObj C dx) C (some od)/\∀name,lookIn name od=some (mA name):=
 let ⟨od,ho,hl⟩:=FU I.ns
 ⟨od,⟨I.obj,rfl,rfl,ho⟩,hl⟩
section
variable{prog:Program}{w:World}{A:Around}{E:li}{s:Shared}{K:Frag}{x dx C f:Addr}{mA:Str->Option Value}{name:Str}{v:Value}
theorem get_map(X:K.In s.heap)(I:Cf s.heap x dx C mA)(hg:plainGet K C name=true)(hh:hasDictIn K C=true)(ha:findIn K (.ref C) name=some none)(hv:mA name=some v)(NY:handedIn v=true)(h:Q v {s with toks:=s.toks+1}): wpAny (model prog w) A (getAttr (.ref x) name expr) Q E s:=by obtain⟨od,J,hl⟩:=I.look;exact PySem.W.get_value X J (plainGet_of hg).1 (PySem.W.findObj_own hh ha rfl<|by rw[hl,hv]) NY h
theorem HW(X:K.In s.heap)(I:Cf s.heap x dx C mA)(hg:plainGet K C name=true)(hf:findIn K (.ref C) name=some (some<|.ref f))(ht:isFn K (.ref f)=true)(hv:mA name=none)(h:Q (.ref f,[.ref x]) s): wpAny (model prog w) A (getMethod (.ref x) name pl) Q E s:=by obtain⟨od,J,hl⟩:=I.look;exact PySem.W.method_fn X J (plainGet_of hg).1 (plainGet_of hg).2 hf (beq_iff_eq.mp ht) (by show(lookIn name od).map (·.isSome)=some false;rw[hl,hv];rfl) h
theorem LF(X:K.In s.heap)(I:Cf s.heap x dx C mA)(hs:findIn K (.ref C) "__setattr__"= some (some<|.builtin "object.__setattr__"))(hp:plainOver K C=true)(ht:takerIn K C name=some none)(hh:hasDictIn K C=true)(hw:PySem.Within mA ns)(hsz:ns.length<=sizeLine)(h:∀h',Cf h' x dx C (λy=>if y=name then some v else mA y)->Heap.SameBut dx s.heap h'->Q () {s with heap:=h',toks:=s.toks+2}): wpAny (model prog w) A (setAttr (.ref x) name v) Q E s:=by obtain⟨od,J,hl⟩:=I.look;refine PySem.W.set_plain X J hs<|PySem.W.osa_open (s:={s with toks:=s.toks+1}) (r:=none) X J hp ht λb=>?_;obtain⟨cd,hc,B9⟩:=PySem.W.any_some hh;have hx:s.heap.get? x=some {.ref C,some dx,.plain,#[]}:=I.obj;refine zc<|zy<|zc<|zc<|wpAny_loadPart hx<|zc<|PySem.W.Looks.here (s:={s with toks:=s.toks+1}) (PySem.W.looks_clsIn X hc) ?_;rw[B9];refine zy (a:=some dx)<|zc<|zy<|zc ?_;refine wpAny_nsSet1 (s:={s with toks:=s.toks+1}) I.ns λh' NZ t6=>?_;obtain⟨oD,esD,epD,hoD,hdD,hcD⟩:=NZ.count<|PySem.Within.cons name v hw;refine zc<|wpAny_lookBehind hoD (by rw[hdD];exact pastItsLine_dict<|zI hcD<|by rw[zQ];lia) ?_;exact zy<|h _ {(t6.2 _<|Ne.symm I.ne).trans I.obj,NZ,I.ne} t6
theorem HX(X:K.In s.heap)(hm:makesIn K C=true)(hi:findIn K (.ref C) "__init__"= some (some<|.ref f))(hf:PySem.W.typeIn K (.ref f)=some (.type "function"))(h:codeAny (model prog w) (A.under<|.builtin "type.__call__" {.ref C::vs,kw}) (.call (.ref f) {.ref (s.heap.objs.size+1)::vs,kw}) (PySem.W.InitBack (s.heap.objs.size+1) R) {s with heap:=(s.heap.push emptyDict).push<|instObj C s.heap.objs.size}): codeAny (model prog w) A (.call (.ref C) ⟨vs,kw⟩) R s:=by obtain⟨hh,g,d,t,os⟩:=s;exact PySem.W.make_core (PySem.W.makes_of X hm) (PySem.W.looks_findIn X hi) (λself=>PySem.W.bind_fn X self hf) (.inl rfl) h
end
noncomputable def putF(f:Str)(v:V):List (Str×V)->List (Str×V)|[]=>[(f,v)]| (g,x)::r=>if g=f then (g,v)::r else (g,x)::putF f v r
theorem pj(f g:Str)(v:V):∀fs:ge,(putF f v fs).lookup g=if g=f then some v else fs.lookup g|[]=>by show List.lookup g [(f,v)]=_;by_cases h:g=f;have hb:(g==f)=true:=beq_iff_eq.mpr h;simp only[List.lookup,hb,if_pos h];have hb:(g==f)=false:=beq_eq_false_iff_ne.mpr h;simp only[List.lookup,hb,if_neg h]| (k,x)::r=>by have ih:=pj f g v r;rw[show putF f v ((k,x)::r)=(if k=f then (k,v)::r else (k,x)::putF f v r) from rfl];by_cases hk:k=f;rw[if_pos hk];by_cases h:g=k;have hb:(g==k)=true:=beq_iff_eq.mpr h;simp only[List.lookup,hb,if_pos<|h.trans hk];have hb:(g==k)=false:=beq_eq_false_iff_ne.mpr h;simp only[List.lookup,hb,if_neg (λe:g=f=>h<|e.trans hk.symm)];rw[if_neg hk];by_cases h:g=k;have hb:(g==k)=true:=beq_iff_eq.mpr h;simp only[List.lookup,hb,if_neg (λe:g=f=>hk<|h.symm.trans e)];have hb:(g==k)=false:=beq_eq_false_iff_ne.mpr h;simp only[List.lookup,hb];exact ih
theorem nQ(f:Str)(v:V):∀fs:ge,f∈(putF f v fs).map (·.1)/\∀g,g∈fs.map (·.1)->g∈(putF f v fs).map (·.1)|[]=>{by simp[putF],λg h=>by simp at h}| (k,x)::r=>by obtain⟨i1,i2⟩:=nQ f v r;rw[show putF f v ((k,x)::r)=(if k=f then (k,v)::r else (k,x)::putF f v r) from rfl];by_cases hk:k=f;rw[if_pos hk];subst hk;exact{by simp,λg h=>by simpa using h};rw[if_neg hk];refine{?_,λg h=>?_};rw[zt];exact zf _ i1;rw[zt]at h⊢;rcases zi.mp h with e|e;exact zi.mpr<|.inl e;exact zf _<|i2 g e
theorem pq(f:Str)(v:V):∀fs:ge,(putF f v fs).length<=fs.length+1|[]=>by simp[putF]| (k,x)::r=>by have ih:=pq f v r;rw[show putF f v ((k,x)::r)=(if k=f then (k,v)::r else (k,x)::putF f v r) from rfl];by_cases hk:k=f;rw[if_pos hk,zQ,zQ];lia;rw[if_neg hk,zQ,zQ];lia
theorem fj.some_of(r:fj (some v) o):∃u,o=some u/\RelV v u:=by cases o with|none=>exact(show False from r).elim|some u=>exact⟨u,rfl,r⟩
theorem fj.none_of(r:fj none o):o=none:=by cases o with|none=>rfl|some u=>exact(show False from r).elim
theorem FV(r:RelV v u):handedIn u=true:=by cases v with|au=>(cases (show u=Value.none from r);rfl)|bl b=>(cases (show u=Value.bool b from r);rfl)|int i=>(obtain⟨t,e⟩:=(show ∃t,u=Value.int i t from r);cases e;rfl)|str x=>(obtain⟨t,e⟩:=(show ∃t,u=Value.str x t from r);cases e;rfl)|Eb b=>(obtain⟨t,e⟩:=(show ∃t,u=Value.bytes b t from r);cases e;rfl)|Pk b=>(obtain⟨t,e⟩:=(show ∃t,u=Value.float b t from r);cases e;rfl)|ref a=>(cases (show u=Value.ref a from r);rfl)|ty n=>cases (show u=Value.type n from r);rfl
section
variable{P:Program}{w:World}{H:Hp}{h:Heap}{a C dx:Addr}{fs:ge}
theorem qF(aG:kX P w H h)(e:H a=some (.ins C dx fs)):∃mA,Cf h a dx C mA/\(∀f,fj (fs.lookup f)<|mA f)/\PySem.Within mA (fs.map (·.1))/\fs.length<=1000/\H dx=some (.own a):=by obtain⟨d,z,ne,ob,mA,n,r,q⟩:=(show bp P w H h a (.ins C dx fs) from aG a _ e);exact{mA,⟨ob,n,ne⟩,r,q,z,d}
end
structure qG(K:Frag)(C:Addr):Prop where
 pg:plainGet K C Str.empty=true
 hd:hasDictIn K C=true
 po:plainOver K C=true
 sa:findIn K (.ref C) "__setattr__"= some (some<|.builtin "object.__setattr__")
theorem qG.get{K:Frag}{C:Addr}(c:qG K C)(f:Str):plainGet K C f=true:=c.pg
def i7(K:Frag)(C:Addr)(f:Str):Prop:=findIn K (.ref C) f=some none
theorem i7.UM{K:Frag}{C:Addr}{f:Str}(n:i7 K C f):takerIn K C f=some none:=by unfold takerIn;rw[show findIn K (.ref C) f=some none from n];rfl
structure Con(K:Frag)(C:Addr)(f:Str)(v:V)(u:Value):Prop where
 at_:findIn K (.ref C) f=some (some u)
 rel:RelV v u
 get:specialIn K u "__get__"= some none
 cp:PySem.W.copiedNames.contains f=false
structure Meth(K:Frag)(C:Addr)(m:Str)(f:Addr):Prop where
 at_:findIn K (.ref C) m=some (some<|.ref f)
 fn:isFn K (.ref f)=true
 kp:keepIn K (.ref f)=true
section
variable{X:Cx}{pins:io}{σ:St}{H:Hp}{s:Shared}{a C dx:Addr}{fs:ge}{f:Str}{v:V}{A:Around}{E:li}
theorem Ci(I:Inv X pins σ H s)(e:H a=some (.ins C dx fs))(c:qG X.K C)(n:i7 X.K C f)(l:fs.lookup f=some v)(h:∀u s',Inv X pins σ H s'->RelV v u->Q u s'):wpAny (model X.prog X.w) A (getAttr (.ref a) f b) Q E s:=by obtain⟨mA,O,r,_,_,_⟩:=qF I.aG e;obtain⟨u,hu,ru⟩:=fj.some_of (v:=v) (o:=mA f) (by rw[<-l];exact r f);exact get_map I.ph O (c.get f) c.hd n hu (FV ru)<|h u _ (I.tok _) ru
theorem q8(I:Inv X pins σ H s)(e:H a=some (.ins C dx fs))(c:qG X.K C)(k:Meth X.K C m g)(l:fs.lookup m=none)(h:Q (.ref g,[.ref a]) s):wpAny (model X.prog X.w) A (getMethod (.ref a) m pl) Q E s:=by obtain⟨mA,O,r,_,_,_⟩:=qF I.aG e;have hn:mA m=none:=fj.none_of (by rw[<-l];exact r m);exact HW I.ph O (c.get m) k.at_ k.fn hn h
theorem Cj(I:Inv X pins σ H s)(e:H a=some (.ins C dx fs))(c:qG X.K C)(n:i7 X.K C f)(hl:fs.length<1000)(ry:RelV y u)(h:∀s',Inv X pins σ (upd H a<|.ins C dx<|putF f y fs) s'->Q () s'):wpAny (model X.prog X.w) A (setAttr (.ref a) f u) Q E s:=by
 obtain⟨mA,O,r,wi,_,ho⟩:=qF I.aG e;have hz:(fs.map (·.1)).length<=sizeLine:=by rw[zb,yf];lia
 refine LF I.ph O c.sa c.po n.UM c.hd wi hz λh' O' sb=>h _ ?_;have hd:∃o,h'.get? dx=some o:=by obtain⟨o,_,_,e',_⟩:=O'.ns;exact⟨o,e'⟩
 refine I.write (x:=a) (e:=dx) (by rw[e];exact True.intro) (.inr ho) (λb q hb z=>(sb.2 b hb).trans z) hd ?_;refine{by rw[aw O.ne];exact ho,?_,O.ne,O'.obj,_,O'.ns,λg=>?_,λg hg=>?_};have:=pq f y fs;lia;show fj ((putF f y fs).lookup g) (if g=f then some u else mA g);rw[pj];by_cases q:g=f;rw[if_pos q,if_pos q];exact ry;rw[if_neg q,if_neg q];exact r g;by_cases q:g=f;rw[q];exact(nQ f y fs).1;refine(nQ f y fs).2 g<|wi g λz=>hg ?_;show(if g=f then some u else mA g)=none;rw[if_neg q];exact z
theorem Inv.made(I:Inv X pins σ H s):Inv X pins σ (upd (upd H s.heap.objs.size<|.own<|s.heap.objs.size+1) (s.heap.objs.size+1)<|.ins C s.heap.objs.size []) {s with heap:=(s.heap.push emptyDict).push<|instObj C s.heap.objs.size}:=by
 have e1:(s.heap.push emptyDict).get? s.heap.objs.size=some emptyDict:=zk s.heap rfl;have e2:((s.heap.push emptyDict).push<|instObj C s.heap.objs.size).get? (s.heap.objs.size+1)=some (instObj C s.heap.objs.size):=by have:=zk (s.heap.push emptyDict) (o:=instObj C s.heap.objs.size) rfl;rwa [yc]at this
 have e3:(s.heap.push emptyDict).Ns s.heap.objs.size (λ_=>none):={emptyDict,#[],_,e1,rfl,(λe he=>absurd he<|by simp),λ_=>rfl};have I1:=I.laid (a:=s.heap.objs.size) (o:=.own<|s.heap.objs.size+1) (h':=s.heap.push emptyDict) (t':=s.toks) (λb u q=>za _ q) (zr _) {_,e1};refine I1.laid (a:=s.heap.objs.size+1) (o:=.ins C s.heap.objs.size []) (t':=s.toks) (λb u q=>za _ q) (Nat.le_of_eq<|yc _ _) ?_;have ne:s.heap.objs.size≠s.heap.objs.size+1:=zD<|Nat.lt_succ_self _;refine{by rw[aw ne,aD],zY _,ne,e2,λ_=>none,(Heap.Ns1.of_empty e3).at λo q=>za _ q,λ_=>True.intro,λy hy=>absurd rfl hy}
theorem LG(hb:attributeBase e f env (eval e env)=eval e env)(h:wpAny (model prog w) A (eval e env) (λo aU=>wpAny (model prog w) A (getAttr o f true) Q E aU) E s):wpAny (model prog w) A (eval (.Attribute e f pos) env) Q E s:=Attribute_any_ h<|by rw[arm_eval_Attribute,hb]
end
def Zm(K:Frag)(ta:TE)(f:Str):TE:=λσ H Q=>ta σ H λx H1=>∃a C dx fs v,x=.ref a/\H1 a=some (.ins C dx fs)/\qG K C/\i7 K C f/\fs.lookup f=some v/\Q v H1
def Zn(K:Frag)(ta tv:TE)(f:Str):TS:=λD σ H=>tv σ H λy H1=>ta σ H1 λx H2=>∃a C dx fs,x=.ref a/\H2 a=some (.ins C dx fs)/\qG K C/\i7 K C f/\fs.length<1000/\D.nx σ (upd H2 a<|.ins C dx<|putF f y fs)
section
variable{X:Cx}{o e value:Expr}{f:Str}{pos pos':Pos}{ta tv:TE}
theorem P9(he:PE X e ta)(hb:attributeBase e f X.env (eval e X.env)=eval e X.env):PE X (.Attribute e f pos) (Zm X.K ta f):=by intro pins s σ H Q I h;refine LG hb<|ba (he pins s σ H _ I h) ?_;rintro u s1 ⟨x,H1,I1,rx,a,C,dx,fs,v,ex,ea,c,n,l,q⟩;subst ex;obtain rfl:u=Value.ref a:=rx;exact Ci I1 ea c n l λu' s2 I2 ru=>⟨v,H1,I2,ru,q⟩
theorem P_(ha:PE X o ta)(hv:PE X value tv)(hs:swapsWith value (some<|.Attribute o f pos') pos.line X.env=pure false):PS X (.Assign [.Attribute o f pos'] value pos) (Zn X.K ta tv f):=by intro pins s σ H D I h;refine plainObj_wpAny_Assign_Attribute (ba (hv pins s σ H _ I h) λu s1 ⟨y,H1,I1,ry,q⟩=>ba (ha pins s1 σ H1 _ I1 q) λov s2 ⟨x,H2,I2,rx,a,C,dx,fs,ex,ea,c,n,l,q2⟩=>?_) hs;subst ex;obtain rfl:ov=Value.ref a:=rx;exact Cj I2 ea c n l ry λs3 I3=>{σ,_,I3,q2}
end
section
variable{X:Cx}{pins:io}{σ:St}{H:Hp}{s:Shared}{A:Around}{E Q:li}{c:Value}{b:Bool}
inductive nR(K:Frag)(H:Hp):V->Value->Prop where
 |au:nR K H .au (.type "NoneType")
 |bl (x:Bool):nR K H (.bl x) (.type "bool")
 |int (i:Int):nR K H (.int i) (.type "int")
 |str (x:Str):nR K H (.str x) (.type "str")
 |Pk (x:UInt64):nR K H (.Pk x) (.type "float")
 |lst {a:Addr}{xs:cr} (e:H a=some (.lst xs)):nR K H (.ref a) (.type "list")
 |kD {a:Addr}{o:Obj}{xs:cr} (e:H a=some (.kD o<|.lst xs)):nR K H (.ref a) (.type "list")
 |tup {a:Addr}{xs:cr} (e:H a=some (.tup xs)):nR K H (.ref a) (.type "tuple")
 |dK {a:Addr}{kvs:fv} (e:H a=some (.dK kvs)):nR K H (.ref a) (.type "dict")
 |dT {a:Addr}{kvs:List<|List Key×V} (e:H a=some (.dT kvs)):nR K H (.ref a) (.type "dict")
 |ins {a C dx:Addr}{fs:ge} (e:H a=some (.ins C dx fs)) (cl:qG K C) (ha:findIn K (.ref C) "__class__"= some (some<|.builtin "object.__class__"))
   (hn:specialIn K (.builtin "object.__class__") "__get__"= some (some<|.builtin "getset_descriptor.__get__")) (htk:PySem.W.takesIn K (.builtin "object.__class__")=some true)
   (hm:mroIn K C (.type "object")=some true):nR K H (.ref a) (.ref C)
theorem FW{u t:Value}(I:Inv X pins σ H s)(rx:RelV x u)(ty:nR X.K H x t)(e:kitOne X.K t c=some b)(h:∀tk,Q (.bool b) {s with toks:=tk}): wpAny (model X.prog X.w) A (call (.builtin "isinstance") [u,c]) Q E s:=by cases ty with|au=>(cases (show u=Value.none from rx);exact kia_one PySem.W.kitx_none I.ph True.intro e (λz=>nomatch z) h)|bl y=>(cases (show u=Value.bool y from rx);exact kia_one PySem.W.kitx_bool I.ph True.intro e (λz=>nomatch z) h)|int i=>(obtain⟨t,q⟩:=(show ∃t,u=Value.int i t from rx);cases q;exact kia_one PySem.W.kitx_int I.ph True.intro e (λz=>nomatch z) h)|str y=>(obtain⟨t,q⟩:=(show ∃t,u=Value.str y t from rx);cases q;exact kia_one PySem.W.kitx_str I.ph True.intro e (λz=>nomatch z) h)|Pk y=>(obtain⟨t,q⟩:=(show ∃t,u=Value.float y t from rx);cases q;exact kia_one PySem.W.kitx_float I.ph True.intro e (λz=>nomatch z) h)|@lst a xs ea=>(cases (show u=Value.ref a from rx);obtain⟨_,_,n,_,h1⟩:=(show bp X.prog X.w H s.heap a (.lst xs) from I.aG a _ ea);exact kia_one kitx_list I.ph {_,h1,rfl} e (λz=>nomatch z) h)|@kD a ob xs ea=>(cases (show u=Value.ref a from rx);obtain⟨_,_,_,n,_,h1⟩:=(show bp X.prog X.w H s.heap a (.kD ob<|.lst xs) from I.aG a _ ea);exact kia_one kitx_list I.ph {_,h1,rfl} e (λz=>nomatch z) h)|@tup a xs ea=>(cases (show u=Value.ref a from rx);obtain⟨_,_,_,p⟩:=(show bp X.prog X.w H s.heap a (.tup xs) from I.aG a _ ea);obtain⟨o,h1,h2,_⟩:=p;exact kia_one PySem.W.kitx_tuple I.ph ⟨o,h1,h2⟩ e (λz=>nomatch z) h)|@dK a kvs ea=>(cases (show u=Value.ref a from rx);obtain⟨_,_,vs,_,p⟩:=(show bp X.prog X.w H s.heap a (.dK kvs) from I.aG a _ ea);obtain⟨o,es,ep,h1,h2,_⟩:=p;exact kia_one PySem.W.kitx_dict I.ph ⟨o,h1,h2.1⟩ e (λz=>nomatch z) h)|@dT a kvs ea=>exact False.elim (show bp X.prog X.w H s.heap a (.dT kvs) from I.aG a _ ea)|@ins a C dx fs ea cl ha hn htk hm=>cases (show u=Value.ref a from rx);obtain⟨mA,O,_⟩:=qF I.aG ea;obtain⟨od,J,_⟩:=O.look;exact kia_one (PySem.W.kitx_own (cl.get _) cl.hd ha hn htk hm) I.ph J e (λz=>nomatch z) h
end
structure bX(k:Nat)(A:Around):Prop where
 hd:A.handled=none
 dp:A.depth+3*k+5<recursionLimit
 un:A.units+16*k+200<cLine
theorem bX.mono(r:bX k A)(h:j<=k):bX j A:={r.hd,by have:=r.dp;lia,by have:=r.un;lia}
theorem bX.deeper(r:bX (k+1) A)(env:Env):bX k (A.deeper env):={r.hd,by have:=r.dp;show A.depth+1+3*k+5<_;lia,by have:=r.un;show A.units+3+16*k+200<_;lia}
theorem bX.in1(r:bX (k+1) A):bX k A.in1:={r.hd,by have:=r.dp;show A.depth+3*k+5<_;lia,by have:=r.un;show A.units+1+16*k+200<_;lia}
theorem Ck{A:Around}{C:Addr}{us:dL}{kw:pe} : (A.under<|.builtin "type.__call__" {.ref C::us,kw}).depth=A.depth+1:=by first|rfl|simp[Around.under,Code.weight,Code.isCreation,Code.isGuard,Code.isCaller,Code.frames,Code.isFrame,guardIds]
theorem Co{A:Around}{C:Addr}{us:dL}{kw:pe} : (A.under<|.builtin "type.__call__" {.ref C::us,kw}).units=A.units+1:=by first|rfl|simp[Around.under,Code.cUnits,Code.frames,Code.isFrame]
theorem bX.make(r:bX (k+1) A)(C:Addr)(us:dL)(kw:pe):bX k (A.under<|.builtin "type.__call__" {.ref C::us,kw}):={r.hd,by have:=r.dp;rw[Ck];lia,by have:=r.un;rw[Co];lia}
theorem bX.depth(r:bX k A):A.depth<recursionLimit:=by have:=r.dp;lia
theorem bX.units(r:bX k A):A.units+64<cLine:=by have:=r.un;lia
def Zp:TA:=λ_ H Q=>Q [] H
def N1(ta:TE)(tr:TA):TA:=λσ H Q=>ta σ H λx H1=>tr σ H1 λxs H2=>Q (x::xs) H2
section
variable{X:Cx}{e:Expr}{es:mt}{te:TE}{t:TA}{pos:Pos}
theorem Cp:PA X [] Zp:=λ_ _ _ _ H Q I h=>Calls.spliced_nil {[],H,I,.nil,h}
theorem LH(ha:PE X e te)(hr:PA X es t)(hs:autoParam (starEach (e::es) X.env=(false,eval e X.env)::starEach es X.env) qQJ):PA X (e::es) (N1 te t):=by intro pos pins s σ H Q I h;rw[hs];show wpAny _ _ (spliced<|(false,eval e X.env)::backTo pos (starEach es X.env)) _ _ s;refine yC<|ba (ha pins s σ H _ I h) ?_;rintro u s1 ⟨x,H1,I1,r1,q1⟩;exact ba (hr pos pins s1 σ H1 _ I1 q1) <| by rintro us s2 ⟨xs,H2,I2,r2,q2⟩;exact{x::xs,H2,I2,.cons r1 r2,q2}
def Zr(t:TA):TE:=λσ H Q=>t σ H λxs H1=>xs.length<=sizeLine/\∀p,H1 p=none->Q (.ref p) (upd H1 p<|.tup xs)
def Zs(t:TA):TE:=λσ H Q=>t σ H λxs H1=>xs.length<=sizeLine/\∀p,H1 p=none->Q (.ref p) (upd H1 p<|.lst xs)
theorem Qa{x1}(h:PA X es t):PE X (.Tuple es x1 pos) (Zr t):=by intro pins s σ H Q I hq;refine wpAny_Tuple_spliced<|ba (h pos pins s σ H _ I hq) λus s1 ⟨xs,H1,I1,r,z,q⟩=>{by rw[<-r.length];exact z,?_};have hf:H1 s1.heap.objs.size=none:=I1.aG.fresh<|zr _;refine{.ref s1.heap.objs.size,upd H1 s1.heap.objs.size<|.tup xs,I1.laid (t':=s1.toks) (λb u e=>za _ e) (zr _) ?_,rfl,q _ hf};exact{z,us,r,{_,zk _ rfl,rfl,rfl,_,rfl}}
theorem Qb(h:PA X es t):PE X (.List es pos) (Zs t):=by intro pins s σ H Q I hq;refine wpAny_List_spliced<|ba (h pos pins s σ H _ I hq) λus s1 ⟨xs,H1,I1,r,z,q⟩=>{by rw[<-r.length];exact z,?_};have hf:H1 s1.heap.objs.size=none:=I1.aG.fresh<|zr _;refine{.ref s1.heap.objs.size,upd H1 s1.heap.objs.size<|.lst xs,I1.laid (t':=s1.toks) (λb u e=>za _ e) (zr _) ?_,rfl,q _ hf};exact{z,us,0,r,zk _ rfl}
end
abbrev Sp:=List V->Hp->VK->XK->Prop
abbrev Cq:=List Env->Hp->Shared->XK->Value->Shared->Prop
structure Ab(P:Program)(w:World)(K:Frag)(mg:Str->Option Value)(base:Heap)(A:Around)(outer:jp)(s:Shared)(H:Hp):Prop where
 frames:A.frames=some outer
 mod:Mod K mg base
 bs:∀b o,base.get? b=some o->s.heap.get? b=some o/\H b=none
 Lo:base.objs.size<=s.heap.objs.size
 qd:s.heap.FunFrames base outer
 Pn:∀b∈nM outer,H b=none
 aG:kX P w H s.heap
 bare:AllBare s.gens
def CE(outer:jp)(P:Program)(w:World)(H:Hp)(s:Shared)(Q:VK)(u:Value)(s':Shared):Prop:=∃v H',s'.os=s.os/\AllBare s'.gens/\Un (nM outer) [] H H' s.heap s'.heap/\kX P w H' s'.heap/\RelV v u/\Q v H'
def CR(CX:Cq)(outer:jp)(P:Program)(w:World)(H:Hp)(s:Shared)(Q:VK)(E:XK)(r:Result)(s':Shared):Prop:=match r with|.ok (.ret u)=>CE outer P w H s Q u s'|.ok _=>False|.error e=>CX outer H s E e s'
structure bT(P:Program)(w:World)(K:Frag)(mg:Str->Option Value)(base:Heap)(CX:Cq)(k:Nat)(f:Addr)(fd:FuncData)(ps:j4)(sp:Sp):Prop where
 len:∀vs H Q E,sp vs H Q E->vs.length=ps.length
 run:∀(A:Around)(outer:jp)(s:Shared)(H:Hp)(args:Args)(us:dL)(vs:cr)(Q:VK)(E:XK),bX k A->Ab P w K mg base A outer s H->BindsTo s fd args (ps.zip us)->Vals vs us->sp vs H Q E ->
  codeAny (model P w) A (.call (.ref f) args) (CR CX outer P w H s Q E) s
theorem bT.mono{P:Program}{w:World}{K:Frag}{mg:Str->Option Value}{base:Heap}{CX:Cq}{j k:Nat}{f:Addr}{fd:FuncData}{ps:j4}{sp:Sp}(F:bT P w K mg base CX j f fd ps sp)(h:j<=k): bT P w K mg base CX k f fd ps sp:={F.len,λA outer s H args us vs Q E hr=>F.run A outer s H args us vs Q E<|hr.mono h}
theorem bT.imp{P:Program}{w:World}{K:Frag}{mg:Str->Option Value}{base:Heap}{CX:Cq}{k:Nat}{f:Addr}{fd:FuncData}{ps:j4}{sp X5:Sp}(F:bT P w K mg base CX k f fd ps sp)(h:∀vs H Q E,X5 vs H Q E->sp vs H Q E):bT P w K mg base CX k f fd ps X5:={λvs H Q E q=>F.len vs H Q E<|h _ _ _ _ q,λA outer s H args us vs Q E hr he hb hv hs=>F.run A outer s H args us vs Q E hr he hb hv<|h _ _ _ _ hs}
theorem Ab.make{P:Program}{w:World}{K:Frag}{mg:Str->Option Value}{base:Heap}{A:Around}{outer:jp}{s:Shared}{H:Hp}(e:Ab P w K mg base A outer s H)(C:Addr)(us:dL)(kw:pe): Ab P w K mg base (A.under<|.builtin "type.__call__" {.ref C::us,kw}) outer s H:={by first|exact e.frames|(simpa [Around.under,Code.envs,Code.isFrame,pushEnvs]using e.frames),e.mod,e.bs,e.Lo,e.qd,e.Pn,e.aG,e.bare}
section
variable{X:Cx}{pins:io}{σ:St}{H:Hp}{s s':Shared}
theorem Inv.UN(I:Inv X pins σ H s):Ab X.prog X.w X.K X.mg X.base X.A X.stack s H:={I.ok.frames,I.ok.mod,I.bs,zI I.ok.Lo I.sz,I.stack,I.qC,I.aG,I.bare}
theorem Inv.after(I:Inv X pins σ H s)(h:CE X.stack X.prog X.w H s Q u s'):EP X pins σ Q u s':=by obtain⟨v,H',os,bare,un,aG,r,q⟩:=h;obtain⟨hh,g,d,t,UO⟩:=s';obtain rfl:UO=s.os:=os;exact{v,H',I.call (h':=hh) (g':=g) (d':=d) (t':=t) (ch:=[]) un aG bare λb z=>absurd z<|by simp,r,q}
end
def Binds(K:Frag)(fd:FuncData)(ps:j4)(ds:dL):Prop:=∀(s:Shared)(us:dL),K.In s.heap->(us++ds).length=ps.length->BindsTo s fd {us,[]} (ps.zip<|us++ds)
theorem Binds.all{K:Frag}{fd:FuncData}{ps:j4}(h:∀us:dL,us.length=ps.length->bindArgs fd {us,[]}=pure (ps.zip us)):Binds K fd ps []:=λs us _ hl=>by rw[List.append_nil]at hl⊢;exact .of_eq<|h us hl
def Passes(CX:Cq)(X:Cx)(E:XK):Prop:=∀(pins:io)(σ:St)(H:Hp)(s:Shared)(e:Value)(s':Shared),Inv X pins σ H s->CX X.stack H s E e s'->X.xe e s'
section
variable{f C:Addr}
structure Mk(K:Frag)(C f:Addr):Prop where
 makes:makesIn K C=true
 init:findIn K (.ref C) "__init__"= some (some<|.ref f)
 fn:isFn K (.ref f)=true
 kp:keepIn K (.ref C)=true
end
section
variable{fd:FuncData}{ps ks:j4}
structure Zt(K:Frag)(fd:FuncData)(ps ks:j4)(g:List Value->List Value->List Value)(gV:List V->List V->List V):Prop where
 to:∀(s:Shared)(us ws:dL),K.In s.heap->(g us ws).length=ps.length->BindsTo s fd {us,ks.zip ws} (ps.zip<|g us ws)
 rel:∀{vs:cr}{us:dL}{zs:cr}{ws:dL},Vals vs us->Vals zs ws->Vals (gV vs zs) (g us ws)
variable{g:List Value->List Value->List Value}{gV:List V->List V->List V}
end
structure fU(N P:j4)(sc:Scope):Prop where
 kind:sc.kind=.function
 co:sc.isCoroutine=false
 gen:sc.isGenerator=false
 nd:N.Nodup
 pre:N.take P.length=P
 par:∀x∈P,sc.names.lookup x=some .local\/sc.names.lookup x=some .cell
 Qc:∀y∈sc.names,y.2≠.free
theorem uP{kindOf:Str->Option NameKind}{x:Str} : ∀{binds:pe}{m:Str->Option Value},(∀v,(x,v)∉binds)->bindL kindOf binds m x=m x
 |[],_,_=>rfl
 | (n,v)::r,m,h=>by
  unfold bindL;rw[uP λw hw=>h w<|zf _ hw];split;have:x≠n:=by rintro rfl;exact h v zj
  simp[this];rfl
theorem uQ{kindOf:Str->Option NameKind}{x:Str} : ∀{binds:pe}{m:Str->Option Value},(∀v,(x,v)∉binds)->bindC kindOf binds m x=m x
 |[],_,_=>rfl
 | (n,v)::r,m,h=>by
  unfold bindC;rw[uQ λw hw=>h w<|zf _ hw];split;rfl;have:x≠n:=by rintro rfl;exact h v zj
  simp[this]
theorem uR{kindOf:Str->Option NameKind}{x:Str}{v:Value} : ∀{P:j4}{vs:dL}{i:Nat}{m:Str->Option Value},P.Nodup->P[i]?=some x->vs[i]?=some v->kindOf x=some .local->bindL kindOf (P.zip vs) m x=some v|[],_,_,_,_,h,_,_=>by simp at h|_::_,[],_,_,_,_,h,_=>by simp at h|p::P,w::vs,0,m,nd,h1,h2,hk=>by simp at h1 h2;subst h1;subst h2;show bindL kindOf ((p,w)::P.zip vs) m p=_;unfold bindL;rw[uP λv hv=>(yi.mp nd).1 (List.of_mem_zip hv).1,if_pos hk];simp|p::P,w::vs,i+1,m,nd,h1,h2,hk=>by show bindL kindOf ((p,w)::P.zip vs) m x=_;unfold bindL;exact uR (i:=i) (yi.mp nd).2 (by simpa using h1) (by simpa using h2) hk
theorem uS{kindOf:Str->Option NameKind}{x:Str}{v:Value} : ∀{P:j4}{vs:dL}{i:Nat}{m:Str->Option Value},P.Nodup->P[i]?=some x->vs[i]?=some v->kindOf x≠some .local->bindC kindOf (P.zip vs) m x=some v|[],_,_,_,_,h,_,_=>by simp at h|_::_,[],_,_,_,_,h,_=>by simp at h|p::P,w::vs,0,m,nd,h1,h2,hk=>by simp at h1 h2;subst h1;subst h2;show bindC kindOf ((p,w)::P.zip vs) m p=_;unfold bindC;rw[uQ λv hv=>(yi.mp nd).1 (List.of_mem_zip hv).1,if_neg hk];simp|p::P,w::vs,i+1,m,nd,h1,h2,hk=>by show bindC kindOf ((p,w)::P.zip vs) m x=_;unfold bindC;exact uS (i:=i) (yi.mp nd).2 (by simpa using h1) (by simpa using h2) hk
def start(N:j4)(vs:cr):St:=vs.map some++List.replicate (N.length-vs.length) none
def j_(CX:Cq)(P:Program)(w:World)(K:Frag)(mg:Str->Option Value)(base:Heap)(N:j4)(qual:Str)(scope:Scope)(f:Addr)(cd:Value)(A:Around)(outer:jp)(s:Shared)(H:Hp)(E:XK):Cx where
 prog:=P
 w:=w
 K:=K
 mg:=mg
 base:=base
 A:=A.deeper<|envOfC qual scope s.heap.objs.size f cd
 N:=N
 dm:=s
 v5:=H
 env:=envOfC qual scope s.heap.objs.size f cd
 outer:=outer
 stack:=envOfC qual scope s.heap.objs.size f cd::outer
 ex:=[]
 calm:=true
 fn:=λ_=>true
 pn:=[]
 xe:=λe s'=>wpAny (model P w) (A.deeper<|envOfC qual scope s.heap.objs.size f cd) (leaving (envOfC qual scope s.heap.objs.size f cd) e) (λ_ Cr=>CX outer H s E e Cr) (λe' Cr=>CX outer H s E e' Cr) s'
theorem Ac{sc:Scope}{n:Nat}{x:Str}(h:sc.names.lookup x=some .cell):∃c,(cellsFrom n sc.names []).lookup x=some c:=by have q:=PySem.W.cellsFrom_some sc.names n []<|.inl h;exact Option.isSome_iff_exists.mp q
theorem FX{CX:Cq}{P:Program}{w:World}{K:Frag}{mg:Str->Option Value}{base:Heap}{N ps:j4}{qual:Str}{scope:Scope}{f:Addr}{cd:Value}{A:Around}{outer:jp}{s s1:Shared}{H:Hp}{E:XK}{us:dL}{vs:cr}(S:fU N ps scope)(hd:A.handled=none)(e0:Ab P w K mg base A outer s H)(hl:vs.length=ps.length)(r:Vals vs us)(x:InCallC s s.heap.objs.size (bindL (envOfC qual scope s.heap.objs.size f cd).kindOf (ps.zip us) λ_=>none) (cellsFrom (s.heap.objs.size+1) scope.names []) (bindC (envOfC qual scope s.heap.objs.size f cd).kindOf (ps.zip us) λ_=>none) s1): Inv (j_ CX P w K mg base N qual scope f cd A outer s H E) [] (start N vs) H s1:=by
 have eO:ps.length<=N.length:=by have:=congrArg List.length S.pre;rw[yp]at this;lia
 obtain⟨h1,tk,rfl,hk⟩:=x.done;have LI:∀b:Addr,b∉(j_ CX P w K mg base N qual scope f cd A outer s H E).ex:=λb z=>absurd (show b∈([]:im) from z) (by simp);refine{{e0.mod,S.kind,rfl,rfl,zr _,λy z c h1 h2=>?_,λy hy=>?_,λy c _ h=>?_,λ_=>hd,Around.frames_deeper e0.frames,.inr ⟨rfl,rfl⟩,λb z=>absurd z<|LI b,e0.bs,e0.Lo,λb _ _=>LI b,λb z=>absurd z<|LI b,e0.qd,e0.Pn},rfl,e0.bare,Un.kept hk,{_,x.toInCall.ns,λi y v h1 h2 h3=>?_},λy c h=>{_,x.cell y c h},e0.aG.fresh<|zr _,λy c h=>?_,λp hp=>absurd (show p∈([]:io) from hp)<|by simp,e0.aG.kept hk,?_};exact name_of_addr x.apart (yh h1)<|yh h2;have hy:scope.names.lookup y=some .cell\/scope.names.lookup y=some .free:=hy;rcases hy with hy|hy;exact Ac hy;exact absurd rfl<|S.Qc _<|yh hy;exact yN<|x.above y c<|yh h;have hi:i<vs.length:=by unfold start at h2;by_cases hi:i<vs.length;exact hi;rw[List.getElem?_append_right<|by simpa using hi]at h2;rw[List.getElem?_replicate]at h2;split at h2<;>cases h2
 have ha:vs[i]?=some v:=by unfold start at h2;rw[List.getElem?_append_left<|by simpa using hi,zm]at h2;cases e:vs[i]? with|none=>(rw[e]at h2;cases h2)|some a=>rw[e]at h2;cases h2;rfl
 obtain⟨u,hu,rv⟩:=r.get ha;have hp:ps[i]?=some y:=by rw[<-S.pre,List.getElem?_take_of_lt<|by lia];exact h1
 have ndP:ps.Nodup:=by rw[<-S.pre];exact S.nd.sublist<|List.take_sublist _ _
 refine{u,rv,?_};rcases S.par y (zG hp) with k|k;exact .inl {k,uR ndP hp hu k};obtain⟨c,e⟩:=Ac (n:=s.heap.objs.size+1) k;refine .inr {.inl k,c,e,?_};have q:=x.cell y c e;rw[uS ndP hp hu<|by show scope.names.lookup y≠_;rw[k];decide]at q;exact q;exact e0.aG.fresh<|yN<|x.above y c<|yh h;unfold start;show _=N.length;rw[zE,zb,List.length_replicate];lia
theorem N2{CX:Cq}{P:Program}{w:World}{K:Frag}{mg:Str->Option Value}{base:Heap}{k:Nat}{f:Addr}{name qual:Str}{params:Arguments}{body:pc}{scope:Scope}{dV kV doc pm fV ct oc:Value}{an od:pi}{Qd:Array<|Option Value}{N ps:j4}{sp:Sp}(lk:K.lookup f=some {oc,od,.func<|fnOf name qual params body scope dV kV doc pm an fV ct,Qd})(tN:codeIn K fV qual=true)(S:fU N ps scope)(len:∀vs H Q E,sp vs H Q E->vs.length=ps.length)(l7:∀(A:Around)(outer:jp)(s:Shared)(H:Hp)(vs:cr)(Q:VK)(E:XK),bX k (A.deeper<|envOfC qual scope s.heap.objs.size f fV)->sp vs H Q E->∃t,Ec (j_ CX P w K mg base N qual scope f fV A outer s H E) body t/\t {nx:=λ_ H'=>Q .au H',rt:=Q} (start N vs) H): bT P w K mg base CX (k+1) f (fnOf name qual params body scope dV kV doc pm an fV ct) ps sp:=by
 refine{len,λA outer s H args us vs Q E hr e0 hb r Tc=>?_};have hl:=len _ _ _ _ Tc;have KX:K.In s.heap:=e0.mod.Ui.keeps λb o e=>(e0.bs b o e).1;have lim:s.heap.NoLimit:=e0.mod.nolimit.keeps λb o e=>(e0.bs b o e).1;have UP:∀y∈ps.zip us,scope.names.lookup y.1=some .local\/(scope.names.lookup y.1=some .cell/\((cellsFrom (s.heap.objs.size+1) scope.names []).lookup y.1).isSome=true):=by rintro⟨n,v⟩ hy;rcases S.par n (List.of_mem_zip hy).1 with q|q;exact .inl q;exact .inr {q,PySem.W.cellsFrom_some _ _ _<|.inl q}
 refine codeAny_call_function hr.depth (KX _ _ lk) rfl S.co S.gen rfl (PySem.W.codeRec_of KX tN)<|hb _ _ _ _ ?_;refine wpAny_newFunctionEnv_cells S.kind UP λenv he s1 x=>?_;subst he;refine{lim.keeps x.toInCall.keep,codeAny_func ?_};obtain⟨t,ht,hq⟩:=l7 A outer s H vs Q E (hr.deeper _) Tc;have I:Inv (j_ CX P w K mg base N qual scope f fV A outer s H E) [] (start N vs) H s1:=FX S hr.hd e0 hl r x;refine yx (ht [] s1 (start N vs) H _ I hq) (λfl s' hs=>?_) λe s' hs=>hs;have fin:∀{aA:St}{H':Hp}{v:V}{u:Value},Inv (j_ CX P w K mg base N qual scope f fV A outer s H E) [] aA H' s'->RelV v u->Q v H'->CE outer P w H s Q u s':=λ{aA H' v u} J rv q=>⟨v,H',J.os,J.bare,J.base,J.aG,rv,q⟩;cases fl with|ret u=>(obtain⟨v,aA,H',J,rv,q⟩:=hs;exact fin J rv q)|next=>(obtain⟨aA,H',J,q⟩:=hs;exact fin (v:=V.au) (u:=Value.none) J rfl q)|brk=>(obtain⟨_,_,_,q⟩:=hs;exact False.elim q)|cont=>obtain⟨_,_,_,q⟩:=hs;exact False.elim q
section
variable{X:Cx}{x:Str}{p pos:Pos}{e:Expr}{es:mt}{t:TA}{id T:String}{r:List V->Hp->VK->Prop}
def Zu(r:List V->Hp->VK->Prop)(t:TA):TE:=λσ H Q=>t σ H λvs H1=>r vs H1 Q
theorem Ad(hc:ee X (.builtin id) r)(hg:Gl X x)(hm:X.mg x=none)(hv:bootBuiltins x=some (.builtin id))(ha:PA X (e::es) t)(hn:autoParam (x≠"__name__") qQZ)(t9:autoParam ((x==("__debug__": Str))=false) qQZ)(he:autoParam (starEach (e::es) X.env=(false,eval e X.env)::starEach es X.env) qQJ)(eO:autoParam ((backTo pos<|starEach es X.env).any (·.1)=false) qQJ):PE X (.Call (.Name x p) (e::es) [] pos) (Zu r t):=by intro pins s σ H Q I h;refine wpAny_Call_Name_kw<|gs I hg hm hv ?_ hn t9;exact PyProof.Rows.callWith_builtin1 (ba (ha pos pins s σ H _ I h) <| by rintro us s1 ⟨vs,H1,I1,r1,q1⟩;exact hc pins s1 σ H1 vs us Q I1 r1 q1) he eO
theorem uT(hc:ee X (.type T) r)(hg:Gl X x)(hm:X.mg x=none)(hv:bootBuiltins x=some (.type T))(ha:PA X (e::es) t)(hn:autoParam (x≠"__name__") qQZ)(t9:autoParam ((x==("__debug__": Str))=false) qQZ)(he:autoParam (starEach (e::es) X.env=(false,eval e X.env)::starEach es X.env) qQJ)(eO:autoParam ((backTo pos<|starEach es X.env).any (·.1)=false) qQJ):PE X (.Call (.Name x p) (e::es) [] pos) (Zu r t):=by intro pins s σ H Q I h;refine wpAny_Call_Name_kw<|gs I hg hm hv ?_ hn t9;exact PyProof.Rows.callWith_type1 (ba (ha pos pins s σ H _ I h) <| by rintro us s1 ⟨vs,H1,I1,r1,q1⟩;exact hc pins s1 σ H1 vs us Q I1 r1 q1) he eO
end
end L2
namespace HT
open PySem PyProof.Rows
section
variable{prog:Program}{w:World}{A:Around}{E:li}{s:Shared}
theorem cat_tup{t b:Addr}(ht:IsTup s.heap t vs.toArray)(hb:IsTup s.heap b ws.toArray)(hv:vs≠[])(h1:ws=[]->Q (.ref t) s)(h2:ws≠[]->Q (.ref s.heap.objs.size) {s with heap:=s.heap.push {cls:=.type "tuple",data:=.seq (vs++ws).toArray}})(hsz:vs.length+ws.length<=sizeLine):wpAny (model prog w) A (binaryOp .Add (.ref t)<|.ref b) Q E s:=by
 obtain⟨⟨cls,dd,data,sl⟩,ho,hc,n,hd⟩:=id ht;obtain⟨⟨Zv,Td,data2,K5⟩,LJ,LK,n2,hd2⟩:=id hb;simp only at hc hd LK hd2;subst hc hd LK hd2;have e:vs.toArray++ws.toArray=(vs++ws).toArray:=by simp
 by_cases hw:ws=[];exact concat_meets {_,ho,rfl} {_,LJ,rfl} noFill_tuple_add seq_tuple_add PySem.F.slot_tuple_add PySem.F.entry_tuple_add (PySem.F.args_tuple_add_2 _ _) (tuple_addW1 t b vs.toArray ws.toArray n n2 dd Td sl K5 (by simpa using hv)<|by simp[hw]) {ho,LJ,h1 hw};refine concat_meets {_,ho,rfl} {_,LJ,rfl} noFill_tuple_add seq_tuple_add PySem.F.slot_tuple_add PySem.F.entry_tuple_add (PySem.F.args_tuple_add_2 _ _) (tuple_addW2 t b vs.toArray ws.toArray n n2 dd Td sl K5 (by simpa using hv) (by simpa using hw)<|by rw[zo,zo];exact hsz) {ho,LJ,?_};rw[e];exact h2 hw
noncomputable def sIx(n d:Nat):Option Int->Nat|none=>d|some v=>if v<0 then (v+(n:Int)).toNat else min v.toNat n
theorem sIx_none(n d:Nat):sIx n d none=d:=rfl
theorem sIx_nat(n d k:Nat):sIx n d (some (k:Int))=min k n:=by show(if (k:Int)<0 then ((k:Int)+(n:Int)).toNat else min (k:Int).toNat n)=min k n;rw[if_neg<|by lia,Int.toNat_natCast]
end
end HT
namespace L2
open PySem PySem.Spec PyProof.Rows
abbrev TO:=St->Hp->(Option Int->Hp->Prop)->Prop
def PO(X:Cx)(e:pp)(t:TO):Prop:=∀(pins:io)(s:Shared)(σ:St)(H:Hp)(Q:Option Int->Hp->Prop),Inv X pins σ H s->t σ H Q->wpAny (model X.prog X.w) X.A (evalPart e X.env) (λu s'=>∃o H',Inv X pins σ H' s'/\IsPart u o/\Q o H') X.xe s
def LL:TO:=λ_ H Q=>Q none H
def UQ(t:TE):TO:=λσ H Q=>t σ H λx H1=>∃i,x=.int i/\Q (some i) H1
section
variable{X:Cx}{e:Expr}{te:TE}{lo hi:pp}{tl th:TO}{pos p2:Pos}
theorem LM:PO X none LL:=by intro pins s σ H Q I h;rw[evalPart_none];exact zy {none,H,I,.none,h}
theorem LN(h:PE X e te):PO X (some e) (UQ te):=by intro pins s σ H Q I hw;rw[evalPart_some];refine ba (h pins s σ H _ I hw) ?_;rintro u s1 ⟨x,H1,I1,r1,q1⟩;obtain⟨i,rfl,q⟩:=q1;obtain⟨t,rfl⟩:=r1;exact{some i,H1,I1,.int i t,q}
def UR(X:Cx)(r:V->Option Int->Option Int->Hp->VK->Prop):Prop:=∀(pins:io)(s:Shared)(σ:St)(H:Hp)(x:V)(v vl vu:Value)(lo hi:re)(sl:Addr)(Q:VK),Inv X pins σ H s->RelV x v->s.heap.IsSliceOf sl vl vu .none->IsPart vl lo->IsPart vu hi->r x lo hi H Q->∃T id,typeLookup (.type T) "__getitem__"= pure (some<|.builtin id)/\s.TypeIs v T/\wpAny (model X.prog X.w) X.A (getItem v<|.ref sl) (EP X pins σ Q) X.xe s
def tSl(r:V->Option Int->Option Int->Hp->VK->Prop)(te:TE)(tl th:TO):TE:=λσ H Q=>te σ H λx H1=>tl σ H1 λl H2=>th σ H2 λu H3=>r x l u H3 Q
theorem Ae{r:V->Option Int->Option Int->Hp->VK->Prop}(hr:UR X r)(he:PE X e te)(hl:PO X lo tl)(hu:PO X hi th):PE X (.Subscript e (.Slice lo hi none p2) pos) (tSl r te tl th):=by intro pins s σ H Q I h;refine Subscript_<|ba (he pins s σ H _ I h) ?_;rintro v s1 ⟨x,H1,I1,r1,q1⟩;refine wpAny_Slice<|ba (hl pins s1 σ H1 _ I1 q1) λvl s2 ⟨l,H2,I2,pl,q2⟩=>ba (hu pins s2 σ H2 _ I2 q2) ?_;rintro vu s3 ⟨u,H3,I3,pu,q3⟩;rw[evalPart_none];refine zy ?_;have I4:Inv X pins σ H3 {s3 with heap:=s3.heap.push {cls:=.type "slice",data:=.fields #[vl,vu,.none]}}:=I3.kept (t':=s3.toks) λb ob q=>za _ q;obtain⟨T,id,hT,ht,hg⟩:=hr pins {s3 with heap:=s3.heap.push {cls:=.type "slice",data:=.fields #[vl,vu,.none]}} σ H3 x v vl vu l u s3.heap.objs.size Q I4 r1 (Heap.IsSliceOf.new ..) pl pu q3;show wpAny (model X.prog X.w) X.A (subscriptTail e (.Slice lo hi none p2) v<|.ref s3.heap.objs.size) (EP X pins σ Q) X.xe {s3 with heap:=s3.heap.push {cls:=.type "slice",data:=.fields #[vl,vu,.none]}};exact tail_any (ops:=[.ref s3.heap.objs.size,v]) ht hT hg<|by with_unfolding_all rfl
noncomputable def FY(xs:cr)(lo hi:re):cr:=(xs.drop<|HT.sIx xs.length 0 lo).take<|HT.sIx xs.length xs.length hi-HT.sIx xs.length 0 lo
theorem Af(xs:cr)(lo hi:re):(FY xs lo hi).length<=xs.length:=by unfold FY;rw[yp,List.length_drop];lia
def US(K:Frag):R2:=λx y H Q=>∃a b xs ys,x=.ref a/\y=.ref b/\gu K H a xs/\gu K H b ys/\xs≠[]/\xs.length+ys.length<=sizeLine/\(ys=[]->Q (.ref a) H)/\(ys≠[]->∀p,H p=none->Q (.ref p) (upd H p<|.tup<|xs++ys))
theorem Vals.qH(r:Vals xs us):us=[]↔xs=[]:=by cases r with|nil=>simp|cons _ _=>simp
theorem LO:gv X (binaryOp .Add) (US X.K):=by intro pins s σ H x y v u Q I rx ry h;obtain⟨a,b,xs,ys,rfl,rfl,ha,hb,hx,hz,q1,q2⟩:=h;cases rx;cases ry;obtain⟨ax,r1,p1,_⟩:=I.tuple ha;obtain⟨nS,r2,p2,_⟩:=I.tuple hb;refine HT.cat_tup p1 p2 (λz=>hx<|r1.qH.mp z) (λz=>{.ref a,H,I,rfl,q1<|r2.qH.mp z}) (λz=>?_) (by rw[<-r1.length,<-r2.length];exact hz);refine{.ref s.heap.objs.size,_,I.laid (t':=s.toks) (o:=.tup<|xs++ys) (λb ob q=>za _ q) (zr _) ?_,rfl,q2 (λw=>z<|r2.qH.mpr w) _<|I.aG.fresh<|zr _};exact{by rw[zE];exact hz,_,r1.append r2,hU.new _ _}
end
noncomputable def FZ(n:Nat)(i:Int):Option Nat:=if 0<=i then (if i<n then some i.toNat else none) else if -(n:Int)<=i then some (i+n).toNat else none
noncomputable def iW{α:Type}(xs:List α)(i:Int):Option α:=(FZ xs.length i).bind λj=>xs[j]?
theorem Ek(h:FZ n i=some j):seqIndex? i n=some j/\j<n/\-(n:Int)<=i/\i<n:=by unfold FZ at h;by_cases h0:0<=i;rw[if_pos h0]at h;by_cases h1:i<n;rw[if_pos h1]at h;have e:i.toNat=j:=zT h;exact{by rw[seqIndex_of h0 h1,e],by lia,by lia,h1};rw[if_neg h1]at h;cases h;rw[if_neg h0]at h;by_cases h1:-(n:Int)<=i;rw[if_pos h1]at h;have e:(i+n).toNat=j:=zT h;exact{by rw[seqIndex_neg (by lia) h1,e],by lia,h1,by lia};rw[if_neg h1]at h;cases h
theorem v8(h:iW xs i=some v):∃j,seqIndex? i xs.length=some j/\xs[j]?=some v/\j<xs.length/\-(xs.length:Int)<=i/\i<xs.length:=by unfold iW at h;cases e:FZ xs.length i with|none=>(rw[e]at h;cases h)|some j=>rw[e]at h;obtain⟨h1,h2,h3,h4⟩:=Ek e;exact⟨j,h1,h,h2,h3,h4⟩
theorem bZ{α:Type}{xs:List α}{j:Nat}{v:α}(h:xs[j]?=some v):iW xs (j:Int)=some v:=by
 have hj:j<xs.length:=(ze.mp h).1;have e:FZ xs.length (j:Int)=some j:=by unfold FZ;rw[if_pos<|by lia,if_pos<|by lia];simp
 unfold iW;rw[e];exact h
def El(b:Expr):Prop:=∀o i,subscripted b false o i=operate [o,i] (getItem o i)
def UT(X:Cx)(r:R2):Prop:=∀(value slice:Expr)(pins:io)(s:Shared)(σ:St)(H:Hp)(x y:V)(v u:Value)(Q:VK),Inv X pins σ H s->RelV x v->RelV y u->r x y H Q->subscripted slice false v u=operate [v,u] (getItem v u)->wpAny (model X.prog X.w) X.A (subscriptTail value slice v u) (EP X pins σ Q) X.xe s
def Te(X:Cx)(id:String)(r:V->List V->Hp->VK->Prop):Prop:=∀(pins:io)(s:Shared)(σ:St)(H:Hp)(x:V)(xs:cr)(v:Value)(us:dL)(Q:VK),Inv X pins σ H s->RelV x v->Vals xs us->r x xs H Q->wpAny (model X.prog X.w) X.A (call (.builtin id)<|v::us) (EP X pins σ Q) X.xe s
section
variable{X:Cx}{a b:Expr}{ta tb:TE}{pos:Pos}
theorem UU(hr:UT X r)(ha:PE X a ta)(hb:PE X b tb)(hs:El b):PE X (.Subscript a b pos) (PY r ta tb):=by intro pins s σ H Q I h;exact Subscript_<|PZ ha hb I h λv u s2 x y H2 I2 rx ry q=>hr a b pins s2 σ H2 x y v u Q I2 rx ry q<|hs _ _
def Zw(K:Frag):R2:=λx y H Q=>∃p xs i v,x=.ref p/\y=.int i/\iQ K H p xs/\iW xs i=some v/\Q v H
def Zx(K:Frag):R2:=λx y H Q=>∃p xs i v,x=.ref p/\y=.int i/\gu K H p xs/\iW xs i=some v/\Q v H
def Zy:R2:=λx y H Q=>∃z i c,x=.str z/\y=.int i/\z.length<=sizeLine/\iW z.cps.toList i=some c/\Q (.str ⟨#[c]⟩) H
theorem Em:UT X (Zw X.K):=by
 intro value slice pins s σ H x y v u Q I rx ry h hs;obtain⟨p,xs,i,z,rfl,rfl,hq,he,q⟩:=h;cases rx;obtain⟨t,rfl⟩:=ry;obtain⟨ax,r,pl,hz⟩:=I.list hq;obtain⟨j,h1,h2,h3,h4,h5⟩:=v8 he;obtain⟨w,ew,l6⟩:=r.get h2;have hl:=r.length;have hn:=qZ;have fin:EP X pins σ Q w s:=⟨z,H,I,l6,q⟩;by_cases h0:0<=i;have hj:i.toNat=j:=by rw[seqIndex_of h0 h5]at h1;exact zT h1
 exact item_listR pl.isList h0 (by lia) (by rw[hj];simpa using ew) fin hs;have hj:(i+(ax.toArray.size:Int)).toNat=j:=by rw[seqIndex_neg (by lia) h4]at h1;rw[zo,<-hl];exact zT h1
 exact subscriptTail_builtinR (x:=w) pl.isList.typeIs slot_list_getitem.lookup (wpAny_getItem_list_neg (Q:=λr s'=>r=w/\EP X pins σ Q r s') pl.isList (by lia) (by rw[zo]<;>lia) (by lia) (by rw[hj];simpa using ew) ⟨rfl,fin⟩) hs
theorem HY:UT X (Zx X.K):=by intro value slice pins s σ H x y v u Q I rx ry h hs;obtain⟨p,xs,i,z,rfl,rfl,hq,he,q⟩:=h;cases rx;obtain⟨t,rfl⟩:=ry;obtain⟨ax,r,pl,hz⟩:=I.tuple hq;obtain⟨j,h1,h2,h3,h4,h5⟩:=v8 he;obtain⟨w,ew,l6⟩:=r.get h2;have hl:=r.length;have hn:=qZ;have fin:EP X pins σ Q w s:=⟨z,H,I,l6,q⟩;exact subscriptTail_builtinR (x:=w) pl.typeIs slot_tuple_getitem.lookup (getItem_tuple (j:=j) (Q:=λr s'=>r=w/\EP X pins σ Q r s') pl (by lia) (by lia) (by rw[zo,<-hl];exact h1) (by simpa using ew) ⟨rfl,fin⟩) hs
theorem Qe:UT X Zy:=by
 intro value slice pins s σ H x y v u Q I rx ry h hs;obtain⟨z,i,c,rfl,rfl,hz,he,q⟩:=h;obtain⟨t,rfl⟩:=rx;obtain⟨t',rfl⟩:=ry;obtain⟨j,h1,h2,h3,h4,h5⟩:=v8 he;have hl:z.cps.toList.length=z.length:=by simp[Str.length]
 rw[hl]at h1 h4 h5;have hn:=qZ;exact tail_any (typeIs_str s z t) slot_str_getitem.lookup (getItem_str (c:=c) (by have e1:decide (i < -(2^63:Int))=false:=zx (by lia);have e2:decide (i>=2^63)=false:=zx (by lia);rw[e1,e2,Bool.or_false]) (by rw[h1];simpa using h2) {.str ⟨#[c]⟩,H,I.tok _,{_,rfl},q}) hs
theorem Cs(ax:dL)(n j:Nat)(u:Value):Obj.mapSeq (·.setIfInBounds j u) {cls:=.type "list",data:=.seq ax.toArray n}={cls:=.type "list",data:=.seq (ax.set j u).toArray n}:=by simp[Obj.mapSeq]
theorem Inv.lst(I:Inv X pins σ H s)(h:H p=some (.lst xs)): ∃(ax:dL)(n:Nat),Vals xs ax/\s.heap.get? p=some {cls:=.type "list",data:=.seq ax.toArray n}/\xs.length<=sizeLine:=by obtain⟨z,ax,n,r,e⟩:=I.aG p _ h;exact⟨ax,n,r,e,z⟩
theorem Inv.Qf{pins:io}{σ:St}{H:Hp}{s:Shared}{p:Addr}{xs ys:cr}{ax its':dL}{n n':Nat}{f:Obj->Obj}(I:Inv X pins σ H s)(h:H p=some (.lst xs))(ho:s.heap.get? p=some {cls:=.type "list",data:=.seq ax.toArray n})(hf:f {cls:=.type "list",data:=.seq ax.toArray n}={cls:=.type "list",data:=.seq its'.toArray n'})(r:Vals ys its')(hz:ys.length<=sizeLine)(t:Nat): Inv X pins σ (upd H p<|.lst ys) {s with heap:=s.heap.update p f,toks:=t}:=by
 have e:(s.heap.update p f).get? p=some {cls:=.type "list",data:=.seq its'.toArray n'}:=by rw[yz f ho<|by rw[hf]<;>rfl,hf]
 refine I.write (x:=p) (e:=p) (by rw[h];trivial) (.inl rfl) (λb u hb q=>(yt _ _<|Ne.symm hb).trans q) {_,e} ?_;exact⟨hz,its',n',r,e⟩
def UW:V->V->V->Hp->(Hp->Prop)->Prop:=λo i v H Q=>∃p xs k j,o=.ref p/\i=.int k/\H p=some (.lst xs)/\FZ xs.length k=some j/\Q (upd H p<|.lst<|xs.set j v)
theorem set_list:Uw X UW:=by
 intro pins s σ H o i v ov iv u Q I ro ri rv h;obtain⟨p,xs,k,j,rfl,rfl,hp,hj,q⟩:=h;cases ro;obtain⟨t,rfl⟩:=ri;obtain⟨ax,n,r,ho,hz⟩:=I.lst hp;obtain⟨h1,h2,h3,h4⟩:=Ek hj;have hl:=r.length;have hn:=qZ;have I':Inv X pins σ (upd H p<|.lst<|xs.set j v) {s with heap:=s.heap.update p (Obj.mapSeq (·.setIfInBounds j u))}:=I.Qf hp ho (Cs ax n j u) (r.set rv j) (by rw[List.length_set];exact hz) s.toks;by_cases h0:0<=k;have hk:k.toNat=j:=by rw[seqIndex_of h0 h4]at h1;exact zT h1
 exact PySem.W.ki_setAt ho h0 (by lia) (by rw[zo,<-hl];exact h4) (by rw[hk];exact{_,I',q});have hk:(k+(ax.toArray.size:Int)).toNat=j:=by rw[seqIndex_neg (by lia) h3]at h1;rw[zo,<-hl];exact zT h1
 exact PySem.W.ki_setBack ho (by lia) (by rw[zo,<-hl];exact h3) (by lia)<|by rw[hk];exact{_,I',q}
theorem v9(lo hi:re)(n:Nat):(sliceBounds lo hi none n).1=((HT.sIx n 0 lo:Nat):Int)/\(sliceBounds lo hi none n).2.1=((HT.sIx n n hi:Nat):Int)/\(sliceBounds lo hi none n).2.2=1:=by
 refine{?_,?_,rfl};cases lo with|none=>simp[sliceBounds,HT.sIx]|some i=>simp only[sliceBounds,HT.sIx,Option.getD_none,show(1:Int)>0 by decide,if_true];by_cases h:i<0;simp only[h,if_true]<;>lia;simp only[h,if_false]<;>lia
 cases hi with|none=>simp[sliceBounds,HT.sIx]|some i=>simp only[sliceBounds,HT.sIx,Option.getD_none,show(1:Int)>0 by decide,if_true];by_cases h:i<0;simp only[h,if_true]<;>lia;simp only[h,if_false]<;>lia
theorem t_(ax:dL)(lo hi:re):slicePick ax.toArray lo hi none=((ax.drop<|HT.sIx ax.length 0 lo).take<|HT.sIx ax.length ax.length hi-HT.sIx ax.length 0 lo).toArray:=by obtain⟨h1,h2,h3⟩:=v9 lo hi ax.toArray.size;unfold slicePick;rw[h1,h2,h3];simp only[sliceRange_one,pick_run,zo]<;>rfl
def Zz(K:Frag):V->Option Int->Option Int->Hp->VK->Prop:=λx lo hi H Q=>∃a xs,x=.ref a/\iQ K H a xs/\∀p,H p=none->Q (.ref p) (upd H p<|.lst<|FY xs lo hi)
theorem En:UR X (Zz X.K):=by intro pins s σ H x v vl vu lo hi sl Q I rx hs pl pu h;obtain⟨a,xs,rfl,hx,q⟩:=h;cases rx;obtain⟨ax,r,ht,hz⟩:=I.list hx;have hlen:=r.length;refine{"list",_,slot_list_getitem.lookup,ht.isList.typeIs,?_};refine wpAny_getItem_list_slice ht.isList hs pl pu .none (by simp) ?_ (by rw[zo]<;>lia);rw[t_,<-hlen];refine{.ref s.heap.objs.size,_,I.laid (t':=s.toks) (o:=.lst<|FY xs lo hi) (λb ob q=>za _ q) (zr _) ?_,rfl,q _<|I.aG.fresh<|zr _};exact{zI (Af xs lo hi) hz,_,0,(r.drop<|HT.sIx xs.length 0 lo).take<|HT.sIx xs.length xs.length hi-HT.sIx xs.length 0 lo,zk _ rfl}
noncomputable def gH:V->Bool|.au=>true|.bl _=>true|.int _=>true|.str _=>true|_=>false
noncomputable def eqV:V->V->Bool|.au,.au=>true|.bl a,.bl b=>a==b|.bl a,.int b=>((if a then 1 else 0)==b)|.int a,.bl b=>(a==(if b then 1 else 0))|.int a,.int b=>a==b|.str a,.str b=>a==b|_,_=>false
theorem Qg(ry:RelV y u)(rx:RelV x v)(fy:gH y=true)(fx:gH x=true):SeqAt.EqAt A s u v (eqV y x):=by cases y with|au=>(cases ry;cases x with|au=>(cases rx;exact SeqAt.EqAt.same _)|bl b=>(cases rx;exact SeqAt.EqAt.none_bool b)|int b=>(obtain⟨t,rfl⟩:=rx;exact SeqAt.EqAt.none_int b t)|str b=>(obtain⟨t,rfl⟩:=rx;exact SeqAt.EqAt.none_str b t)|_=>exact absurd (show false=true from fx) zd)|bl a=>(cases ry;cases x with|au=>(cases rx;exact SeqAt.EqAt.bool_none a)|bl b=>(cases rx;exact SeqAt.EqAt.bool_bool a b)|int b=>(obtain⟨t,rfl⟩:=rx;exact SeqAt.EqAt.bool_int a b t)|str b=>(obtain⟨t,rfl⟩:=rx;exact SeqAt.EqAt.bool_str a b t)|_=>exact absurd (show false=true from fx) zd)|int a=>(obtain⟨t',rfl⟩:=ry;cases x with|au=>(cases rx;exact SeqAt.EqAt.int_none a t')|bl b=>(cases rx;exact SeqAt.EqAt.int_bool a t' b)|int b=>(obtain⟨t,rfl⟩:=rx;exact SeqAt.EqAt.int_int a t' b t)|str b=>(obtain⟨t,rfl⟩:=rx;exact SeqAt.EqAt.int_str a t' b t)|_=>exact absurd (show false=true from fx) zd)|str a=>(obtain⟨t',rfl⟩:=ry;cases x with|au=>(cases rx;exact SeqAt.EqAt.str_none a t')|bl b=>(cases rx;exact SeqAt.EqAt.str_bool a t' b)|int b=>(obtain⟨t,rfl⟩:=rx;exact SeqAt.EqAt.str_int a t' b t)|str b=>(obtain⟨t,rfl⟩:=rx;exact SeqAt.EqAt.str_str a t' b t)|_=>exact absurd (show false=true from fx) zd)|_=>exact absurd (show false=true from fy) zd
noncomputable def HZ(x:V)(u:Value):Bool:=match u with|.none=>eqV .au x|.bool b=>eqV (.bl b) x|.int i _=>eqV (.int i) x|.str z _=>eqV (.str z) x|_=>false
theorem Ct(r:RelV y u)(f:gH y=true):HZ x u=eqV y x:=by cases y with|au=>(cases r;rfl)|bl b=>(cases r;rfl)|int i=>(obtain⟨t,rfl⟩:=r;rfl)|str z=>(obtain⟨t,rfl⟩:=r;rfl)|_=>exact absurd (show false=true from f) zd
theorem v_:∀{xs:cr}{us:dL},Vals xs us->xs.all gH=true->us.any (HZ x)=xs.any λy=>eqV y x|_,_,.nil,_=>rfl|y::xs,u::us,.cons r t,f=>by rw[List.all_cons,zA]at f;rw[yT,yT,Ct r f.1,v_ t f.2]
theorem l8(rx:RelV x v)(fx:gH x=true):∀{xs:cr}{us:dL},Vals xs us->xs.all gH=true->∀u∈us,SeqAt.EqAt A s u v (HZ x u)|_,_,.nil,_=>(λu hu=>by cases hu)|y::xs,u::us,.cons r t,f=>λu' hu=>by rw[List.all_cons,zA]at f;rcases zi.mp hu with rfl|hu;rw[Ct r f.1];exact Qg r rx f.1 fx;exact l8 rx fx t f.2 u' hu
noncomputable def wa(x:V)(xs:cr):Bool:=xs.any λy=>eqV y x
def rIn(K:Frag)(neg:Bool):R2:=λx y H Q=>∃p xs,y=.ref p/\(iQ K H p xs\/gu K H p xs)/\gH x=true/\xs.all gH=true/\Q (.bl<|if neg then !wa x xs else wa x xs) H
theorem nU:gv X (compareOp .In) (rIn X.K false):=by intro pins s σ H x y v u Q I rx ry h;obtain⟨p,xs,rfl,hq,fx,fs,q⟩:=h;cases ry;rcases hq with hq|hq;obtain⟨ax,r,pl,hz⟩:=I.list hq;refine SeqAt.in_listAt (HZ x) pl.isList (λw hw=>l8 rx fx r fs w<|by simpa using hw) {.bl _,H,I,rfl,?_};rw[show ax.toArray.any (HZ x)=ax.any (HZ x) by simp,v_ r fs];exact q;obtain⟨ax,r,pl,hz⟩:=I.tuple hq;refine SeqAt.in_tupleAt (HZ x) pl (λw hw=>l8 rx fx r fs w<|by simpa using hw) {.bl _,H,I,rfl,?_};rw[show ax.toArray.any (HZ x)=ax.any (HZ x) by simp,v_ r fs];exact q
theorem kE:ee X (.type "tuple") (λxs H Q=>∃p ys,xs=[.ref p]/\((iQ X.K H p ys/\∀l,H l=none->Q (.ref l) (upd H l<|.tup ys))\/(gu X.K H p ys/\Q (.ref p) H))):=by intro pins s σ H xs us Q I r h;obtain⟨p,ys,rfl,h⟩:=h;obtain⟨u,rfl,rx⟩:=vals1 r;cases rx;rcases h with⟨hq,q⟩|⟨hq,q⟩;obtain⟨ax,r',pl,hz⟩:=I.list hq;have hlen:=r'.length;refine call_tuple_list pl.isList (λh' kp=>?_) (by simp only[zo]<;>lia);have I1:Inv X pins σ H {s with heap:=h'}:=I.kept (t':=s.toks) kp;have I2:Inv X pins σ (upd H h'.objs.size<|.tup ys) {s with heap:=h'.push {cls:=.type "tuple",data:=.seq ax.toArray}}:=I1.laid (t':=s.toks) (λb o e=>za _ e) (zr _)<|show bp X.prog X.w _ _ _ (.tup ys) from{hz,ax,r',hU.new _ _};exact{.ref h'.objs.size,_,I2,rfl,q _<|I1.aG.fresh<|zr _};obtain⟨ax,r',pl,hz⟩:=I.tuple hq;exact call_tuple_same pl {.ref p,H,I,rfl,q}
def X6(K:Frag)(T:String)(x:V)(H:Hp):Prop:=match x with|.str _=>T ="str"|.int _=>T ="int"|.ref p=>(T ="list"/\∃xs,iQ K H p xs)\/(T ="tuple"/\∃o,K.lookup p=some o/\o.cls=.type "tuple"/\o.dict=none)\/(T ="dict"/\((∃kvs,H p=some (.dK kvs))\/∃kvs,H p=some (.dT kvs)))\/(T ="set"/\∃S n,H p=some (.set S n))|_=>False
theorem H9{T:String}(I:Inv X pins σ H s)(r:RelV x v)(ty:X6 X.K T x H): s.TypeIs v T/\∀a,v=.ref a->∃ob,s.heap.get? a=some ob/\ob.dict=none:=by cases x with|str z=>(obtain⟨t,rfl⟩:=r;cases (show T ="str" from ty);exact{typeIs_str s z t,λ_ e=>nomatch e})|int i=>(obtain⟨t,rfl⟩:=r;cases (show T ="int" from ty);exact{typeIs_int s i t,λ_ e=>nomatch e})|ref p=>(cases r;rcases ty with⟨rfl,xs,hq⟩|⟨rfl,o,hk,hc,hd⟩|⟨rfl,hk⟩|⟨rfl,S,n,hk⟩;obtain⟨ax,_,pl,_⟩:=I.list hq;refine{pl.isList.typeIs,λa e=>?_};cases e;obtain⟨o,n,e,c,hd,_⟩:=pl;exact⟨o,e,hd⟩;refine{{o,I.ph p o hk,hc},λa e=>?_};cases e;exact{o,I.ph _ o hk,hd};have z:∃o,s.heap.get? p=some o/\o.ExactDict:=(by rcases hk with⟨kvs,hk⟩|⟨kvs,hk⟩;obtain⟨_,_,_,_,o,_,_,e,ex,_⟩:=I.aG p _ hk;exact⟨o,e,ex⟩;exact False.elim<|I.aG p _ hk);obtain⟨o,e,ex⟩:=z;refine{⟨o,e,ex.1⟩,λa e2=>?_};cases e2;exact⟨o,e,ex.2.1⟩;obtain⟨o,_,_,_,e,ex,_⟩:=I.aG p _ hk;refine{⟨o,e,ex.1⟩,λa e2=>?_};cases e2;exact⟨o,e,ex.2.1⟩)|_=>exact False.elim ty
def ZA(K:Frag)(T:String)(r:V->List V->Hp->VK->Prop)(to:TE):TE:=λσ H Q=>to σ H λx H1=>X6 K T x H1/\r x [] H1 Q
def tBM(K:Frag)(T:String)(r:V->List V->Hp->VK->Prop)(to:TE)(t:TA):TE:=λσ H Q=>to σ H λx H1=>X6 K T x H1/\t σ H1 λxs H2=>r x xs H2 Q
variable{o e:Expr}{es:mt}{to:TE}{t:TA}{name:Str}{apos aP:Pos}{T id:String}{r:V->List V->Hp->VK->Prop}
theorem Qh(pa:PlainAttrs T)(slot:Slot T name id)(Qi:typeOf (.builtin id)=pure (.type "method_descriptor"))(hm:Te X id r)(ho:PE X o to)(q9:autoParam (attributeBase o name X.env (eval o X.env)=eval o X.env) qQJ)(q_:autoParam ((apos.endLine==aP.line)=true) qQJ):PE X (.Call (.Attribute o name apos) [] [] aP) (ZA X.K T r to):=by intro pins s σ H Q I h;refine wpAny_Call_method0_late q9 q_<|ba (ho pins s σ H _ I h) ?_;rintro v s1 ⟨x,H1,I1,r1,ty,q1⟩;obtain⟨h1,h2⟩:=H9 I1 r1 ty;exact{T,id,pa,slot,Qi,h1,h2,yu rfl<|PySem.evalArgs_none<|hm pins s1 σ H1 x [] v [] Q I1 r1 .nil q1}
theorem UX(pa:PlainAttrs T)(slot:Slot T name id)(Qi:typeOf (.builtin id)=pure (.type "method_descriptor"))(hm:Te X id r)(ho:PE X o to)(ha:PA X (e::es) t)(q9:autoParam (attributeBase o name X.env (eval o X.env)=eval o X.env) qQJ)(Qj:autoParam (((backTo aP<|starEach (e::es) X.env).all (λx=>!x.1)&&(backToKw aP<|keywordEach [] X.env).all (λx=>x.1.isSome)&&decide ((e::es).length+([]:rp).length+(if ([]:rp).isEmpty then 0 else 1)<30))=true) qQJ)(q_:autoParam ((apos.endLine==aP.line)=true) qQJ)(hs:autoParam (starEach (e::es) X.env=(false,eval e X.env)::starEach es X.env) qQJ)(Cu:autoParam ((backTo aP<|starEach es X.env).any (·.1)=false) qQJ): PE X (.Call (.Attribute o name apos) (e::es) [] aP) (tBM X.K T r to t):=by intro pins s σ H Q I h;refine wpAny_Call_method_late q9 Qj q_ rfl<|ba (ho pins s σ H _ I h) ?_;rintro v s1 ⟨x,H1,I1,r1,ty,q1⟩;obtain⟨h1,h2⟩:=H9 I1 r1 ty;refine{T,id,pa,slot,Qi,h1,h2,?_};have hA:=ha aP pins s1 σ H1 _ I1 q1;rw[hs]at hA⊢;refine yu (by show(false||(backTo aP<|starEach es X.env).any (·.1))=false;rw[Cu]<;>rfl)<|Calls.evalArgs_plain ?_;exact ba hA <| by rintro us s2 ⟨vs,H2,I2,r2,q2⟩;exact hm pins s2 σ H2 x vs v us Q I2 r1 r2 q2
end
def UY(X:Cx)(id:String)(r:V->List V->Hp->VK->Prop):Prop:=∀(pins:io)(s:Shared)(σ:St)(H:Hp)(x:V)(xs:cr)(v:Value)(us:dL)(Q:VK),Inv X pins σ H s->RelV x v->Vals xs us->r x xs H Q->wpAny (model X.prog X.w) X.A (call (.builtin id)<|v::us) (EP X pins σ Q) X.xe s
theorem Vals.one:∀{x:V}{us:dL},Vals [x] us->∃u,us=[u]/\RelV x u:=by intro x us h;cases h with|cons r t=>cases t;exact{_,rfl,r}
theorem Vals.two:∀{x y:V}{us:dL},Vals [x,y] us->∃u v,us=[u,v]/\RelV x u/\RelV y v:=by intro x y us h;cases h with|cons r t=>obtain⟨_,rfl,q⟩:=Vals.one t;exact{_,_,rfl,r,q}
theorem Vals.zero:∀{us:dL},Vals [] us->us=[]|_,.nil=>rfl
theorem Vals.dropLast{xs:cr}{us:dL}(h:Vals xs us):Vals xs.dropLast us.dropLast:=by induction h with|nil=>exact .nil|cons r t ih=>cases t with|nil=>exact .nil|cons q t'=>exact .cons r ih
theorem Vals.eraseIdx:∀{xs:cr}{us:dL}(i:Nat),Vals xs us->Vals (xs.eraseIdx i) (us.eraseIdx i)|_,_,_,.nil=>.nil|_,_,0,.cons _ t=>t|_,_,i+1,.cons r t=>.cons r<|Vals.eraseIdx i t
theorem Cv{α:Type}(l:List α):l.eraseIdx (l.length-1)=l.dropLast:=by induction l with|nil=>rfl|cons a r ih=>cases r with|nil=>rfl|cons b r=>have e:(a::b::r).length-1=((b::r).length-1)+1:=(by have h1:(a::b::r).length=r.length+2:=rfl;have h2:(b::r).length=r.length+1:=rfl;lia);rw[e,List.eraseIdx_cons_succ,ih];all_goals rfl
theorem uU{α:Type} : ∀(l:List α)(i:Nat),(l.eraseIdx i).length<=l.length|[],_=>zr _|_::_,0=>yV _|_::r,i+1=>Nat.succ_le_succ<|uU r i
section
variable{X:Cx}{pins:io}{σ:St}{H:Hp}{s:Shared}{l:Addr}{xs ys:cr}
theorem Inv.H_{ax its':dL}{n:Nat}{f:Array Value->Array Value}{t':Nat}(I:Inv X pins σ H s)(hH:H l=some (.lst xs))(e:s.heap.get? l=some {cls:=.type "list",data:=.seq ax.toArray n})(hf:f ax.toArray=its'.toArray)(hv:Vals ys its')(hz:ys.length<=sizeLine): Inv X pins σ (upd H l<|.lst ys) {s with heap:=s.heap.update l<|Obj.mapSeq f,toks:=t'}:=by have q:=PySem.IsL.update e f;rw[hf]at q;refine I.write (x:=l) (e:=l) (by rw[hH];exact trivial) (.inl rfl) (λb' u hb hu=>(yt s.heap (Obj.mapSeq f)<|Ne.symm hb).trans hu) {_,q} ?_;exact{hz,its',_,hv,q}
theorem Inv.ZC(I:Inv X pins σ H s)(hv:Vals ys ax)(hz:ys.length<=sizeLine): Inv X pins σ (upd H s.heap.objs.size<|.lst ys) {s with heap:=s.heap.push {cls:=.type "list",data:=.seq ax.toArray},toks:=t'}:=I.laid (λ_ _ q=>za _ q) (zr _) {hz,ax,0,hv,zk _ rfl}
theorem Inv.fresh(I:Inv X pins σ H s):H s.heap.objs.size=none:=I.aG.fresh<|zr _
theorem Inv.Ag(I:Inv X pins σ H s)(hH:H l=some (.lst xs)):xs.length<=sizeLine/\∃(ax:dL)(n:Nat),Vals xs ax/\xs.length=ax.length/\s.heap.get? l=some {cls:=.type "list",data:=.seq ax.toArray n}:=by obtain⟨z,ax,n,r,e⟩:=I.aG l _ hH;exact⟨z,ax,n,r,r.length,e⟩
theorem Ia{n:Nat}(h:n<=sizeLine):Builtin.List.listTooLong n=false:=by unfold Builtin.List.listTooLong;exact zx<|by lia
end
section
variable{X:Cx}
def LP:V->List V->Hp->VK->Prop:=λx vs H Q=>∃l xs y,x=.ref l/\vs=[y]/\H l=some (.lst xs)/\xs.length<sizeLine/\Q .au (upd H l<|.lst<|xs++[y])
theorem F5:UY X "list.append" LP:=by intro pins s σ H x vs v us Q I rx rv h;obtain⟨l,xs,y,rfl,rfl,hH,hz,q⟩:=h;cases rx;obtain⟨u,rfl,ru⟩:=rv.one;obtain⟨z,ax,n,r,hl,e⟩:=I.Ag hH;refine call_meets F.slot_list_append {_,e,rfl} F.entry_list_append (F.args_list_append_2 _ _) (PySem.list_append l ax.toArray n u<|by rw[zo];lia) {e,?_};refine{.au,_,I.H_ (its':=ax++[u]) hH e (by simp) (r.append<|.cons ru .nil) ?_,rfl,q};rw[zE,List.length_singleton];lia
def ZD:V->List V->Hp->VK->Prop:=λx vs H Q=>∃l xs y,x=.ref l/\vs=[]/\H l=some (.lst xs)/\xs[xs.length-1]?=some y/\Q y (upd H l<|.lst xs.dropLast)
theorem Ql:UY X "list.pop" ZD:=by
 intro pins s σ H x vs v us Q I rx rv h;obtain⟨l,xs,y,rfl,rfl,hH,hy,q⟩:=h;cases rx;have ZE:=rv.zero;subst ZE;obtain⟨z,ax,n,r,hl,e⟩:=I.Ag hH;obtain⟨u,hu,ru⟩:=r.get hy;have UZ:ax.toArray[ax.toArray.size-1]?=some u:=by show ax.toArray[ax.length-1]?=some u;rw[<-Array.getElem?_toList,<-hl];exact hu
 refine call_meets F.slot_list_pop {_,e,rfl} F.entry_list_pop (F.args_list_pop_1 _) (MeetsSeq.list_pop_last l ax.toArray n u UZ<|by rw[zo];lia) {e,?_};refine{y,_,I.H_ (its':=ax.dropLast) hH e ?_ r.dropLast ?_,ru,q};show ax.toArray.eraseIdxIfInBounds (ax.toArray.size-1)=ax.dropLast.toArray;rw[zo,List.eraseIdxIfInBounds_toArray,Cv];rw[List.length_dropLast];lia
def Qm:V->List V->Hp->VK->Prop:=λx vs H Q=>∃l xs i k y,x=.ref l/\vs=[.int i]/\H l=some (.lst xs)/\-(2^63)<=i/\i<2^63/\seqIndex? i xs.length=some k/\xs[k]?=some y/\Q y (upd H l<|.lst<|xs.eraseIdx k)
theorem Ib:UY X "list.pop" Qm:=by intro pins s σ H x vs v us Q I rx rv h;obtain⟨l,xs,i,k,y,rfl,rfl,hH,h1,h2,hk,hy,q⟩:=h;cases rx;obtain⟨u,rfl,ru⟩:=rv.one;obtain⟨t,rfl⟩:=ru;obtain⟨z,ax,n,r,hl,e⟩:=I.Ag hH;obtain⟨w,hw,l6⟩:=r.get hy;refine call_meets F.slot_list_pop {_,e,rfl} F.entry_list_pop (F.args_list_pop_2 _ _) (MeetsSeq.list_pop_at l ax.toArray n i t k w (fitsIndex_both h1 h2) (by rw[zo,<-hl];exact hk) (by rw[<-Array.getElem?_toList];exact hw)<|by rw[zo];lia) {e,?_};refine{y,_,I.H_ (its':=ax.eraseIdx k) hH e ?_ (r.eraseIdx k) ?_,l6,q};show ax.toArray.eraseIdxIfInBounds k=(ax.eraseIdx k).toArray;rw[List.eraseIdxIfInBounds_toArray];have:=uU xs k;lia
def Qn:V->List V->Hp->VK->Prop:=λx vs H Q=>∃l xs,x=.ref l/\vs=[]/\H l=some (.lst xs)/\Q .au (upd H l<|.lst [])
theorem Ie:UY X "list.clear" Qn:=by intro pins s σ H x vs v us Q I rx rv h;obtain⟨l,xs,rfl,rfl,hH,q⟩:=h;cases rx;have ZE:=rv.zero;subst ZE;obtain⟨z,ax,n,r,hl,e⟩:=I.Ag hH;refine call_meets F.slot_list_clear {_,e,rfl} F.entry_list_clear (F.args_list_clear_1 _) (AutoSeq1.list_clear_list_0 l ax.toArray n<|by rw[zo];lia) {e,?_};exact{.au,_,I.H_ (its':=[]) (ys:=[]) hH e rfl .nil<|zY _,rfl,q}
def ZF:R2:=λx y H Q=>∃l b xs zs,x=.ref l/\y=.ref b/\H l=some (.lst xs)/\H b=some (.lst zs)/\xs.length+zs.length<=sizeLine/\∀p,H p=none->Q (.ref p) (upd H p<|.lst<|xs++zs)
theorem Qo:gv X (binaryOp .Add) ZF:=by
 intro pins s σ H x y v u Q I rx ry h;obtain⟨l,b,xs,zs,rfl,rfl,hH,hB,hz,q⟩:=h;cases rx;cases ry;obtain⟨z,ax,n,r,hl,e⟩:=I.Ag hH;obtain⟨z2,nS,n2,r2,N3,e2⟩:=I.Ag hB;refine PySem.P.add_list e e2 ?_ (by rw[zo,zo];lia);have ea:ax.toArray++nS.toArray=(ax++nS).toArray:=by simp
 rw[ea];exact{.ref _,_,I.ZC (t':=s.toks) (r.append r2)<|by rw[zE];lia,rfl,q _ I.fresh}
end
section
variable{κ:Type}[DecidableEq κ]
noncomputable def fQ(kvs:List<|κ×V)(k:κ):Option V:=(kvs.find? λkv=>decide<|kv.1=k).map (·.2)
noncomputable def putK(kvs:List<|κ×V)(k:κ)(v:V):List (κ×V):=if (kvs.any λkv=>decide<|kv.1=k)=true then kvs.map (λkv=>if kv.1=k then (kv.1,v) else kv) else kvs++[(k,v)]
noncomputable def pz(kvs:List<|κ×V)(k:κ):List (κ×V):=kvs.filter λkv=>decide<|kv.1≠k
theorem rf{p:κ×V}{r:List<|κ×V}{k:κ}(e:p.1=k):fQ (p::r) k=some p.2:=by simp[fQ,yb,e]
theorem rh{p:κ×V}{r:List<|κ×V}{k:κ}(e:¬p.1=k):fQ (p::r) k=fQ r k:=by simp[fQ,yb,e]
theorem i8(kvs:List<|κ×V)(k:κ)(v:V):(putK kvs k v).length<=kvs.length+1:=by unfold putK;split;rw[zb];lia;rw[zE,zQ,List.length_nil];lia
theorem fj.nV(r:fj o u):o.isSome=u.isSome:=by cases o with|none=>(cases u with|none=>rfl|some _=>exact(show False from r).elim)|some _=>cases u with|none=>exact(show False from r).elim|some _=>rfl
theorem fj.getD{o:Option V}{u:Option Value}{d:V}{d':Value}(r:fj o u)(rd:RelV d d'):RelV (o.getD d) (u.getD d'):=by cases o with|none=>(cases u with|none=>exact rd|some _=>exact(show False from r).elim)|some _=>cases u with|none=>exact(show False from r).elim|some _=>exact r
theorem KV.val{kvs:List<|κ×V}{vs:List<|κ×Value}(r:KV kvs vs)(k:κ):fj (fQ kvs k) (valueAt vs k):=by unfold KV at r;induction r with|nil=>exact True.intro|@cons p q ps qs h t ih=>obtain⟨h1,h2⟩:=h;by_cases e:p.1=k;have e':q.1=k:=h1.symm.trans e;have b:valueAt (q::qs) k=some q.2:=(by simp[valueAt,yb,e']);rw[rf e,b];exact h2;have e':¬q.1=k:=λz=>e<|h1.trans z;have b:valueAt (q::qs) k=valueAt qs k:=(by simp[valueAt,yb,e']);rw[rh e,b];exact ih
theorem KV.any{kvs:List<|κ×V}{vs:List<|κ×Value}(r:KV kvs vs)(k:κ):(kvs.any λkv=>decide<|kv.1=k)=vs.any λkv=>decide (kv.1=k):=by unfold KV at r;induction r with|nil=>rfl|cons h t ih=>rw[yT,yT,ih,h.1]
theorem KV.Qp(r:KV kvs vs)(k:κ)(ry:RelV y u): KV (kvs.map λkv=>if kv.1=k then (kv.1,y) else kv) (vs.map λkv=>if kv.1=k then (kv.1,u) else kv):=by unfold KV at r⊢;induction r with|nil=>exact .nil|@cons p q ps qs h t ih=>rw[zt,zt];refine .cons ?_ ih;obtain⟨h1,h2⟩:=h;by_cases e:p.1=k;rw[if_pos e,if_pos<|h1.symm.trans e];exact⟨h1,ry⟩;rw[if_neg e,if_neg λz=>e<|h1.trans z];exact⟨h1,h2⟩
theorem KV.put(r:KV kvs vs)(k:κ)(ry:RelV y u):KV (putK kvs k y) (stored vs k u):=by unfold putK stored;rw[r.any k];by_cases e:(vs.any λkv=>decide<|kv.1=k)=true;rw[if_pos e,if_pos e];exact r.Qp k ry;rw[if_neg e,if_neg e];exact Paired.snoc r ⟨rfl,ry⟩
theorem KV.drop(r:KV kvs vs)(k:κ):KV (pz kvs k) (without vs k):=by unfold KV at r⊢;unfold pz without;induction r with|nil=>exact .nil|@cons p q ps qs h t ih=>obtain⟨h1,h2⟩:=h;rw[yw,yw];by_cases e:p.1=k;have a:¬decide (p.1≠k)=true:=(by simp[e]);have b:¬decide (q.1≠k)=true:=(by simp[h1.symm.trans e]);rw[if_neg a,if_neg b];exact ih;have e':¬q.1=k:=λz=>e<|h1.trans z;have a:decide (p.1≠k)=true:=(by simp[e]);have b:decide (q.1≠k)=true:=(by simp[e']);rw[if_pos a,if_pos b];exact .cons ⟨h1,h2⟩ ih
theorem KV.length{kvs:List<|κ×V}{vs:List<|κ×Value}(r:KV kvs vs):kvs.length=vs.length:=yX r
theorem Ig(kvs:List<|κ×V)(k:κ):(pz kvs k).length<=kvs.length:=yA _ _
end
theorem iC(r:RelV (kV k) u):(aE P w).is k u=true:=by cases k with|inl i=>(obtain⟨t,e⟩:=(show ∃t,u=Value.int i t from r);subst e;exact y8 P w i t)|inr x=>obtain⟨t,e⟩:=(show ∃t,u=Value.str x t from r);subst e;exact iZ P w x t
theorem uV:∀{ks:List Key}{us:dL},Vals (ks.map kV) us->ItemsAre (aE P w) ks us|[],_,r=>(by rw[yQ]at r;cases r;exact .nil)|k::ks,_,r=>by rw[zt]at r;cases r with|cons h t=>exact .cons (iC h)<|uV t
abbrev KT(H:Hp):List (List Key×V)->List (List Key×Addr×Value)->Prop:=Paired λp q=>p.1=q.1/\H q.2.1=some (.tup<|p.1.map kV)/\RelV p.2 q.2.2
theorem KT.val{H:Hp}{kvs:List<|List Key×V}{xs:List<|List Key×Addr×Value}(r:KT H kvs xs)(k:List Key):fj (fQ kvs k) ((atKey xs k).map (·.2)):=by induction r with|nil=>exact True.intro|@cons p q ps qs h t ih=>obtain⟨h1,_,h2⟩:=h;by_cases e:p.1=k;have e':q.1=k:=h1.symm.trans e;have b:atKey (q::qs) k=some q.2:=(by simp[atKey,yb,e']);rw[rf e,b];exact h2;have e':¬q.1=k:=λz=>e<|h1.trans z;have b:atKey (q::qs) k=atKey qs k:=(by simp[atKey,yb,e']);rw[rh e,b];exact ih
section
variable{P:Program}{w:World}{H:Hp}{h:Heap}{a:Addr}
theorem N4(ok:kX P w H h)(e:Rd H a u):bp P w H h a u:=e.ok ok
theorem pA(ok:kX P w H h)(e:Rd H a<|.dK kvs):kvs.length<=sizeLine/\(a==sysModules)=false/\∃vs,KV kvs vs/\h.DictOf (aE P w) a vs:=show bp P w H h a (.dK kvs) from N4 ok e
theorem rj(ok:kX P w H h)(e:H a=some (.dK kvs)):kvs.length<=sizeLine/\(a==sysModules)=false/\∃vs,KV kvs vs/\h.DictOf (aE P w) a vs:=pA ok<|.inl e
theorem wb(ok:kX P w H h)(e:H a=some (.tup<|ks.map kV)):(tupleKind<|aE P w).is h ks a:=by obtain⟨_,ax,r,o,h1,h2,_,n,h3⟩:=(show bp P w H h a (.tup<|ks.map kV) from ok a _ e);exact{o,ax.toArray,n,h1,h2,h3,by simpa using uV r}
theorem uW(ok:kX P w H h)(e:Rd H a<|.dT kvs):kvs.length<=sizeLine/\(a==sysModules)=false/\∃xs,KT H kvs xs/\h.DictOfH (tupleKind<|aE P w) a xs:=by exact False.elim<|show bp P w H h a (.dT kvs) from N4 ok e
end
def qh(H:Hp)(a:Addr)(y:V)(r:Option V):Prop:=(∃kvs k,Rd H a (.dK kvs)/\y=kV k/\r=fQ kvs k)\/∃kvs k b,Rd H a (.dT kvs)/\y=.ref b/\H b=some (.tup<|k.map kV)/\r=fQ kvs k
def Ih(H:Hp)(a:Addr)(y v:V)(H':Hp):Prop:=(∃kvs k,H a=some (.dK kvs)/\y=kV k/\kvs.length<sizeLine/\H'=upd H a (.dK<|putK kvs k v))\/∃kvs k b,H a=some (.dT kvs)/\y=.ref b/\H b=some (.tup<|k.map kV)/\kvs.length<sizeLine/\H'=upd H a (.dT<|putK kvs k v)
theorem qh.k{H:Hp}{a:Addr}{kvs:fv}{k:Key}(e:H a=some (.dK kvs)):qh H a (kV k) (fQ kvs k):=.inl {kvs,k,.inl e,rfl,rfl}
theorem Ih.k{H:Hp}{a:Addr}{kvs:fv}{k:Key}{v:V}(e:H a=some (.dK kvs))(hl:kvs.length<sizeLine):Ih H a (kV k) v (upd H a<|.dK<|putK kvs k v):=.inl ⟨kvs,k,e,rfl,hl,rfl⟩
section
variable{X:Cx}{pins:io}{σ:St}{H:Hp}{s:Shared}{a:Addr}{y v:V}{u r:Value}{o:Option V}{A:Around}{E:li}
theorem Inv.big(I:Inv X pins σ H s):sysModules<s.heap.objs.size:=by have h:mainGlobals<s.heap.objs.size:=(I.mod.glob.keeps I.bk).lt;exact Nat.lt_trans (by decide) h
theorem F6(hu:A.units+1<cLine)(I:Inv X pins σ H s)(g:qh H a y<|some v)(ry:RelV y u)(h:∀w' s',Inv X pins σ H s'->RelV v w'->Q w' s'): wpAny (model X.prog X.w) A (getItem (.ref a) u) Q E s:=by rcases g with⟨kvs,k,e,ey,l⟩|⟨kvs,k,b,e,ey,eb,l⟩;subst ey;obtain⟨z,hd,vs,rel,dd⟩:=pA I.aG e;obtain⟨w',hw,l6⟩:=fj.some_of (v:=v) (o:=valueAt vs k) (by rw[l];exact rel.val k);exact wpAny_getItem_of (iC ry) dd.mapOf hw<|h w' _ (I.tok _) l6;subst ey;cases (show u=Value.ref b from ry);obtain⟨z,hd,xs,rel,dd⟩:=uW I.aG e;obtain⟨w',hw,l6⟩:=fj.some_of (v:=v) (o:=(atKey xs k).map (·.2)) (by rw[l];exact rel.val k);obtain⟨p,hp,eT⟩:=Option.map_eq_some_iff.mp hw;refine wpAny_getItem_heap (tupleKind_room_in1 hu) (wb I.aG eb) dd hp ?_;rw[eT];exact h w' _ (I.tok _) l6
theorem ZG(hu:A.units+1<cLine)(I:Inv X pins σ H s)(g:qh H a y o)(ry:RelV y u)(h:∀s',Inv X pins σ H s'->Q (.bool o.isSome) s'): wpAny (model X.prog X.w) A (compareOp .In u<|.ref a) Q E s:=by rcases g with⟨kvs,k,e,ey,l⟩|⟨kvs,k,b,e,ey,eb,l⟩;subst ey;obtain⟨z,hd,vs,rel,dd⟩:=pA I.aG e;refine wpAny_in_of (iC ry) hd dd.mapOf ?_;rw[<-(rel.val k).nV,<-l];exact h _<|I.tok _;subst ey;cases (show u=Value.ref b from ry);obtain⟨z,hd,xs,rel,dd⟩:=uW I.aG e;refine wpAny_in_heap (tupleKind_room_in1 hu) (wb I.aG eb) hd dd ?_;have q:=(rel.val k).nV;rw[Option.isSome_map]at q;rw[<-q,<-l];exact h _<|I.tok _
theorem l9(I:Inv X pins σ H s)(mu:Ug<|H a)(hs:Heap.SameBut a s.heap h')(he:∃q,h'.get? a=some q)(new:bp X.prog X.w (upd H a ob) h' a ob): Inv X pins σ (upd H a ob) {s with heap:=h',toks:=t'}:=I.write (x:=a) (e:=a) mu (.inl rfl) (λb q hb z=>(hs.2 b hb).trans z) he new
theorem rl(z:kvs.length<=sizeLine)(hd:(a==sysModules)=false)(rel:KV kvs vs)(dd:h'.DictOf (aE P w) a vs): bp P w H' h' a (.dK kvs):=⟨z,hd,vs,rel,dd⟩
theorem F8(hu:A.units+1<cLine)(I:Inv X pins σ H s)(g:Ih H a y v H')(ry:RelV y u)(rv:RelV v r)(h:∀s',Inv X pins σ H' s'->Q () s'): wpAny (model X.prog X.w) A (setItem (.ref a) u r) Q E s:=by
 rcases g with⟨kvs,k,e,ey,l,eH⟩|⟨kvs,k,b,e,ey,eb,l,eH⟩;subst ey eH;obtain⟨z,hd,vs,rel,dd⟩:=rj I.aG e;have hz:vs.length<=sizeLine:=by rw[<-rel.length];exact z
 have hl:(putK kvs k v).length<=sizeLine:=by have:=i8 kvs k v;lia
 refine wpAny_setItem_pairs (hsz:=hz) (iC ry) dd λh' Eo hs=>h _ ?_;have he:∃q,h'.get? a=some q:=by obtain⟨q,_,_,hq,_⟩:=Eo;exact⟨q,hq⟩
 exact l9 I (by rw[e];exact True.intro) hs he<|rl hl hd (rel.put k rv) Eo;exact False.elim<|I.aG _ _ e
end
section
variable{X:Cx}{pins:io}{σ:St}{H:Hp}{s:Shared}{a:Addr}{kvs:fv}{k:Key}{u:Value}{A:Around}{E:li}
theorem U0(I:Inv X pins σ H s)(e:H a=some (.dK kvs))(ry:RelV (kV k) u)(l:fQ kvs k=some v)(hm:more=[]\/∃x,more=[x])(h:∀w' s',Inv X pins σ (upd H a<|.dK<|pz kvs k) s'->RelV v w'->Q w' s'):wpAny (model X.prog X.w) A (call (.builtin "dict.pop")<|.ref a::u::more) Q E s:=by
 obtain⟨z,hd,vs,rel,dd⟩:=rj I.aG e;obtain⟨w',hw,l6⟩:=fj.some_of (v:=v) (o:=valueAt vs k) (by rw[<-l];exact rel.val k);have hp:(keyPart u).isSome=true:=by cases k with|inl i=>(obtain⟨t,q⟩:=(show ∃t,u=Value.int i t from ry);subst q;rfl)|inr x=>obtain⟨t,q⟩:=(show ∃t,u=Value.str x t from ry);subst q;rfl
 have ha:argsOk "dict.pop" {.ref a::u::more,[]}:=by rcases hm with q|⟨x,q⟩;subst q;exact PySem.F.args_dict_pop_2 _ _;subst q;exact PySem.F.args_dict_pop_3 _ _ _
 refine call_meetsIn PySem.F.slot_dict_pop dd.typeIs PySem.F.entry_dict_pop ha (meets_dict_pop_there (aE X.prog X.w) a (iC ry) more hm hp) {vs,w',dd,by rw[<-rel.length];exact z,hw,λh' Eo hs=>h w' _ ?_ l6};have he:∃q,h'.get? a=some q:=by obtain⟨q,_,_,hq,_⟩:=Eo;exact⟨q,hq⟩
 exact l9 I (by rw[e];exact True.intro) hs he<|rl (zI (Ig kvs k) z) hd (rel.drop k) Eo
theorem U1(I:Inv X pins σ H s)(e:Rd H a<|.dK kvs)(h:∀t s',Inv X pins σ H s'->Q (.int kvs.length t) s'):wpAny (model X.prog X.w) A (call (.builtin "len") [.ref a]) Q E s:=by obtain⟨z,hd,vs,rel,dd⟩:=pA I.aG e;refine call_len_dict hd dd (by rw[<-rel.length];rw[yf]at z;lia) ?_;rw[<-rel.length];exact h _ _<|I.tok _
end
def Qq(i:Expr):Prop:=∀ov iv,subscripted i false ov iv=operate [ov,iv] (getItem ov iv)
theorem LQ{prog:Program}{w:World}{A:Around}{E:li}{s:Shared}{env:Env}{value slice:Expr}{pos:Pos}{T id:String}{Q:li}(hl:typeLookup (.type T) "__getitem__"= pure (some<|.builtin id))(hs:Qq slice)(h:wpAny (model prog w) A (eval value env) (λo aU=>wpAny (model prog w) A (eval slice env) (λi bG=>bG.TypeIs o T/\wpAny (model prog w) A (getItem o i) Q E bG) E aU) E s): wpAny (model prog w) A (eval (.Subscript value slice pos) env) Q E s:=by
 refine Subscript_<|yx h (λo aU h₁=>yx h₁ (λi bG Ii=>?_) λ_ _ x=>x) λ_ _ x=>x;obtain⟨hT,Ii⟩:=Ii;unfold subscriptTail;refine zc ?_;rw[getitemInPython_of_ne hT.not_modules];refine zc<|wpAny_specialOf hT hl ?_;have fin:wpAny (model prog w) A (subscripted slice false o i) (λr tY=>wpAny (model prog w) A (letTemporaryGo value o r >>=λ_=>pure r) Q E tY) E bG:=by rw[hs o i];exact wpAny_operating<|yx Ii (λr tY LR=>zc<|wpAny_letTemporaryGo<|zy LR) λ_ _ x=>x
 first|exact zy (zc fin)|exact zc (zy<|zc fin)|exact zc fin
theorem Ah(I:Inv X pins σ H s)(g:qh H a y o):s.TypeIs (.ref a) "dict":=by rcases g with⟨kvs,k,e,_,_⟩|⟨kvs,k,b,e,_,_,_⟩;obtain⟨_,_,vs,_,dd⟩:=pA I.aG e;exact dd.typeIs;obtain⟨_,_,xs,_,dd⟩:=uW I.aG e;exact dd.typeIs
def U4(td ty tv:TE):TS:=λD σ H=>tv σ H λv H1=>td σ H1 λx H2=>ty σ H2 λy H3=>∃a H4,x=.ref a/\Ih H3 a y v H4/\D.nx σ H4
section
variable{X:Cx}{o i value:Expr}{pos pos':Pos}{td ty tv:TE}
theorem LS(hu:X.A.units+1<cLine)(ho:PE X o td)(hi:PE X i ty)(hv:PE X value tv)(hs:swapsWith value (some<|.Subscript o i pos') pos.line X.env=pure false): PS X (.Assign [.Subscript o i pos'] value pos) (U4 td ty tv):=by intro pins s σ H D I h;refine wpAny_Assign_Subscript (ba (hv pins s σ H _ I h) λr s1 ⟨v,H1,I1,rv,q1⟩=>ba (ho pins s1 σ H1 _ I1 q1) λu s2 ⟨x,H2,I2,rx,q2⟩=>ba (hi pins s2 σ H2 _ I2 q2) λiv s3 ⟨y,H3,I3,ry,a,H4,ex,g,q3⟩=>?_) hs;subst ex;obtain rfl:u=Value.ref a:=rx;exact F8 hu I3 g ry rv λs4 I4=>⟨σ,H4,I4,q3⟩
end
theorem Ai(h:Heap)(hb:sysModules<h.objs.size):bp P w H (h.push {cls:=.type "dict",data:=.dict #[]}) h.objs.size (.dK []):={zY _,beq_eq_false_iff_ne.mpr<|Ne.symm<|zD hb,[],.nil,Heap.DictOf.new h}
def Qr:TE:=λ_ H Q=>∀p,H p=none->Q (.ref p) (upd H p<|.dK [])
section
variable{X:Cx}{pos:Pos}
theorem Ij:PE X (.Dict [] [] pos) Qr:=λpins s σ H Q I h=>wpAny_Dict_empty {.ref s.heap.objs.size,_,I.laid (a:=s.heap.objs.size) (o:=.dK []) (t':=s.toks) (λ_ _ q=>za _ q) (zr _)<|Ai s.heap I.big,rfl,h _<|I.aG.fresh<|zr _}
end
def wc:List (TE×TE)->St->Hp->(List (V×V)->Hp->Prop)->Prop|[],_,H,Q=>Q [] H| (tk,tv)::r,σ,H,Q=>tk σ H λx H1=>tv σ H1 λy H2=>wc r σ H2 λps H3=>Q ((x,y)::ps) H3
abbrev VV:List (V×V)->List (Value×Value)->Prop:=Paired λp q=>RelV p.1 q.1/\RelV p.2 q.2
def U5(X:Cx)(pos:Pos)(keys:List<|Option Expr)(values:mt)(N5:List<|TE×TE):Prop:=∀(pins:io)(s:Shared)(σ:St)(H:Hp)(Q:List (V×V)->Hp->Prop),Inv X pins σ H s->wc N5 σ H Q->wpAny (model X.prog X.w) X.A (evalPairs<|pairTrees keys values X.env pos) (λvs s'=>∃ps H',Inv X pins σ H' s'/\VV ps vs/\Q ps H') X.xe s
theorem LU:U5 X pos [] [] []:=λpins s σ H Q I h=>pairTrees_nil_walk {[],H,I,.nil,h}
theorem Ik{X:Cx}{pos:Pos}{k v:Expr}{ks:List<|Option Expr}{vs:mt}{tk tv:TE}{N5:List<|TE×TE}(hk:PE X k tk)(hv:PE X v tv)(hr:U5 X pos ks vs N5): U5 X pos (some k::ks) (v::vs) ((tk,tv)::N5):=λpins s σ H Q I h=>pairTrees_cons_walk<|ba (hk pins s σ H _ I h) λu s1 ⟨x,H1,I1,rx,q1⟩=>ba (hv pins s1 σ H1 _ I1 q1) λw2 s2 ⟨y,H2,I2,ry,q2⟩=>ba (hr pins s2 σ H2 _ I2 q2) λws s3 ⟨ps,H3,I3,rel,q3⟩=>{(x,y)::ps,H3,I3,.cons ⟨rx,ry⟩ rel,q3}
noncomputable def eK(kvs more:fv):fv:=more.foldl (λacc kv=>putK acc kv.1 kv.2) kvs
theorem KV.merge:∀{more:fv}{rs:sn}{kvs:fv}{vs:sn},KV more rs->KV kvs vs->KV (eK kvs more) (merged vs rs):=by intro more rs kvs vs r;unfold KV at r;induction r generalizing kvs vs with|nil=>intro q;exact q|@cons p q ps qs h t ih=>intro r0;have e:KV (putK kvs p.1 p.2) (stored vs q.1 q.2):=(by have:=r0.put p.1 h.2;rw[<-h.1];exact this);exact ih e
theorem gw:∀(more kvs:fv),(eK kvs more).length<=kvs.length+more.length|[],kvs=>by show kvs.length<=kvs.length+0;lia|p::r,kvs=>by have h1:=gw r<|putK kvs p.1 p.2;have h2:=i8 kvs p.1 p.2;show(eK (putK kvs p.1 p.2) r).length<=_;rw[zQ];lia
theorem rm:∀{kvs:fv}{ws:List (Value×Value)},VV (kvs.map λkv=>(kV kv.1,kv.2)) ws->∃rs,Carries (aE P w) ws rs/\KV kvs rs|[],_,r=>(by rw[yQ]at r;cases r;exact{[],True.intro,.nil})|p::kvs,_,r=>by rw[zt]at r;cases r with|@cons a b as bs h t=>obtain⟨rs,c,q⟩:=rm (P:=P) (w:=w) t;obtain⟨b1,b2⟩:=b;exact{(p.1,b2)::rs,{iC h.1,rfl,c},.cons ⟨rfl,h.2⟩ q}
def U6(N5:List<|TE×TE):TE:=λσ H Q=>∀p,H p=none->wc N5 σ (upd H p<|.dK []) λps H2=>H2 p=some (.dK [])/\∃kvs:fv,ps=kvs.map (λkv=>(kV kv.1,kv.2))/\kvs.length<=15/\Q (.ref p) (upd H2 p<|.dK<|eK [] kvs)
theorem LV(h:U5 X pos keys values N5)(Il:keys.all (·.isSome)=true)(hl:keys.length=values.length)(h0:keys≠[])(ZH:keys.length<=15):PE X (.Dict keys values pos) (U6 N5):=by
 intro pins s σ H Q I q;have hn:=I.aG.fresh<|zr s.heap.objs.size;have I1:=I.laid (a:=s.heap.objs.size) (o:=.dK []) (h':=s.heap.push {cls:=.type "dict",data:=.dict #[]}) (t':=s.toks) (λ_ _ q=>za _ q) (zr _)<|Ai s.heap I.big;refine wpAny_Dict_walk (knd:=aE X.prog X.w) Il hl h0 ZH<|ba (h pins _ σ _ _ I1<|q _ hn) ?_;rintro ws s2 ⟨ps,H2,I2,rel,e,kvs,ep,lk,q2⟩;subst ep;obtain⟨rs,c,rk⟩:=rm (P:=X.prog) (w:=X.w) rel;obtain⟨z,hd,vs0,r0,dd⟩:=rj I2.aG e;cases r0;refine{rs,c,dd,λh' Eo hs=>{.ref s.heap.objs.size,_,?_,rfl,q2}};have hz:(eK [] kvs).length<=sizeLine:=by have h1:=gw kvs [];rw[List.length_nil]at h1;rw[yf];lia
 have he:∃q,h'.get? s.heap.objs.size=some q:=by obtain⟨q,_,_,hq,_⟩:=Eo;exact⟨q,hq⟩
 exact l9 I2 (by rw[e];exact True.intro) hs he<|rl hz hd (rk.merge .nil) Eo
structure M1(X:Cx)(o:Expr)(m:Str)(apos:Pos)(e:Expr)(aP:Pos):Prop where
 base:attributeBase o m X.env (eval o X.env)=eval o X.env
 Ep:((backTo aP<|starEach [e] X.env).all (λx=>!x.1)&&(backToKw aP<|keywordEach [] X.env).all (λx=>x.1.isSome)
  && decide (([e]:mt).length+([]:rp).length+(if ([]:rp).isEmpty then 0 else 1)<30))=true
 line:(apos.endLine==aP.line)=true
 trees:backTo aP (starEach [e] X.env)=[(false,eval e X.env)]
structure M2(X:Cx)(o:Expr)(m:Str)(apos:Pos)(e f:Expr)(aP:Pos):Prop where
 base:attributeBase o m X.env (eval o X.env)=eval o X.env
 Ep:((backTo aP<|starEach [e,f] X.env).all (λx=>!x.1)&&(backToKw aP<|keywordEach [] X.env).all (λx=>x.1.isSome)
  && decide (([e,f]:mt).length+([]:rp).length+(if ([]:rp).isEmpty then 0 else 1)<30))=true
 line:(apos.endLine==aP.line)=true
 trees:backTo aP (starEach [e,f] X.env)=[(false,eval e X.env),(false,eval f X.env)]
def Qt(H:Hp)(a:Addr):Prop:=(∃kvs,Rd H a<|.dK kvs)\/∃kvs,Rd H a<|.dT kvs
theorem rn(I:Inv X pins σ H s)(d:Qt H a): s.TypeIs (.ref a) "dict"/\(∀b,Value.ref a=.ref b->∃ob,s.heap.get? b=some ob/\ob.dict=none)/\(a==sysModules)=false:=by rcases d with⟨kvs,e⟩|⟨kvs,e⟩;obtain⟨_,hd,vs,_,dd⟩:=pA I.aG e;refine{dd.typeIs,λb q=>?_,hd};cases q;obtain⟨ob,_,_,h1,h2,_⟩:=dd;exact⟨ob,h1,h2.2.1⟩;obtain⟨_,hd,xs,_,dd⟩:=uW I.aG e;refine{dd.typeIs,λb q=>?_,hd};cases q;obtain⟨ob,_,_,h1,h2,_⟩:=dd;exact⟨ob,h1,h2.2.1⟩
section
variable{X:Cx}{pins:io}{σ:St}{H:Hp}{s:Shared}{a:Addr}{y d:V}{u r:Value}{o:Option V}{A:Around}{E:li}
theorem Qu(hu:A.units+1<cLine)(I:Inv X pins σ H s)(g:qh H a y o)(ry:RelV y u)(h:∀w' s',Inv X pins σ H s'->RelV (o.getD .au) w'->Q w' s'): wpAny (model X.prog X.w) A (call (.builtin "dict.get") [.ref a,u]) Q E s:=by rcases g with⟨kvs,k,e,ey,l⟩|⟨kvs,k,b,e,ey,eb,l⟩;subst ey;obtain⟨z,hd,vs,rel,dd⟩:=pA I.aG e;refine call_meetsIn yB dd.typeIs PySem.F.entry_dict_get (PySem.F.args_dict_get_2 _ _) (meets_dict_get (aE X.prog X.w) a (iC ry) hd) {_,dd.mapOf,h _ _ (I.tok _) ?_};rw[l];exact(rel.val k).getD rfl;subst ey;cases (show u=Value.ref b from ry);obtain⟨z,hd,xs,rel,dd⟩:=uW I.aG e;refine call_meetsIn yB dd.typeIs PySem.F.entry_dict_get (PySem.F.args_dict_get_2 _ _) (meetsH_dict_get (tupleKind<|aE X.prog X.w) a b hd) {tupleKind_room_in1 hu,k,xs,wb I.aG eb,dd,h _ _ (I.tok _) ?_};rw[l];exact(rel.val k).getD rfl
theorem Qv(hu:A.units+1<cLine)(I:Inv X pins σ H s)(g:qh H a y o)(ry:RelV y u)(rd:RelV d r)(h:∀w' s',Inv X pins σ H s'->RelV (o.getD d) w'->Q w' s'): wpAny (model X.prog X.w) A (call (.builtin "dict.get") [.ref a,u,r]) Q E s:=by rcases g with⟨kvs,k,e,ey,l⟩|⟨kvs,k,b,e,ey,eb,l⟩;subst ey;obtain⟨z,hd,vs,rel,dd⟩:=pA I.aG e;refine call_meetsIn yB dd.typeIs PySem.F.entry_dict_get (PySem.F.args_dict_get_3 _ _ _) (meets_dict_get_default (aE X.prog X.w) a (iC ry) hd r) {_,dd.mapOf,h _ _ (I.tok _) ?_};rw[l];exact(rel.val k).getD rd;subst ey;cases (show u=Value.ref b from ry);obtain⟨z,hd,xs,rel,dd⟩:=uW I.aG e;refine call_meetsIn yB dd.typeIs PySem.F.entry_dict_get (PySem.F.args_dict_get_3 _ _ _) (meetsH_dict_get_default (tupleKind<|aE X.prog X.w) a b hd r) {tupleKind_room_in1 hu,k,xs,wb I.aG eb,dd,h _ _ (I.tok _) ?_};rw[l];exact(rel.val k).getD rd
end
def Qw(td ty:TE):TE:=λσ H Q=>td σ H λx H1=>∃a,x=.ref a/\Qt H1 a/\ty σ H1 λy H2=>∃o,qh H2 a y o/\Q (o.getD .au) H2
def Qx(td ty tx:TE):TE:=λσ H Q=>td σ H λx H1=>∃a,x=.ref a/\Qt H1 a/\ty σ H1 λy H2=>tx σ H2 λz H3=>∃o,qh H3 a y o/\Q (o.getD z) H3
def Qy(td ty:TE):TE:=λσ H Q=>td σ H λx H1=>∃a,x=.ref a/\Qt H1 a/\ty σ H1 λy H2=>∃kvs k v,H2 a=some (.dK kvs)/\y=kV k/\fQ kvs k=some v/\Q v (upd H2 a<|.dK<|pz kvs k)
section
variable{X:Cx}{o e f:Expr}{apos aP:Pos}{td ty tx:TE}
theorem Im(hu:X.A.units+1<cLine)(ho:PE X o td)(he:PE X e ty)(m:M1 X o "get" apos e aP):PE X (.Call (.Attribute o "get" apos) [e] [] aP) (Qw td ty):=by intro pins s σ H Q I h;refine wpAny_Call_method m.base m.Ep m.line PySem.F.plainAttrs_dict yB PySem.F.type_dict_get<|ba (ho pins s σ H _ I h) ?_;rintro u s1 ⟨x,H1,I1,rx,a,ex,d,q1⟩;subst ex;obtain rfl:u=Value.ref a:=rx;obtain⟨t1,t2,_⟩:=rn I1 d;refine{t1,t2,?_};rw[m.trees];refine yu rfl<|Calls.evalArgs_plain<|yC<|ba (he pins s1 σ H1 _ I1 q1) λiv s2 ⟨y,H2,I2,ry,ov,g,q2⟩=>Calls.spliced_nil ?_;exact Qu hu I2 g ry λw' s3 I3 l6=>{_,H2,I3,l6,q2}
theorem Io(hu:X.A.units+1<cLine)(ho:PE X o td)(he:PE X e ty)(hf:PE X f tx)(m:M2 X o "get" apos e f aP):PE X (.Call (.Attribute o "get" apos) [e,f] [] aP) (Qx td ty tx):=by intro pins s σ H Q I h;refine wpAny_Call_method m.base m.Ep m.line PySem.F.plainAttrs_dict yB PySem.F.type_dict_get<|ba (ho pins s σ H _ I h) ?_;rintro u s1 ⟨x,H1,I1,rx,a,ex,d,q1⟩;subst ex;obtain rfl:u=Value.ref a:=rx;obtain⟨t1,t2,_⟩:=rn I1 d;refine{t1,t2,?_};rw[m.trees];refine yu rfl<|Calls.evalArgs_plain<|yC<|ba (he pins s1 σ H1 _ I1 q1) λiv s2 ⟨y,H2,I2,ry,q2⟩=>yC<|ba (hf pins s2 σ H2 _ I2 q2) λfv s3 ⟨z,H3,I3,rz,ov,g,q3⟩=>Calls.spliced_nil ?_;exact Qv hu I3 g ry rz λw' s4 I4 l6=>{_,H3,I4,l6,q3}
theorem Iq(ho:PE X o td)(he:PE X e ty)(m:M1 X o "pop" apos e aP):PE X (.Call (.Attribute o "pop" apos) [e] [] aP) (Qy td ty):=by intro pins s σ H Q I h;refine wpAny_Call_method m.base m.Ep m.line PySem.F.plainAttrs_dict PySem.F.slot_dict_pop PySem.F.type_dict_pop<|ba (ho pins s σ H _ I h) ?_;rintro u s1 ⟨x,H1,I1,rx,a,ex,d,q1⟩;subst ex;obtain rfl:u=Value.ref a:=rx;obtain⟨t1,t2,_⟩:=rn I1 d;refine{t1,t2,?_};rw[m.trees];refine yu rfl<|Calls.evalArgs_plain<|yC<|ba (he pins s1 σ H1 _ I1 q1) λiv s2 ⟨y,H2,I2,ry,kvs,k,v,ea,ey,l,q2⟩=>Calls.spliced_nil ?_;subst ey;exact U0 I2 ea ry l (.inl rfl) λw' s3 I3 l6=>{v,_,I3,l6,q2}
end
end L2
namespace Att
open PySem PySem.W PySem.Calls PyProof.Rows
theorem qj{P:Params} : ∀(ns:sB)(vs:dL),WellAll P h vs (ns.map WData.int)->IntsAre vs ns:=by intro ns;induction ns with|nil=>(intro vs w;rw[yQ]at w;cases w;exact .nil)|cons n ns ih=>intro vs w;rw[zt]at w;cases w with|cons a b=>cases a;exact .cons _ _<|ih _ b
theorem F9{l:OpenLaw}{n:Nat}(hn:l.most=some n){P:Params}{h:Heap}{args:List WData}{vals:dL}(LW:l.row.toRowW.claim.pre args=true)(ZI:WellAll P h vals args): ∃a vs ns,vals=[Value.ref a]/\args=[WData.list<|ns.map WData.int]/\h.get? a=some {cls:=.type "list",data:=.seq vs.toArray}/\IntsAre vs ns/\ns.length<=n:=by
 have hsh:WShape.hasAll [] args [.list .int]=true:=(pre_splitW LW).1;have hc:l.pre.holds [] {args:=args}=true:=(pre_splitW LW).2;obtain⟨d,r,rfl,h1,h2⟩:=hasAllW_cons hsh;obtain rfl:=hasAllW_nil h2;obtain⟨xs,rfl,h3⟩:=hasW_list h1;obtain⟨ns,rfl⟩:=items_int h3;have hlen:ns.length<=n:=by unfold OpenLaw.pre at hc;have h4:(WTm.not<|.lt (.lit<|.int (n:Int))<|.len<|.arg 0).holds [] {args:=[.list<|ns.map .int]}=true:=(by have h4:=(holds_andW hc).1;rw[hn]at h4;exact h4);have h5:=condW_of h4<|w_not<|w_lt w_lit<|w_len_list<|w_arg rfl;rw[zb]at h5;refine Nat.le_of_not_lt λq=>?_;have q':(n:Int)<((ns.length:Nat):Int):=(by lia);first| (rw[zu q']at h5;exact absurd h5<|by decide)| (simp at h5;lia)
 cases ZI with|cons w1 w2=>cases w2;cases w1 with|list ho Il=>exact{_,_,ns,rfl,rfl,ho,qj ns _ Il,hlen}
theorem F_(l:OpenLaw)(args:List WData):l.row.toRowW.claim.post args (.bool true) args=true:=postW_of (r:=l.row.toRowW) (X:=(true==true)) (show WShape.has [] (.bool true) .bool=true by first|rfl|decide|simp[WShape.has,WShape.arms,WShape.armsAll]) (show(WTm.eq .res<|.lit<|.bool true).value [] {args:=args,res:=some<|.bool true,after:=args}=some (.bool<|true==true) from w_eq_bool (w_res rfl) w_lit) rfl
theorem Aj{l:OpenLaw}{n:Nat}{q:Program}{loose:j4}{XP:(Str->Option Value)->Heap->Prop}{YP:World->Heap->Prop}{d:DefRec}(hn:l.most=some n)(ZJ:d.params.defaults=[])(call:∀(w:World)(dm aU:Shared)(mg mb:Str->Option Value)(fa:Addr)(o:Obj)(pm cd doc:Value)(a:Addr)(vs:dL)(ns:sB),Ground q loose [] XP w dm mg mb aU.heap->YP w aU.heap->aU.heap.get? fa=some o->o.data=.func (docDef d.name d.params d.body d.scope pm cd doc)->aU.heap.CodeRec cd d.name->mg d.name=some (.ref fa)->aU.heap.get? a=some {cls:=.type "list",data:=.seq vs.toArray}->IntsAre vs ns->ns.length<=n->aU.gens=#[]->codeAny (model l.prog w) callerA (.call (.ref fa) {[.ref a],[]}) (λr s'=>r=.ok (.ret<|.bool true)/\OldK aU.heap s'.heap/\s'.os=aU.os/\AllBare s'.gens) aU): WalkO q loose XP YP l.row.toRowW d [] (λf vs=>PySem.call f vs):=by intro w dm aU mg mb G Y fa o pm cd doc dV kV ho hd tN hD Qz hg args vals as LW ad3 hrd ZI hlo;obtain rfl:dV=.none:=Dflts.none hD ZJ;obtain rfl:kV=.none:=Dflts.noKw hD;obtain⟨a,vs,ns,rfl,rfl,QA,hints,hlen⟩:=F9 hn LW ZI;refine enter_call<|yW (call w dm aU mg mb fa o pm cd doc a vs ns G Y ho (fd_plain hd) tN Qz QA hints hlen hg) λr s' hq=>?_;obtain⟨rfl,h2,h3,h4⟩:=hq;exact{.inl {.bool true,.bool true,[],rfl,λ_=>rfl,.bool true,F_ l _,λ_=>{List.Pairwise.nil,λ_ hm=>(nomatch hm)}},h2,h3,h4}
end Att
namespace L2
open PySem PySem.Spec PyProof.Rows
theorem uX:∀{vs:dL}{ns:sB},IntsAre vs ns->Vals (ns.map V.int) vs|_,_,.nil=>.nil|_,_,.cons n t h=>.cons ⟨t,rfl⟩<|uX h
def inClass(s:Stmt)(j:Nat):Stmt:=match s with|.ClassDef _ _ _ body _ _ _ _ _ _ _=>body.getD j (.Pass {0,0,0,0})|_=>.Pass {0,0,0,0}
def bL(s:Stmt):Arguments:=match s with|.FunctionDef _ a _ _ _ _ _ _ _ _=>a|_=>{posonlyargs:=[],args:=[],vararg:=none,kwonlyargs:=[],kw_defaults:=[],kwarg:=none,defaults:=[]}
def bA(s:Stmt):pc:=match s with|.FunctionDef _ _ b _ _ _ _ _ _ _=>b|_=>[]
def aj(s:Stmt):Scope:=match s with|.FunctionDef _ _ _ _ _ _ sc _ _ _=>sc|_=>{kind:=.function,names:=[],isGenerator:=false,isCoroutine:=false}
abbrev X7:Cq:=λ_ _ _ _ _ _=>False
abbrev E0:XK:=λ_ _ _=>False
structure Fun(K:Frag)(x qual:Str)(st:Stmt)(f:Addr)(fd:FuncData):Prop where
 ex:∃(oc:Value)(od:pi)(kV doc pm:Value)(an:pi)(fV ct:Value)(Qd:sK),
  fd=fnOf x qual (bL st) (bA st) (aj st) .none kV doc pm an fV ct/\K.lookup f=some {oc,od,.func fd,Qd}/\codeIn K fV qual=true
 kp:keepIn K (.ref f)=true
theorem jU(h:n<=1000):n<sizeLine:=Nat.lt_of_le_of_lt h<|by decide
section
variable{X:Cx}
theorem Ga:ee X (.builtin "len") (λxs H Q=>∃a kvs,xs=[V.ref a]/\H a=some (.dK kvs)/\Q (.int kvs.length) H):=by intro pins s σ H xs us Q I r h;obtain⟨a,kvs,rfl,ha,q⟩:=h;obtain⟨u,rfl,ru⟩:=vals1 r;cases ru;exact U1 I (.inl ha) λt s' I'=>{.int kvs.length,H,I',⟨t,rfl⟩,q}
end
theorem aW{A B:Prop}(h:B):if false=true then A else B:=by rw[if_neg zd];exact h
theorem eU{A B:Prop}(h:A):if true=true then A else B:=by rw[if_pos rfl];exact h
section
variable{κ:Type}[DecidableEq κ]
theorem l_:∀{l:List κ}{k:κ},l.Nodup->¬k∈l->(l++[k]).Nodup|[],k,_,_=>by simp|a::r,k,h,hk=>by obtain⟨h1,h2⟩:=yi.mp h;show(a::(r++[k])).Nodup;refine yi.mpr {λm=>?_,l_ h2 λm=>hk<|zi.mpr<|Or.inr m};rcases zP.mp m with q|q;exact h1 q;exact hk<|zi.mpr<|Or.inl (zK.mp q).symm
end
end L2
set_option maxHeartbeats 4000000
namespace L2
open PySem PySem.Spec PyProof.Rows
section
variable{X:Cx}
noncomputable def Ht(i j:Str):Bool:=!decide (j.cps.toList<i.cps.toList)
noncomputable def nK(i j:Str):Bool:=decide<|i.cps.toList<j.cps.toList
def ZK(g:Str->Str->Bool):R2:=λx y H Q=>∃i j,x=.str i/\y=.str j/\Q (.bl<|g i j) H
theorem Gb:gv X (compareOp .LtE) (ZK Ht):=by intro pins s σ H x y v u Q I rx ry h;obtain⟨i,j,rfl,rfl,q⟩:=h;obtain⟨t,rfl⟩:=rx;obtain⟨t',rfl⟩:=ry;exact P.le_str<|aH I q rfl
theorem Ge:gv X (compareOp .GtE) (ZK λi j=>Ht j i):=by intro pins s σ H x y v u Q I rx ry h;obtain⟨i,j,rfl,rfl,q⟩:=h;obtain⟨t,rfl⟩:=rx;obtain⟨t',rfl⟩:=ry;exact P.ge_str<|aH I q rfl
theorem Gf:gv X (compareOp .Gt) (ZK λi j=>nK j i):=by intro pins s σ H x y v u Q I rx ry h;obtain⟨i,j,rfl,rfl,q⟩:=h;obtain⟨t,rfl⟩:=rx;obtain⟨t',rfl⟩:=ry;exact P.gt_str<|aH I q rfl
def N6(_ j:Int):Prop:=0<j/\j.natAbs.log2<9000
theorem Ir:gv X (binaryOp .FloorDiv) (rI N6 λi j=>.int<|i/j):=X4 λi j _ _ _ _ _ hc q=>by
 have hj:j≠0:=by have:=hc.1;omega
 exact floordiv_int hj (by rw[Int.fdiv_eq_ediv_of_nonneg _<|by have:=hc.1;omega];exact q)<|.inl<|PyProof.noPylong_of_log2 hc.2
end
noncomputable def ZL(x:Str):It:={λi _=>i<x.cps.size,λi H v H'=>H'=H/\∃c,x.cps[i]?=some c/\v=.str ⟨#[c]⟩,λi _=>x.cps.size<=i}
theorem Al{P:Program}{w:World}{K:Frag}{tg:Expr}{T:String}(hT:["enumerate","zip","dict_itemiterator","dict_reverseitemiterator","odict_iterator","itertools.zip_longest","itertools.pairwise"].contains T=false)(it:Addr)(x:Str)(t:Tok)
  (W:∀A':Around,A'.handled=none->Walks P w A' it [it] [it] x.cps.size (SignAt x) (λi h=>h.IsStrIter it T x t i))
  (ZM:∀(A:Around)(s:Shared)(E:li)(i:Nat)(Q:Option Value->Shared->Prop),A.handled=none->s.heap.IsStrIter it T x t i->x.cps[i]?=none->(∀h',Heap.ExtBut it s.heap h'->Q none {s with heap:=h'})->wpAny (model P w) A (pyNext<|.ref it) Q E s)
  (U7:∀(A:Around)(s:Shared)(E:li)(i:Nat)(Q:li),s.heap.IsStrIter it T x t i->Q (.ref it) s->wpAny (model P w) A (pyIter<|.ref it) Q E s):
  Turn P w K tg (ZL x) [it] it (λi h=>h.IsStrIter it T x t i) where
 mem:=by simp
 obj:=λi h st b hb=>by
  have e:b=it:=by simpa using hb
  subst e
  obtain⟨o,e,c,d⟩:=st
  exact{o,e,λv z=>by rw[d]at z;cases z}
 keep:=λi h h' st k=>by
  obtain⟨o,e,c,d⟩:=st
  exact{o,k it (by simp) o e,c,d}
 item:=by
  intro X hP hw hK hc i pins s σ H E I hf st hg
  subst hP hw hK
  obtain⟨f0,f1,f2,f3,f4,f5⟩:=hf it<|by simp
  refine(W X.A<|I.ok.hd hc).item i s _ _ hg st λv h' tk hv eG kk=>?_
  obtain⟨c,u,LX,rfl⟩:=hv
  have I1:Inv X pins σ H {s with heap:=h',toks:=tk}:=I.turned (λb o hb e=>kk b o (by simpa using hb) e) f0 f1 f3 f4 f5
  obtain⟨o,e,c',d⟩:=id eG
  exact{_,rfl,uN (s:={s with heap:=h',toks:=tk}) e c' d hT {.str ⟨#[c]⟩,H,I1,⟨u,rfl⟩,⟨rfl,c,LX,rfl⟩,eG,λb hb=>(hf b hb).1}}
 done:=by
  intro X hP hw hK hc i pins s σ H E I hf st hg
  subst hP hw hK
  obtain⟨f0,f1,f2,f3,f4,f5⟩:=hf it<|by simp
  have hg:x.cps.size<=i:=hg
  exact ZM X.A s E i _ (I.ok.hd hc) st (by simp;exact hg) λh' eb=>{rfl,I.turned (t':=s.toks) (λb o hb e=>eb b o hb e) f0 f1 f3 f4 f5}
 self:=λA' i s Q E st h=>U7 A' s E i Q st h
section
variable{X:Cx}{tg:Expr}
def ZO(tl:TE):TI:=λσ H R=>tl σ H λx H1=>∃z,x=.str z/\R (ZL z) H1
theorem QB(hl:PE X l tl):PI X tg l (ZO tl):=by
 intro pins s σ H R I h;refine ba (hl pins s σ H _ I h) ?_;rintro v s1 ⟨x,H1,I1,r1,q1⟩;obtain⟨z,e,q⟩:=q1;subst e;obtain⟨t,rfl⟩:=r1;have fin:∀(T:String)(_:Turn X.prog X.w X.K tg (ZL z) [s1.heap.objs.size] s1.heap.objs.size (λi h=>h.IsStrIter s1.heap.objs.size T z t i)),Zd X pins σ tg R (.ref s1.heap.objs.size) {s1 with heap:=s1.heap.push {cls:=.type T,data:=.fields #[.str z t,.int 0 0]}}:=λT tn=>by refine{s1.heap.objs.size,[s1.heap.objs.size],_,_,H1,rfl,I1.kept (t':=s1.toks) λb o e=>za _ e,tn,{_,zk _ rfl,rfl,rfl},λb hb=>?_,q};have e:b=s1.heap.objs.size:=(by simpa using hb);subst e;exact I1.qf (zr _)<|I1.aG.fresh<|zr _
 cases ha:z.cps.all (·<128);exact wpAny_pyIter_wide ha<|fin _<|Al (by decide) _ z t (λA' hA=>Walks.strWide hA _ z t) (λA s E i Q hh st hx hQ=>wpAny_pyNext_wide_end hh st hx hQ) λA s E i Q st hq=>wpAny_pyIter_striter_wide st hq;exact wpAny_pyIter_ascii ha<|fin _<|Al (by decide) _ z t (λA' hA=>Walks.strAscii hA _ z t) (λA s E i Q hh st hx hQ=>wpAny_pyNext_ascii_end hh st hx hQ) λA s E i Q st hq=>wpAny_pyIter_striter_ascii st hq
end
noncomputable def clOf(cells:tt)(names:List<|Str×NameKind):tt:=names.foldl (λcs p=>if p.2==.free then match cells.lookup p.1 with|some a=>(p.1,a)::cs|none=>cs else cs) []
theorem rq(cells:tt):∀(names:List (Str×NameKind))(cs:tt),(∀x c,cs.lookup x=some c->cells.lookup x=some c)->∀x c,(names.foldl (λcs p=>if p.2==.free then match cells.lookup p.1 with|some a=>(p.1,a)::cs|none=>cs else cs) cs).lookup x=some c->cells.lookup x=some c|[],cs,h=>h| (n,k)::r,cs,h=>by rw[yL];refine rq cells r _ λx c e=>?_;dsimp only at e;split at e;split at e;rename_i a ha;rw[zX]at e;split at e;rename_i hx;have:=LawfulBEq.eq_of_beq hx;cases e;rw[this];exact ha;exact h x c e;exact h x c e;exact h x c e
theorem uY(cells:tt):∀(names:List (Str×NameKind))(cs:tt)(x:Str)(c:Addr),(∀y c,cs.lookup y=some c->cells.lookup y=some c)->cs.lookup x=some c->(names.foldl (λcs p=>if p.2==.free then match cells.lookup p.1 with|some a=>(p.1,a)::cs|none=>cs else cs) cs).lookup x=some c
 |[],cs,x,c,_,h=>h
 | (n,k)::r,cs,x,c,hs,h=>by
  rw[yL];have X8:∀y c,(if (k==NameKind.free)=true then match cells.lookup n with|some a=>(n,a)::cs|none=>cs else cs).lookup y=some c->cells.lookup y=some c:=by intro y c e;split at e;split at e;rename_i a ha;rw[zX]at e;split at e;rename_i hx;have:=LawfulBEq.eq_of_beq hx;cases e;rw[this];exact ha;exact hs y c e;exact hs y c e;exact hs y c e
  refine uY cells r _ x c X8 ?_;dsimp only;split;split;rename_i a ha;rw[zX];split;rename_i hx;have:=LawfulBEq.eq_of_beq hx;rw[this]at h;have:=hs _ _ h;rw[ha]at this;exact this;exact h;exact h;exact h
theorem i9(cells:tt):∀(names:List (Str×NameKind))(cs:tt)(x:Str)(c:Addr),(∀y c,cs.lookup y=some c->cells.lookup y=some c)->(x,NameKind.free)∈names->cells.lookup x=some c->(names.foldl (λcs p=>if p.2==.free then match cells.lookup p.1 with|some a=>(p.1,a)::cs|none=>cs else cs) cs).lookup x=some c
 |[],cs,x,c,_,h,_=>nomatch h
 | (n,k)::r,cs,x,c,hs,h,hc=>by
  rw[yL];have X8:∀y c,(if (k==NameKind.free)=true then match cells.lookup n with|some a=>(n,a)::cs|none=>cs else cs).lookup y=some c->cells.lookup y=some c:=by intro y c e;split at e;split at e;rename_i a ha;rw[zX]at e;split at e;rename_i hx;have:=LawfulBEq.eq_of_beq hx;cases e;rw[this];exact ha;exact hs y c e;exact hs y c e;exact hs y c e
  rcases zi.mp h with e|h;cases e;refine uY cells r _ _ c X8 ?_;dsimp only;rw[if_pos<|show(NameKind.free==NameKind.free)=true by decide,hc];simp[zX];exact i9 cells r _ x c X8 h hc
theorem gx{scope:Scope}{env:Env}(h:∀x∈scope.names,x.2=.free->∃c,env.cells.lookup x.1=some c):closureFor scope env=pure (clOf env.cells scope.names):=by
 have go:∀(names:List (Str×NameKind))(cs:tt),(∀x∈names,x.2=.free->∃c,env.cells.lookup x.1=some c)->(forIn names cs λx r=>match x with|(name,kind)=>if (kind==NameKind.free)=true then do let a <-cellOf env name;pure (ForInStep.yield<|(name,a)::r) else pure (ForInStep.yield r):Sem (List<|Str×Addr))=pure (names.foldl (λcs p=>if p.2==.free then match env.cells.lookup p.1 with|some a=>(p.1,a)::cs|none=>cs else cs) cs):=by intro names;induction names with|nil=>intro cs _;rfl|cons p r ih=>intro cs hp;obtain⟨n,k⟩:=p;rw[List.forIn_cons,yL];by_cases hk:k=.free;subst hk;obtain⟨c,hc⟩:=hp _ zj rfl;have hc:env.cells.lookup n=some c:=hc;have e1:cellOf env n=pure c:=(by unfold cellOf;rw[hc]);have ef:(NameKind.free==NameKind.free)=true:=(by decide);dsimp only;rw[if_pos ef,if_pos ef,e1,hc];exact ih _ λx hx=>hp x<|zf _ hx;have LY:(k==NameKind.free)=false:=(by simpa using hk);dsimp only;rw[LY,if_neg zd,if_neg zd];exact ih _ λx hx=>hp x<|zf _ hx
 have e:=go scope.names [] h;have e2:closureFor scope env=(forIn scope.names [] (λx r=>match x with|(name,kind)=>if (kind==NameKind.free)=true then do let a <-cellOf env name;pure (ForInStep.yield<|(name,a)::r) else pure (ForInStep.yield r)):Sem (List<|Str×Addr)) >>=λcs=>pure cs:=rfl;rw[e2,e];rfl
theorem i_{env:Env}{names:List<|Str×NameKind}{x:Str} : (names.map λ(n,k)=>if (k==NameKind.free&&env.scope.kind==.function&&env.kindOf n==some .cell) then (n,NameKind.cell) else (n,k)).lookup x=(names.lookup x).map λk=>if (k==NameKind.free&&env.scope.kind==.function&&env.kindOf x==some .cell) then NameKind.cell else k:=by induction names with|nil=>rfl|cons p r ih=>obtain⟨n,k⟩:=p;rw[zt,zX];by_cases hc:(k==NameKind.free&&env.scope.kind==.function&&env.kindOf n==some .cell)=true;dsimp only;rw[if_pos hc,zX];(cases hx:x==n with|true=>have:=LawfulBEq.eq_of_beq hx;subst this;dsimp only[Option.map];rw[if_pos hc]|false=>exact ih);dsimp only;rw[if_neg hc,zX];cases hx:x==n with|true=>have:=LawfulBEq.eq_of_beq hx;subst this;dsimp only[Option.map];rw[if_neg hc]|false=>exact ih
noncomputable def fW(X:Cx)(N:j4)(scope:Scope)(C:Addr)(s:Shared)(H:Hp)(ex:im)(pn:io):Cx:={X with N:=N,dm:=s,v5:=H,env:=compEnvC scope (clOf X.env.cells scope.names) C X.env,outer:=X.stack,ex:=ex,fn:=λ_=>false,pn:=pn,xe:=λ_ _=>False}
noncomputable def pick(σ:St)(src:List<|Option Nat):St:=src.map λo=>match o with|some j=>(σ[j]?).join|none=>none
structure bf(X:Cx)(N:j4)(src:ul)(scope:Scope):Prop where
 kind:scope.kind=.function
 gy:∀y∈scope.names,y.2≠.cell
 loc:∀y∈scope.names,y.2=.local->scope.names.lookup y.1=some .local
 BY:∀y∈scope.names,y.2=.free->X.env.kindOf y.1=some .cell\/X.env.kindOf y.1=some .free
 len:src.length=N.length
 src:∀(i j:Nat)(x:Str),src[i]?=some (some j)->N[i]?=some x->X.N[j]?=some x/\scope.names.lookup x=some .free/\Pl X.env.scope x
def Ext(σ aA:St):Prop:=aA.length=σ.length/\∀(j:Nat) v,σ[j]?=some (some v)->aA[j]?=some (some v)
def Cy(g:TG)(src:List<|Option Nat):Prop:=∀x σ H Q,g x (pick σ src) H Q->g x (pick σ src) H λaA H'=>Ext (pick σ src) aA/\Q aA H'
def Iu(wi:TI)(src:List<|Option Nat)(g:TG)(tc:TT)(te:TE):TE:=λσ H Q=>wi σ H λJ H1=>∃W:Nat->Nat->List V->Hp->Prop,(∃m,W 0 m [] H1)/\∀i m out H',W i m out H'->(J.stop i H'/\∀D,H' D=none->Q (.ref D) (upd H' D<|.lst out))\/(J.go i H'/\out.length<sizeLine/\∀x H2,J.Ux i H' x H2->g x (pick σ src) H2 λfP H3=>tc fP H3 λb H4=>if b=true then te fP H4 λv H5=>∃m',m'<m/\W (i+1) m' (out++[v]) H5 else ∃m',m'<m/\W (i+1) m' out H4)
section
variable{X:Cx}{N:j4}{src:ul}{scope:Scope}{tg iter elt:Expr}{ifs:mt}{pos:Pos}{wi:TI}{g:TG}{tc:TT}{te:TE}
def Tf(X:Cx)(ifs:mt)(t:TT):Prop:=∀(pins:io)(s:Shared)(σ:St)(H:Hp)(Q:Bool->Hp->Prop),Inv X pins σ H s->t σ H Q->wpAny (model X.prog X.w) X.A (forIn ifs true λc r=>if r=true then do let ok <-isTrue c X.env (eval c X.env);pure (ForInStep.yield ok) else pure (ForInStep.yield r)) (TP X pins σ Q) X.xe s
def U8:TT:=λ_ H Q=>Q true H
theorem LZ:Tf X [] U8:=λpins s σ H Q I h=>wpAny_tests_nil ⟨H,I,h⟩
theorem L3{t:TT}(h:PT X c t):Tf X [c] t:=λpins s σ H Q I hw=>wpAny_tests_one<|h pins s σ H Q I hw
theorem kf(Th:∀x s',EE x s'->notedBy (model prog w) A env (λe s'=>R (.error e) s') x s')(I:Nat->Shared->Prop)
  (turn:∀n s,I n s->wpAny (model prog w) A (pyNext it) (λr aU=>match r with
   |none=>R (.ok .next) aU
   |some v=>wpAny (model prog w) A (letOwnedTupleGo target it v) (λ_ N7=>wpAny (model prog w) A (assign target env v) (λ_ bG =>
     wpAny (model prog w) A (forIn ifs true λc r=>if r=true then do let ok <-isTrue c env (eval c env);pure (ForInStep.yield ok) else pure (ForInStep.yield r)) (λok tY =>
      if ok=true then wpAny (model prog w) A (eval elt env) (λx Am =>
       wpAny (model prog w) A (call (.builtin "list.append") [acc,x]) (λ_ U9=>∃m,m<n/\I m U9) EE Am) EE tY
      else ∃m,m<n/\I m tY) EE bG) EE N7) EE aU) EE s)
  (n:Nat) (h:I n s):
  codeAny (model prog w) A (.compLoop (.ListComp elt [{target,iter,ifs,0}] scope pos) 0 it acc env) R s:=by
 refine codeAny_loop rfl I (λn s hI=>?_) n h
 show wpAny _ A ((compTurn (.ListComp elt [{target,iter,ifs,0}] scope pos) 0 it acc env).onRaise λx=>do noteFrame x env;theTreesLotGoes x) _ _ s
 refine wpAny_noted ?_
 rw[compTurn_list]
 refine zc<|wpAny_standAt<|zc<|yx (turn n s hI) (λr aU h₁=>?_) Th
 cases r with
 |none=>exact zy h₁
 |some v =>
  refine zc<|yx h₁ (λ_ N7 U_=>?_) Th
  refine zc<|yx U_ (λ_ bG Ii=>zc<|yx Ii (λok tY LR=>?_) Th) Th
  cases ok with
  |false=>exact zy ⟨rfl,LR⟩
  |true =>
   exact zc<|zc<|yx LR (λx Am ZP=>zc<|yx ZP (λ_ U9 ZQ=>zy<|zy ⟨rfl,ZQ⟩) Th) Th
def CompEnd(X:Cx)(pins:io)(σ:St)(Q:VK)(D C:Addr)(s':Shared):Prop:=∃H' m,Inv X pins σ H' s'/\Q (.ref D) H'/\s'.heap.Ns C m/\H' C=none/\C≠X.env.locals/\X.dm.heap.objs.size<=C/\(∀x c,X.env.cells.lookup x=some c->c≠C)/\(∀p∈X.pn++pins,p.1≠C)
theorem uZ{pins:io}{bG:Shared}{σ:St}{iR:Hp}{Q:VK}{it:Addr}{fp:im}{tn:Nat->Heap->Prop}{J:It}{E:li}(S:bf X N src scope)(hc:X.calm=true)(hg:∀C s H ex pn,PG (fW X N scope C s H ex pn) tg g)(hx:Cy g src)(hi:∀C s H ex pn,Tf (fW X N scope C s H ex pn) ifs tc)(he:∀C s H ex pn,PE (fW X N scope C s H ex pn) elt te)(I:Inv X pins σ iR bG)(T:Turn X.prog X.w X.K tg J fp it tn)(st:tn 0 bG.heap)(ff:∀b∈fp,t5 X pins iR b)(W:Nat->Nat->List V->Hp->Prop)(w0:∃m,W 0 m [] iR)(turn:∀i m out H',W i m out H'->(J.stop i H'/\∀D,H' D=none->Q (.ref D) (upd H' D<|.lst out))\/(J.go i H'/\out.length<sizeLine/\∀x H2,J.Ux i H' x H2->g x (pick σ src) H2 λfP H3=>tc fP H3 λb H4=>if b=true then te fP H4 λv H5=>∃m',m'<m/\W (i+1) m' (out++[v]) H5 else ∃m',m'<m/\W (i+1) m' out H4)){RR:Value->Addr->Result->Shared->Prop}(hRR:∀D C s',CompEnd X pins σ Q D C s'->RR (.ref D) C (.ok .next) s'): wpAny (model X.prog X.w) X.A (newList []) (λacc tY=>wpAny (model X.prog X.w) X.A (newFunctionEnv scope X.env.globals (clOf X.env.cells scope.names) [] X.env.qual none .none<|some X.env) (λVa Am=>codeAny (model X.prog X.w) X.A (.compStart (.ListComp elt [{tg,iter,ifs,0}] scope pos) 0 (.ref it) acc {Va with scope:=relabel scope X.env}) (RR acc Va.locals) Am) E tY) E bG:=by
 refine yG<|wpAny_newFunctionEnv S.gy (by intro y hy;simp at hy) (λh₁ wd rA=>?_) S.kind;dsimp only at wd rA⊢;generalize ZR:bG.heap.push {cls:=.type "list",dict:=none,data:=.seq ([]:dL).toArray}=G2 at wd rA⊢;have hC:G2.objs.size=bG.heap.objs.size+1:=by rw[<-ZR,yc]
 have Tj:bG.heap.objs.size≠G2.objs.size:=by rw[hC];exact zD<|Nat.lt_succ_self _
 have L4:bG.heap.objs.size<=G2.objs.size:=by rw[hC];exact yV _
 have old:∀b o,bG.heap.get? b=some o->h₁.get? b=some o:=λb o e=>rA.extBut b o (zD<|zp (zw e) L4)<|za _<|ZR ▸ za _ e;have rB:h₁.get? bG.heap.objs.size=some {cls:=.type "list",dict:=none,data:=.seq ([]:dL).toArray}:=rA.extBut _ _ Tj<|za _<|ZR ▸ zk _ rfl;generalize hCC:G2.objs.size=C at hC Tj L4 wd rA⊢;have ma:bG.heap.objs.size<=C:=L4;generalize hD:bG.heap.objs.size=D at hC Tj L4 rB⊢;have iD:∀x c,(clOf X.env.cells scope.names).lookup x=some c->X.env.cells.lookup x=some c:=rq X.env.cells scope.names [] (by intro x c h;simp at h);have Iv:∀x c,X.env.cells.lookup x=some c->c<bG.heap.objs.size:=λx c e=>by obtain⟨v,q⟩:=I.cell x c e;exact q.lt
 have QC:∀b∈fp,b<bG.heap.objs.size:=λb hb=>by obtain⟨o,e,_⟩:=T.obj _ _ st b hb;exact zw e
 have ok:(fW X N scope C bG iR fp<|X.pn++pins).Ok:=by refine{I.ok.mod,S.kind,I.ok.glob,I.ok.blt,ma,λx y c h1 h2=>I.ok.inj x y c (iD _ _ h1)<|iD _ _ h2,λx hk=>?_,λx c h=>(nomatch h),I.ok.hd,I.ok.frames,.inl rfl,λb hb=>{?_,λx c h=>?_},I.bs,zI I.ok.Lo I.sz,λb o e hb=>?_,λb hb hf=>?_,I.stack,I.qC};have hk:(relabel scope X.env).names.lookup x=some .cell\/(relabel scope X.env).names.lookup x=some .free:=hk;unfold relabel at hk;dsimp only at hk;rw[i_]at hk;(cases hl:scope.names.lookup x with|none=>(rw[hl]at hk;rcases hk with z|z<;>cases z)|some k=>rw[hl]at hk;have hm:=yh hl;have Vb:k=.free:=(by by_cases Vb:k=.free;exact Vb;exfalso;have e1:(k==NameKind.free)=false:=(by simpa using Vb);simp only[Option.map,e1,zW,Bool.false_eq_true,if_false]at hk;rcases hk with z|z;exact S.gy _ hm<|zT z;exact Vb<|zT z);subst Vb;obtain⟨c,LX⟩:=I.ok.has x<|S.BY _ hm rfl;exact{c,i9 X.env.cells scope.names [] x c (by intro x c h;simp at h) hm LX});exact zD<|zp (QC b hb) ma;exact(ff b hb).2.2.2.2.1 x c<|iD _ _ h;have q:b∈X.ex\/X.dm.heap.objs.size<=b:=(ff b hb).2.2.2.1;rcases q with q|q;exact I.ok.Pm b o e q;exact absurd (zp (zw e)<|zI I.ok.Lo q)<|yF _;rcases zi.mp (I.nN b hf) with z|z;exact(ff b hb).2.1 z;exact(ff b hb).2.2.1 z
 have Vc:∀p∈X.pn++pins,p.1∉nM X.stack:=λp hp z=>by obtain⟨_,_,ne,nf,_⟩:=I.pin p hp;rcases zi.mp (I.nN _ z) with q|q;exact ne q;exact nf q
 have Iy:∀p∈X.pn++pins,p.1<bG.heap.objs.size:=λp hp=>zw (I.pin p hp).1;have Vd:∀b∈nM X.stack,b<bG.heap.objs.size:=λb hb=>by rcases zi.mp (I.nN b hb) with z|z;rw[z];exact I.lt;obtain⟨_,o,ho,_⟩:=I.ok.qd.mem z;exact zp (zw ho) I.sz
 have ZS:∀(i:Nat)(x:Str)(v:V),N[i]?=some x->(pick σ src)[i]?=some (some v)->∃u c,RelV v u/\(clOf X.env.cells scope.names).lookup x=some c/\bG.heap.IsCell c (some u)/\scope.names.lookup x=some .free:=λi x v e1 e2=>by unfold pick at e2;rw[zm]at e2;cases es:src[i]? with|none=>(rw[es]at e2;cases e2)|some o=>rw[es]at e2;cases o with|none=>(cases e2)|some j=>have e3:(σ[j]?).join=some v:=zT e2;have e4:σ[j]?=some (some v):=(by cases q:σ[j]? with|none=>(rw[q]at e3;cases e3)|some z=>rw[q]at e3;exact congrArg some e3);obtain⟨a1,a2,a3⟩:=S.src i j x es e1;obtain⟨m0,_,hl⟩:=I.loc;obtain⟨u,r,l⟩:=hl j x v a1 e4 a3;have hm:=yh a2;have hk:=S.BY _ hm rfl;rcases l with⟨k,_⟩|⟨_,c,LX,z⟩;rcases hk with hk|hk<;>(rw[k]at hk;cases hk);exact{u,c,r,i9 X.env.cells scope.names [] x c (by intro x c h;simp at h) hm LX,z,a2}
 have kinds:∀x,scope.names.lookup x=some .free->(compEnvC scope (clOf X.env.cells scope.names) C X.env).kindOf x=some .cell\/(compEnvC scope (clOf X.env.cells scope.names) C X.env).kindOf x=some .free:=λx hx=>by show(relabel scope X.env).names.lookup x=some .cell\/(relabel scope X.env).names.lookup x=some .free;unfold relabel;dsimp only;rw[i_,hx];dsimp only[Option.map];split;exact .inl rfl;exact .inr rfl
 have Ic:Inv (fW X N scope C bG iR fp<|X.pn++pins) [] (pick σ src) iR {bG with heap:=h₁,toks:=bG.toks+([]:pe).length}:=by refine{ok,rfl,I.bare,Un.kept old,{_,wd,λi x v e1 e2 e3=>?_},λx c e=>?_,I.aG.fresh ma,λx c e=>I.fT x c<|iD x c e,λp hp=>?_,I.aG.kept old,?_};obtain⟨u,c,r,e5,⟨o,ho,hd⟩,hf⟩:=ZS i x v e1 e2;exact{u,r,.inr {kinds x hf,c,e5,{o,old _ _ ho,hd}}};obtain⟨v,o,ho,hd⟩:=I.cell x c<|iD x c e;exact{v,o,old _ _ ho,hd};have hp:p∈X.pn++pins:=(by simpa [fW]using hp);obtain⟨e,n,_,_,d⟩:=I.pin p hp;exact{old _ _ e,n,zD<|zp (Iy p hp) ma,Vc p hp,d};show(pick σ src).length=N.length;unfold pick;rw[zb,S.len]
 have Ao:bG.heap.objs.size<=D:=Nat.le_of_eq hD;have QD:D∉nM X.stack:=λz=>absurd (zp (Vd D z) Ao)<|yF _;have N8:D∉fp:=λz=>absurd (zp (QC D z) Ao)<|yF _;have qf:∀{pl:io}{H':Hp},(∀b∈fp,H' b=none)->(∀p∈pl,p.1∉fp)->∀b∈fp,t5 (fW X N scope C bG iR fp<|X.pn++pins) pl H' b:=λ{pl H'} hn eO b hb=>by obtain⟨f0,f1,f2,f3,f4,f5⟩:=ff b hb;refine{hn b hb,zD<|zp (QC b hb) ma,λz=>?_,.inl hb,λx c e=>f4 x c<|iD x c e,λp hp=>?_};rcases zi.mp (I.nN b z) with q|q;exact f1 q;exact f2 q;have hp:p∈(X.pn++pins)++pl:=hp;rcases zP.mp hp with hp|hp;exact f5 p hp;exact λz=>eO p hp<|z ▸ hb
 have back:∀{s':Shared}{H':Hp}{out:cr}{ax:dL}{nn:Nat}{aA:St},Inv (fW X N scope C bG iR fp<|X.pn++pins) [] aA H' s'->H' D=none->out.length<=sizeLine->Vals out ax->s'.heap.get? D=some {cls:=.type "list",data:=.seq ax.toArray nn}->(∀D,H' D=none->Q (.ref D) (upd H' D<|.lst out))->CompEnd X pins σ Q D C s':=λ{s' H' out ax nn aA} I' hn hl hv ho q=>by obtain⟨m,hm,_⟩:=I'.loc;have un:Un (nM X.stack) fp iR H' bG.heap s'.heap:=I'.base;have neD:∀b o,bG.heap.get? b=some o->b≠D:=λb o e=>zD<|zp (zw e) Ao;have fD:iR D=none:=I.aG.fresh Ao;refine{upd H' D<|.lst out,m,?_,q D hn,hm,by rw[aw<|Ne.symm Tj];exact I'.free,yr<|zp I.lt ma,zI I.sz ma,λx c e=>zD<|zp (Iv x c e) ma,λp hp=>zD<|zp (Iy p hp) ma};refine I.Up (ch:=fp) I'.os {un.keep,un.slot,λb o e n hb=>?_,un.there,λb xs e=>?_,λb o u e=>?_,λb ps e=>?_} (λb o e=>?_) I'.bare λb hb=>?_;rw[aw<|neD b o e];exact un.free b o e n hb;rw[aw<|aF e fD];exact un.l4 b xs e;rw[aw<|aF e fD];exact un.kY b o u e;rw[aw<|aF e fD];exact un.kZ b ps e;by_cases hb:b=D;subst hb;rw[aD]at e;cases e;exact⟨hl,ax,nn,hv,ho⟩;rw[aw hb]at e;refine(I'.aG b o e).p_ (λc v _ q=>q) (λc q=>?_) λc xs q=>?_;rw[aw<|aF q hn];exact q;rw[aw<|aF q hn];exact q;obtain⟨f0,f1,f2,f3,f4,f5⟩:=ff b hb;exact⟨f3,f1,f4,f5⟩
 obtain⟨m0,w0⟩:=w0;have loop:∀Am:Shared,Am={bG with heap:=h₁,toks:=bG.toks+([]:pe).length}->codeAny (model X.prog X.w) X.A (.compLoop (.ListComp elt [{tg,iter,ifs,0}] scope pos) 0 (.ref it) (.ref D)<|compEnvC scope (clOf X.env.cells scope.names) C X.env) (RR (.ref D) C) Am:=by rintro Am rfl;refine kf (EE:=λ_ _=>False) (λ_ _ f=>f.elim) (λn s'=>∃i out ax nn H',Inv (fW X N scope C bG iR fp<|X.pn++pins) [] (pick σ src) H' s'/\H' D=none/\out.length<=sizeLine/\Vals out ax/\s'.heap.get? D=some {cls:=.type "list",data:=.seq ax.toArray nn}/\tn i s'.heap/\(∀b∈fp,H' b=none)/\W i n out H') ?_ m0 {0,[],[],0,iR,Ic,I.aG.fresh Ao,zY _,.nil,rB,T.keep _ _ _ st λb hb o e=>old b o e,λb hb=>(ff b hb).1,w0};rintro n s3 ⟨i,out,ax,nn,H3,I3,hD3,ZT,X9,ho3,y1,UA,w3⟩;have QE:∀(ax:dL) (nn:Nat) (v:Option Value),({cls:=.type "list",data:=.seq ax.toArray nn} : Obj).data≠.cell v:=λ_ _ _ z=>nomatch z;have I3p:Inv (fW X N scope C bG iR fp<|X.pn++pins) [(D,{cls:=.type "list",data:=.seq ax.toArray nn})] (pick σ src) H3 s3:=I3.l5 λp hp=>(by have e:p=(D,{cls:=.type "list",data:=.seq ax.toArray nn}):=(by simpa using hp);subst e;exact{ho3,hD3,Tj,QD,QE ax nn});have ZU:∀p∈[((D,{cls:=.type "list",data:=.seq ax.toArray nn}):Addr×Obj)],p.1∉fp:=λp hp=>(by have e:p=(D,{cls:=.type "list",data:=.seq ax.toArray nn}):=(by simpa using hp);subst e;exact N8);rcases turn i n out H3 w3 with⟨stop,qn⟩|⟨go,eI,step⟩;refine ba (T.done (fW X N scope C bG iR fp<|X.pn++pins) rfl rfl rfl hc i _ s3 _ H3 _ I3p (qf UA ZU) y1 stop) ?_;rintro r s4 ⟨hr,I4⟩;subst hr;have p4:=(I4.pin (D,{cls:=.type "list",data:=.seq ax.toArray nn})<|zJ _<|by simp).1;exact hRR D C s4<|back (I4.l5 (pins':=[]) λp hp=>nomatch hp) hD3 ZT X9 p4 qn;refine ba (T.item (fW X N scope C bG iR fp<|X.pn++pins) rfl rfl rfl hc i _ s3 _ H3 _ I3p (qf UA ZU) y1 go) ?_;rintro r s4 ⟨u,hr,h4⟩;subst hr;refine ba h4 ?_;rintro _ s5 ⟨x,H5,I5,r5,y5,FN,Zh⟩;have Zi:=I5.pinned (qf Zh ZU)<|T.obj _ _ FN;refine ba (hg _ _ _ _ _ _ s5 _ H5 x u _ Zi r5<|hx x σ H5 _<|step x H5 y5) ?_;rintro _ s6 ⟨UB,H6,I6,e6,q6⟩;have fin:∀{s7:Shared}{H7:Hp},Inv (fW X N scope C bG iR fp<|X.pn++pins) ([(D,{cls:=.type "list",data:=.seq ax.toArray nn})]++qX fp s5.heap) UB H7 s7->Inv (fW X N scope C bG iR fp<|X.pn++pins) [] (pick σ src) H7 s7/\H7 D=none/\s7.heap.get? D=some {cls:=.type "list",data:=.seq ax.toArray nn}/\tn (i+1) s7.heap/\∀b∈fp,H7 b=none:=λ{s7 H7} I7=>(by have pD:=I7.pin (D,{cls:=.type "list",data:=.seq ax.toArray nn})<|zJ _ (by simp);refine{(I7.l5 (pins':=[]) λp hp=>nomatch hp).weak e6.1.symm e6.2,pD.2.1,pD.1,T.keep _ _ _ FN λb hb o e=>(I7.pin (b,o)<|zJ _<|zJ _<|h_ hb e).1,λb hb=>?_};obtain⟨o,e,d⟩:=T.obj _ _ FN b hb;exact(I7.pin (b,o)<|zJ _<|zJ _<|h_ hb e).2.1);refine ba (hi _ _ _ _ _ _ s6 UB H6 _ I6 q6) ?_;rintro b s7 ⟨H7,I7,q7⟩;cases b with|false=>(rw[if_neg zd]at q7⊢;obtain⟨m',hm,w7⟩:=q7;obtain⟨J7,d7,o7,t7,f7⟩:=fin I7;exact{m',hm,i+1,out,ax,nn,H7,J7,d7,ZT,X9,o7,t7,f7,w7})|true=>rw[if_pos rfl]at q7⊢;refine ba (he _ _ _ _ _ _ s7 UB H7 _ I7 q7) ?_;rintro v s8 ⟨y,H8,I8,r8,m',hm,w8⟩;obtain⟨J8,d8,o8,t8,f8⟩:=fin I8;have hsz:ax.toArray.size<=sizeLine:=(by rw[zo,<-X9.length];exact ZT);refine wpAny_list_append_plain (items:=ax.toArray) (hsz:=hsz) ⟨nn,o8⟩ ?_;rintro h9 ⟨n9,e9⟩ sb;have J9:Inv (fW X N scope C bG iR fp<|X.pn++pins) [] (pick σ src) H8 {s8 with heap:=h9}:=J8.turned (t':=s8.toks) (it:=D) (λb o hb e=>(sb.2 b hb).trans e) d8 Tj (.inr Ao) (λx c e=>zD<|zp (Iv x c<|iD x c e) Ao) λp hp=>(by have hp:p∈X.pn++pins:=(by simpa [fW]using hp);exact zD<|zp (Iy p hp) Ao);refine{m',hm,i+1,out++[y],ax++[v],n9,H8,J9,d8,?_,X9.append<|.cons r8 .nil,?_,T.keep _ _ _ t8 λb hb o e=>(sb.2 b λz=>N8<|z ▸ hb).trans e,f8,w8};rw[zE];exact eI;rw[e9];simp
 exact codeAny_compStart_list (loop _ rfl)<|T.self _ _ _ _ _ (T.keep _ _ _ st λb hb o e=>old b o e)<|loop _ rfl
theorem L5(S:bf X N src scope)(hc:X.calm=true)(hit:PI X tg iter wi)(hg:∀C s H ex pn,PG (fW X N scope C s H ex pn) tg g)(hx:Cy g src)(hi:∀C s H ex pn,Tf (fW X N scope C s H ex pn) ifs tc)(he:∀C s H ex pn,PE (fW X N scope C s H ex pn) elt te)(hs:autoParam (∀x,foldedSetIterable iter X.env x=pure x) qQ0):PE X (.ListComp elt [{tg,iter,ifs,0}] scope pos) (Iu wi src g tc te):=by intro pins s σ H Q I h;rw[eval_ListComp];have Ap:closureFor scope X.env=pure (clOf X.env.cells scope.names):=gx λy hy hf=>I.ok.has y.1<|S.BY y hy hf;refine wpAny_comprehension_free (use:=none) rfl hs Ap S.kind S.loc<|ba (hit pins s σ H _ I h) λv s1 h1=>ba h1 λX2 s2 h2=>?_;obtain⟨it,fp,tn,J,H2,e,I2,T,Cb,f2,W,w0,turn⟩:=h2;subst e;refine uZ (RR:=λacc C=>compPost (model X.prog X.w) X.A X.xe none (EP X pins σ Q) acc C) S hc hg hx hi he I2 T Cb f2 W w0 turn ?_;rintro D C s' ⟨H',m,I',q,hm,hn,h1,h2,h3,h4⟩;exact{m,hm,λh' sb=>{.ref D,H',I'.turned (t':=s'.toks) (it:=C) (λb o hb e=>(sb.2 b hb).trans e) hn h1 (.inr h2) h3 h4,rfl,q}}
theorem Cz{i:Nat}{x:Str}{pos' Gg:Pos}(hN:X.N.Nodup)(Ve:X.N[i]?=some x)(Aq:X.env.scope.names.lookup x=some .local)(S:bf X N src scope)(hc:X.calm=true)(hit:PI X tg iter wi)(hg:∀C s H ex pn,PG (fW X N scope C s H ex pn) tg g)(hx:Cy g src)(hi:∀C s H ex pn,Tf (fW X N scope C s H ex pn) ifs tc)(he:∀C s H ex pn,PE (fW X N scope C s H ex pn) elt te)(Vf:autoParam (swapsWith (.ListComp elt [{tg,iter,ifs,0}] scope pos) (some<|.Name x pos') Gg.line X.env=pure true) qQJ)(hs:autoParam (∀x,foldedSetIterable iter X.env x=pure x) qQ0):PS X (.Assign [.Name x pos'] (.ListComp elt [{tg,iter,ifs,0}] scope pos) Gg) (PJ (Iu wi src g tc te)<|iB i):=by
 intro pins s σ H D I h;rw[exec_Assign_Name_used _ _ _ _ Vf];refine zc<|wpAny_standAt<|zc ?_;have Ap:closureFor scope X.env=pure (clOf X.env.cells scope.names):=gx λy hy hf=>I.ok.has y.1<|S.BY y hy hf;show wpAny _ X.A (do let _ <-comprehension (.ListComp elt [⟨tg,iter,ifs,0⟩] scope pos) scope X.env _ (newList []) false (eval iter X.env) (some (assign (.Name x pos') X.env))) _ _ s;refine zc<|yx (wpAny_comprehension_free (use:=some<|assign (.Name x pos') X.env) (Q:=λ_ s'=>∃aA H',Inv X pins aA H' s'/\D.nx aA H') rfl hs Ap S.kind S.loc<|ba (hit pins s σ H _ I h) λv s1 h1=>ba h1 λX2 s2 h2=>?_) (λ_ s' hq=>zy<|zy hq) λ_ _ e=>e;obtain⟨it,fp,tn,J,H2,e,I2,T,Cb,f2,W,w0,turn⟩:=h2;subst e;refine uZ (Q:=λv H1=>D.nx (σ.set i<|some v) H1) (RR:=λacc C=>compPost (model X.prog X.w) X.A X.xe (some<|assign (.Name x pos') X.env) (λ_ s'=>∃aA H',Inv X pins aA H' s'/\D.nx aA H') acc C) S hc hg hx hi he I2 T Cb f2 W w0 turn ?_;rintro D' C s' ⟨H',m,I',q,hm,hn,h1,h2,h3,h4⟩;show wpAny _ X.A (assign (.Name x pos') X.env<|.ref D') _ _ _;refine wpAny_assign_Name<|uM I' hN Ve (.inl Aq) (v:=.ref D') rfl (λCr I'' ⟨a,sb,ha⟩=>?_)<|.inr Aq;have hCa:C≠a:=by rcases ha with ha|ha;rw[ha];exact h1;exact Ne.symm<|h3 _ _ ha
 refine{m,hm.sameBut sb hCa,λh'' K6=>{_,H',I''.turned (t':=Cr.toks) (it:=C) (λb o hb e=>(K6.2 b hb).trans e) hn h1 (.inr h2) h3 h4,q}}
end
theorem nW{σ:St}{src:List<|Option Nat}{i:Nat}(h:src[i]?=some none):(pick σ src)[i]?=some none:=by unfold pick;rw[zm,h];rfl
theorem Ext.set(h:σ0[i]?=some none)(e:Ext σ0 σ):Ext σ0 (σ.set i<|some v):=by
 refine{by rw[List.length_set];exact e.1,λj w hj=>?_};have:i≠j:=by rintro rfl;rw[h]at hj;cases hj
 rw[List.getElem?_set_ne this];exact e.2 j w hj
theorem Ext.refl(σ:St):Ext σ σ:={rfl,λ_ _ h=>h}
theorem Er{src:List<|Option Nat}{i:Nat}(h:src[i]?=some none):Cy (iB i) src:=λx σ H Q q=>{(Ext.refl _).set<|nW h,q}
theorem me{K:Frag}{n:Nat}{src:List<|Option Nat}{i j:Nat}(h:src[i]?=some none)(h':src[j]?=some none):Cy (Lw K n<|qU (iB i)<|qU (iB j) Lv) src:=λx σ H Q q=>by obtain⟨a,xs,e1,hs,hl,v,r,e2,v2,r2,e3,e4,q⟩:=q;exact{a,xs,e1,hs,hl,v,r,e2,v2,r2,e3,e4,((Ext.refl _).set<|nW h).set<|nW h',q}
theorem all_bools{xs:cr}{ax:dL}{bs:ut}(hv:Vals xs ax)(hb:xs=bs.map V.bl):∀(i:Nat)(v:Value),ax.toArray[i]?=some v->v=Value.bool ((bs[i]?).getD false):=by
 subst hb;intro i v h;have h':ax[i]?=some v:=by simpa using h
 have hl:=hv.length;rw[zb]at hl;have hi:i<ax.length:=(ze.mp h').1;have hb:bs[i]?=some (bs[i]'(by lia)):=by simp
 obtain⟨u,hu,r⟩:=hv.get (i:=i) (x:=V.bl<|bs[i]'(by lia)) (by rw[zm,hb];rfl);rw[h']at hu;cases hu;rw[hb];exact r
theorem range_all{bs:ut} : (List.range bs.length).all (λi=>(bs[i]?).getD false)=bs.all id:=by rw[yo,zR,zR];constructor;intro h b hb;obtain⟨i,hi,rfl⟩:=List.mem_iff_getElem.mp hb;have:=h i<|zU.mpr hi;simpa [hi]using this;intro h i hi;have hi:=zU.mp hi;simpa [hi]using h _ (List.getElem_mem hi)
theorem range_any{bs:ut} : (List.range bs.length).any (λi=>(bs[i]?).getD false)=bs.any id:=by rw[yo,List.any_eq_true,List.any_eq_true];constructor;rintro⟨i,hi,h⟩;have hi:=zU.mp hi;exact{bs[i],List.getElem_mem hi,by simpa [hi]using h};rintro⟨b,hb,h⟩;obtain⟨i,hi,rfl⟩:=List.mem_iff_getElem.mp hb;exact{i,zU.mpr hi,by simpa [hi]using h}
section
variable{X:Cx}
theorem ua(hc:X.calm=true):ee X (.builtin "all") (λxs H Q=>∃(a:Addr)(bs:ut),xs=[.ref a]/\iQ X.K H a (bs.map V.bl)/\Q (.bl<|bs.all id) H):=by
 intro pins s σ H xs us Q I r h;obtain⟨a,bs,rfl,hq,q⟩:=h;obtain⟨u,rfl,ru⟩:=vals1 r;cases ru;obtain⟨ax,rv,p,hz⟩:=I.list hq;have hl:=rv.length;rw[zb]at hl;refine call_all_walk<|wpAny_pyIter_list p.isList ?_;refine{s.heap.objs.size,_,_,_,_,_,λi=>(bs[i]?).getD false,rfl,Walks.list (A:=X.A.in1) (I.ok.hd hc) s.heap.objs.size a (zD p.lt) ax.toArray,{{_,zk _ rfl,rfl,rfl},p.isList.at λo e=>za _ e},?_,λh' tk hk=>?_};intro i v s' Q' E' hv hQ;rw[all_bools rv rfl i v hv];exact yy hQ;have e:ax.toArray.size=bs.length:=by rw[zo,<-hl]
 rw[e,range_all];exact{.bl<|bs.all id,H,I.kept (h':=h') (t':=tk) λb o e=>hk b o (by simpa using zD (zw e))<|za _ e,rfl,q}
theorem ub(hc:X.calm=true):ee X (.builtin "any") (λxs H Q=>∃(a:Addr)(bs:ut),xs=[.ref a]/\iQ X.K H a (bs.map V.bl)/\Q (.bl<|bs.any id) H):=by
 intro pins s σ H xs us Q I r h;obtain⟨a,bs,rfl,hq,q⟩:=h;obtain⟨u,rfl,ru⟩:=vals1 r;cases ru;obtain⟨ax,rv,p,hz⟩:=I.list hq;have hl:=rv.length;rw[zb]at hl;refine call_any_walk<|wpAny_pyIter_list p.isList ?_;refine{s.heap.objs.size,_,_,_,_,_,λi=>(bs[i]?).getD false,rfl,Walks.list (A:=X.A.in1) (I.ok.hd hc) s.heap.objs.size a (zD p.lt) ax.toArray,{{_,zk _ rfl,rfl,rfl},p.isList.at λo e=>za _ e},?_,λh' tk hk=>?_};intro i v s' Q' E' hv hQ;rw[all_bools rv rfl i v hv];exact yy hQ;have e:ax.toArray.size=bs.length:=by rw[zo,<-hl]
 rw[e,range_any];exact{.bl<|bs.any id,H,I.kept (h':=h') (t':=tk) λb o e=>hk b o (by simpa using zD (zw e))<|za _ e,rfl,q}
end
noncomputable def ownOf:HO->Option Addr|.ins _ dx _=>some dx|.kD _ u=>ownOf u|_=>none
structure Fg(H H' G:Hp):Prop where
 sub:∀b o,G b=some o->H' b=some o
 dom:∀b o,H b=some o->∃o',G b=some o'
 own:∀a o dx,G a=some o->ownOf o=some dx->(∃o',H a=some o'/\ownOf o'=some dx)\/∃o',G dx=some o'
theorem aK:bootBuiltins "len"= some (.builtin "len"):=PySem.boot_len
theorem gz:bootBuiltins "all"= some (.builtin "all"):=boot_all
theorem Iz:bootBuiltins "any"= some (.builtin "any"):=boot_any
theorem av:bootBuiltins "isinstance"= some (.builtin "isinstance"):=boot_isinstance
theorem rC:bootBuiltins "int"= some (.type "int"):=PyProof.Rows.boot_int
theorem L6:bootBuiltins "bool"= some (.type "bool"):=PyProof.Rows.boot_bool
theorem k7:bootBuiltins "str"= some (.type "str"):=PyProof.Rows.boot_str
theorem aX:bootBuiltins "tuple"= some (.type "tuple"):=PyProof.Rows.boot_tuple
theorem Es:bootBuiltins "list"= some (.type "list"):=PyProof.Rows.boot_list
theorem L7:bootBuiltins "dict"= some (.type "dict"):=PyProof.Rows.boot_dict
theorem QF:bootBuiltins "set"= some (.type "set"):=PyProof.Rows.boot_set
set_option genInjectivity true in
set_option genSizeOfSpec true in
inductive Kd where
 |au|bl|int|str|lst|tup|cj
 deriving DecidableEq
noncomputable def Kd.name:Kd->String|.au=>"NoneType" |.bl=>"bool" |.int=>"int" |.str=>"str" |.lst=>"list" |.tup=>"tuple" |.cj=>"dict"
inductive rD(H:Hp):V->Kd->Prop where
 |au:rD H .au .au
 |bl (b:Bool):rD H (.bl b) .bl
 |int (i:Int):rD H (.int i) .int
 |str (x:Str):rD H (.str x) .str
 |lst {a:Addr}{xs:cr} (e:H a=some (.lst xs)):rD H (.ref a) .lst
 |tup {a:Addr}{xs:cr} (e:H a=some (.tup xs)):rD H (.ref a) .tup
 |cj {a:Addr}{kvs:fv} (e:H a=some (.dK kvs)):rD H (.ref a) .cj
theorem rD.ty{K:Frag}{H:Hp}{x:V}{k:Kd}(h:rD H x k):nR K H x (.type k.name):=by cases h with|au=>exact .au|bl b=>exact .bl b|int i=>exact .int i|str x=>exact .str x|lst e=>exact .lst e|tup e=>exact .tup e|cj e=>exact .dK e
noncomputable def we(T:String):Option (Kd->Bool):=if T ="int" then some λk=>match k with|.int=>true|.bl=>true|_=>false else if T ="bool" then some λk=>match k with|.bl=>true|_=>false else if T ="str" then some λk=>match k with|.str=>true|_=>false else if T ="tuple" then some λk=>match k with|.tup=>true|_=>false else if T ="list" then some λk=>match k with|.lst=>true|_=>false else if T ="dict" then some λk=>match k with|.cj=>true|_=>false else none
theorem IA{K:Frag}{T:String}{g:Kd->Bool}(h:we T=some g)(k:Kd):kitOne K (.type k.name) (.type T)=some (g k):=by unfold we at h;split at h;rename_i e;subst e;cases h;cases k<;>rfl;split at h;rename_i e;subst e;cases h;cases k<;>rfl;split at h;rename_i e;subst e;cases h;cases k<;>rfl;split at h;rename_i e;subst e;cases h;cases k<;>rfl;split at h;rename_i e;subst e;cases h;cases k<;>rfl;split at h;rename_i e;subst e;cases h;cases k<;>rfl;cases h
section
variable{X:Cx}
theorem IB:ee X (.builtin "isinstance") (λxs H Q=>∃x T k g,xs=[x,.ty T]/\we T=some g/\rD H x k/\Q (.bl<|g k) H):=by intro pins s σ H xs us Q I r h;obtain⟨x,T,k,g,rfl,hg,hk,q⟩:=h;obtain⟨v,w',rfl,rv,l6⟩:=vals2 r;cases l6;exact FW I rv hk.ty (IA hg k) λtk=>{.bl<|g k,H,I.tok tk,rfl,q}
end
mutual
def Dt(K:Frag)(H:Hp):PyData->V->Prop|.none,v=>v=.au|.bool b,v=>v=.bl b|.int i,v=>v=.int i|.str z,v=>v=.str z|.list ds,v=>∃a xs,v=.ref a/\iQ K H a xs/\DtAll K H ds xs|.tuple ds,v=>∃a xs,v=.ref a/\gu K H a xs/\DtAll K H ds xs|.dict _,_=>False
def DtAll(K:Frag)(H:Hp):List PyData->List V->Prop|[],xs=>xs=[]|d::ds,xs=>∃y ys,xs=y::ys/\Dt K H d y/\DtAll K H ds ys
end
section
variable{X:Cx}{pins:io}{σ:St}{H:Hp}{s:Shared}
mutual
theorem Inv.reads(I:Inv X pins σ H s):∀(d:PyData){x:V}{u:Value},Dt X.K H d x->RelV x u->∃as,Reads s.heap u d as
 |.none,x,u,h,r=>by
  have h:x=.au:=by simpa only[Dt]using h
  subst h;cases r;exact{_,.none}
 |.bool b,x,u,h,r=>by
  have h:x=.bl b:=by simpa only[Dt]using h
  subst h;cases r;exact{_,.bool b}
 |.int i,x,u,h,r=>by
  have h:x=.int i:=by simpa only[Dt]using h
  subst h;obtain⟨t,rfl⟩:=r;exact{_,.int i t}
 |.str z,x,u,h,r=>by
  have h:x=.str z:=by simpa only[Dt]using h
  subst h;obtain⟨t,rfl⟩:=r;exact{_,.str z t}
 |.list ds,x,u,h,r=>by
  have h:∃a xs,x=.ref a/\iQ X.K H a xs/\DtAll X.K H ds xs:=by simpa only[Dt]using h
  obtain⟨a,xs,rfl,hq,hd⟩:=h;cases r;obtain⟨ax,rv,p,_⟩:=I.list hq;obtain⟨as,ra⟩:=Inv.readsAll I ds hd rv;obtain⟨o,e,c,n,d⟩:=p.isList;exact{_,.list e c d<|by simpa using ra}
 |.tuple ds,x,u,h,r=>by
  have h:∃a xs,x=.ref a/\gu X.K H a xs/\DtAll X.K H ds xs:=by simpa only[Dt]using h
  obtain⟨a,xs,rfl,hq,hd⟩:=h;cases r;obtain⟨ax,rv,p,_⟩:=I.tuple hq;obtain⟨as,ra⟩:=Inv.readsAll I ds hd rv;obtain⟨o,e,c,n,d⟩:=p;exact{_,.tuple e c d<|by simpa using ra}
 |.dict _,x,u,h,r=>by
  have h:False:=by simpa only[Dt]using h
  exact h.elim
theorem Inv.readsAll(I:Inv X pins σ H s):∀(ds:u8){xs:List V}{us:dL},DtAll X.K H ds xs->Vals xs us->∃as,ReadsAll s.heap us ds as
 |[],xs,us,h,r=>by
  have h:xs=[]:=by simpa only[DtAll]using h
  subst h;cases r;exact{_,.nil}
 |d::ds,xs,us,h,r=>by
  have h:∃y ys,xs=y::ys/\Dt X.K H d y/\DtAll X.K H ds ys:=by simpa only[DtAll]using h
  obtain⟨y,ys,rfl,h1,h2⟩:=h;cases r with|cons r1 r2=>obtain⟨as,ra⟩:=Inv.reads I d h1 r1;obtain⟨bs,rb⟩:=Inv.readsAll I ds h2 r2;exact{_,.cons ra rb}
end
end
def Vh(K:Frag)(neg:Bool):R2:=λx y H Q=>∃d e,Dt K H d x/\Dt K H e y/\d.canLay0=true/\e.canLay0=true/\(d.depth<=64\/e.depth<=64)/\Q (.bl<|if neg then !PyData.eqv d e else PyData.eqv d e) H
section
variable{X:Cx}
theorem QG(hu:X.A.units+64<cLine):gv X (compareOp .Eq) (Vh X.K false):=by intro pins s σ H x y v u Q I rx ry h;obtain⟨d,e,hd,he,cd,ce,dp,q⟩:=h;obtain⟨as,ra⟩:=I.reads d hd rx;obtain⟨bs,rb⟩:=I.reads e he ry;exact SeqAt.compareEq_reads ra rb cd ce (by rcases dp with dp|dp<;>lia)<|aH I q rfl
theorem IC(hu:X.A.units+64<cLine):gv X (compareOp .NotEq) (Vh X.K true):=by intro pins s σ H x y v u Q I rx ry h;obtain⟨d,e,hd,he,cd,ce,dp,q⟩:=h;obtain⟨as,ra⟩:=I.reads d hd rx;obtain⟨bs,rb⟩:=I.reads e he ry;exact SeqAt.compareNe_reads ra rb cd ce (by rcases dp with dp|dp<;>lia)<|aH I q rfl
end
theorem jV(a b:Nat):Ht ⟨#[a]⟩ ⟨#[b]⟩=decide (a<=b):=by
 unfold Ht;have e:([b]<[a])↔b<a:=by rw[List.cons_lt_cons_iff];constructor;rintro (h|⟨_,h⟩);exact h;exact absurd h<|List.not_lt_nil _;exact .inl
 rw[yo];show(!decide ([b]<[a]))=true↔_;rw[Bool.not_eq_true',yq,e,decide_eq_true_iff];lia
def chkC(sc:Scope)(N0 N:j4)(src:List<|Option Nat)(scope:Scope):Bool :=
 decide (scope.kind=.function)&&(scope.names.all (λy=>decide (y.2≠.cell)&&(decide (y.2≠.local)||decide (scope.names.lookup y.1=some .local))&&(decide (y.2≠.free)||(decide (sc.names.lookup y.1=some .cell)||decide (sc.names.lookup y.1=some .free)))) &&
  (decide (src.length=N.length)&&(List.range src.length).all λi=>match src[i]?,N[i]? with
   |some (some j),some x=>decide (N0[j]?=some x)&&(decide (scope.names.lookup x=some .free)&&(decide (sc.names.lookup x=some .cell)||decide (sc.names.lookup x=some .free)))
   |_,_=>true))
theorem Vi(sc:Scope)(N0:j4)(hs:X.env.scope=sc)(hN:X.N=N0)(h:chkC sc N0 N src scope=true):bf X N src scope:=by unfold chkC at h;simp only[zA,zS,zR,yR]at h;obtain⟨h1,h2,h3,h4⟩:=h;refine{h1,λy hy=>(h2 y hy).1.1,λy hy e=>?_,λy hy e=>?_,h3,λi j x e1 e2=>?_};rcases (h2 y hy).1.2 with z|z;exact absurd e z;exact z;rcases (h2 y hy).2 with z|z;exact absurd e z;show X.env.scope.names.lookup y.1=some .cell\/X.env.scope.names.lookup y.1=some .free;rw[hs];exact z;have hi:i<src.length:=(ze.mp e1).1;have q:=h4 i<|zU.mpr hi;rw[e1,e2]at q;simp only[zA,zS,yR]at q;refine{by rw[hN];exact q.1,q.2.1,?_};unfold Pl;rw[hs];exact .inr q.2.2
theorem mf(h0:0<=i)(h1:i<l.length):∃v,iW l i=some v/\l[i.toNat]?=some v:=by
 obtain⟨j,rfl⟩:=Int.eq_ofNat_of_zero_le h0;have hj:j<l.length:=by lia
 exact{l[j],bZ<|by simp[hj],by simp[hj]}
theorem b9{c:Bool}{A B:Prop}(h:c=true->A)(h':c=false->B):if c=true then A else B:=by cases c with|true=>exact h rfl|false=>exact h' rfl
theorem nt(h:(!b)=true):b=false:=by cases b<;>simp_all
theorem nf(h:(!b)=false):b=true:=by cases b<;>simp_all
noncomputable def CA:Kd->Bool|.int=>true|.bl=>true|_=>false
noncomputable def wg:Kd->Bool|.bl=>true|_=>false
noncomputable def CB:Kd->Bool|.str=>true|_=>false
noncomputable def rE:Kd->Bool|.tup=>true|_=>false
noncomputable def L8:Kd->Bool|.lst=>true|_=>false
theorem L9:we "int"= some CA:=if_pos rfl
theorem ID:we "bool"= some wg:=(if_neg<|by decide).trans<|if_pos rfl
theorem df:we "str"= some CB:=(if_neg<|by decide).trans<|(if_neg<|by decide).trans<|if_pos rfl
theorem bh:we "tuple"= some rE:=(if_neg<|by decide).trans<|(if_neg<|by decide).trans<|(if_neg<|by decide).trans<|if_pos rfl
theorem len_pos{z:Str}(h:1<=z.cps.size):∃c r,z.cps.toList=c::r:=by cases e:z.cps.toList with|nil=>have:z.cps.toList.length=0:=(by rw[e];rfl);rw[yd]at this;lia|cons c r=>exact⟨c,r,rfl⟩
theorem at0(e:l=c::r):iW l 0=some c:=by
 have:l[0]?=some c:=by rw[e];rfl
 exact bZ (j:=0) this
def isPlain:Expr->Bool|.Starred _ _=>false|_=>true
theorem CC(h:isPlain e=true):starEach (e::es) env=(false,eval e env)::starEach es env:=by cases e<;>first|rfl|exact absurd h zd
theorem ZV{t:TA}(ha:PE X e te)(hr:PA X es t)(hp:autoParam (isPlain e=true) qQJ):PA X (e::es) (N1 te t):=LH ha hr<|CC hp
end L2
namespace HT
open PySem PyProof.Rows
open PySem.SeqAt
open PySem.AutoSeq1 (wpAny_loadPart')
open PySem.MeetsSeq PySem.MeetsSeq2 PySem.MeetsSeq3
end HT
namespace L2
open PySem PySem.Spec PyProof.Rows
def IE(c:Value)(e:Addr)(h:Heap):Prop:=∃o vs,h.get? e=some o/\o.data=.fields vs/\vs[2]?=some c
section
variable{M:Model}{A:Around}{E:li}{s:Shared}{base:Heap}{env:Env}{outer:jp}{L e:Addr}{a0 c fl:Value}
theorem Vj(y3:A.frames=some (env::outer))(hl:s.heap.FunFrames base<|env::outer)(hf:env.frame=some L)(he:s.heap.get? e=some oe)(Hu:base.StaysIn s.heap)(BZ:base.get? e=none)(hd:oe.data=.fields vs)(h0:vs[0]?=some a0)(h2:vs[2]?=some c)(h:∀h',Heap.NotedW base (env::outer) e oe.cls a0 (rawInt L) s.heap h'->IE c e h'->Q () {s with heap:=h'}): wpAny M A (do let x <-frameOf env;let y <-entryPlaceOf L nx;let z <-EntryCells.newEntry head x .none (rawInt L) .none y;setField (.ref e) 1 z) Q E s:=by
 have hsz:1<vs.size:=by have:=(Array.getElem?_eq_some_iff.mp h2).1;lia
 have nfr:e∉(env::outer).filterMap (·.frame):=λm=>by obtain⟨_,o,q,n⟩:=hl.mem m;rw[he]at q;cases q;exact n vs hd
 refine zc<|wpAny_frameOf_fun y3 hl hf λg sg=>?_;refine zc<|wpAny_entryPlaceOf λpl eO=>?_;unfold EntryCells.newEntry newFields;refine zc<|yG ?_<|eO.sizeOk5 _ _ _ _ _;have g1:g.get? e=some oe:=(sg.2.1 e nfr).trans he;have kg:base.StaysIn g:=λb o q=>(sg.2.1 b λm=>by rw[(hl.mem m).1]at q;cases q).trans<|Hu b o q;have t3:((([head,.ref L,.none,rawInt L,.none]++(if pl.isEmpty then List.replicate 6 Value.none else pl)).toArray:ii))[3]?=some (rawInt L):=by rcases eO with rfl|⟨_,_,_,_,_,_,_,rfl⟩<;>simp
 generalize htb:(([head,.ref L,.none,rawInt L,.none]++(if pl.isEmpty then List.replicate 6 Value.none else pl)).toArray:ii)=ts at t3;have g2:=za (h:=g) {cls:=.type "traceback",dict:=none,data:=.fields ts} g1;refine yU g2 hd hsz<|h _ ?_ ?_;have ne:g.objs.size≠e:=yr<|zw g1;have d3:=yD hd (·.setIfInBounds 1 (Value.ref g.objs.size));have e3:=yz (Obj.mapFields (·.setIfInBounds 1 (Value.ref g.objs.size))) g2<|Obj.isFreed_of_fields d3;have T3:=(yt (g.push {cls:=.type "traceback",dict:=none,data:=.fields ts}) (Obj.mapFields (·.setIfInBounds 1 (Value.ref g.objs.size)))<|Ne.symm ne).trans<|zk g rfl;have keep:∀b o,b≠e->g.get? b=some o->((g.push {cls:=.type "traceback",dict:=none,data:=.fields ts}).update e (Obj.mapFields (·.setIfInBounds 1 (Value.ref g.objs.size)))).get? b=some o:=λb o n q=>by rw[yt _ _<|Ne.symm n];exact za _ q
 have Ar:∀b o,s.heap.get? b=some o->(∀vs,o.data≠.fields vs)->b≠e:=λb o q n z=>by rw[z,he]at q;cases q;exact n vs hd
 refine{λb o q=>keep b o (λz=>by rw[z,BZ]at q;cases q)<|kg b o q,hl.of_keeps λb o q n=>?_,?_,λb o q n=>?_};obtain⟨sl,z⟩:=sg.2.2 b o q;exact{_,keep b _ (Ar b o q n) z,rfl};exact{_,_,g.objs.size,_,_,e3,{Obj.cls_mapFields _ _,by rw[Array.getElem?_setIfInBounds_ne<|by decide];exact h0},d3,by simp[hsz],kg.fresh,ne,T3,rfl,t3};obtain⟨sl,z⟩:=sg.2.2 b o q;exact{sl,keep b _ (Ar b o q n) z};have d3:=yD hd (·.setIfInBounds 1 (Value.ref g.objs.size));exact{_,_,yz (Obj.mapFields (·.setIfInBounds 1 (Value.ref g.objs.size))) g2<|Obj.isFreed_of_fields d3,d3,by rw[Array.getElem?_setIfInBounds_ne<|by decide];exact h2}
theorem setC(Hu:base.StaysIn s.heap)(BZ:base.get? e=none)(hl:s.heap.FunFrames base l)(ht:s.heap.TracedAtW base e cls a0 fl)(hc:IE c e s.heap)(h:∀h',Heap.FlyingW base l e cls a0 h'->s.heap.UpToSlots h'->IE c e h'->Q () {s with heap:=h'}):wpAny M A (setFlight (.ref e) none) Q E s:=by
 obtain⟨o,vs,T,oT,ts,q,hk,hd,q1,nT,ne,qT,dT,q3⟩:=ht;obtain⟨o',ZW,q',B9,q2⟩:=hc;rw[q]at q';cases q';rw[hd]at B9;cases B9;have hs3:3<ts.size:=(Array.getElem?_eq_some_iff.mp q3).1;have L_:∀b,b≠T->(s.heap.update T (Obj.mapFields (·.setIfInBounds 3 ((none:pi).elim Value.none λf=>rawInt f)))).get? b=s.heap.get? b:=λb n=>yt _ _<|Ne.symm n;have Ar:∀b o,s.heap.get? b=some o->(∀vs,o.data≠.fields vs)->b≠T:=λb o z n w=>by rw[w,qT]at z;cases z;exact n ts dT
 have qe:=(L_ e<|Ne.symm ne).trans q;unfold setFlight;refine zc<|yg q hd q1 ?_;rw[if_pos<|show(Value.ref T != Value.none)=true by simp];refine yU qT dT hs3<|h _ {λb o z=>(L_ b λw=>by rw[w,nT]at z;cases z).trans<|Hu b o z,BZ,hl.of_keeps λb o z n=>{o,(L_ b<|Ar b o z n).trans z,rfl},?_} (λb o z n=>{o.slots,(L_ b<|Ar b o z n).trans z}) ⟨o,vs,qe,hd,q2⟩;exact{o,vs,T,_,_,qe,hk,hd,q1,nT,ne,yz _ qT<|Obj.isFreed_of_fields<|yD dT _,yD dT _,by simp[hs3]}
theorem Vk(y3:A.frames=some (env::outer))(hf:env.frame=some L)(Hu:base.StaysIn s.heap)(BZ:base.get? e=none)(hl:s.heap.FunFrames base<|env::outer)(ht:s.heap.TracedAtW base e cls a0 fl)(hc:IE c e s.heap)(h:∀h',Heap.HeldW base (env::outer) e cls a0 L h'->s.heap.UpToSlots h'->IE c e h'->Q () {s with heap:=h'}):wpAny M A (noteFrame (.ref e) env) Q E s:=by
 by_cases Vl:fl=rawInt L;subst Vl;exact wpAny_noteFrame_againW hf ht<|h s.heap ⟨Hu,BZ,hl,ht⟩ (.refl _) hc;obtain⟨o,vs,T,oT,ts,q,⟨hk,h0⟩,hd,q1,nT,ne,qT,dT,q3⟩:=ht;obtain⟨o',ZW,q',B9,q2⟩:=hc;rw[q]at q';cases q';rw[hd]at B9;cases B9;subst hk;have L_:∀b,b≠T->(s.heap.update T (Obj.mapFields (·.setIfInBounds 3 Value.none))).get? b=s.heap.get? b:=λb n=>yt _ _<|Ne.symm n;have Ar:∀b o,s.heap.get? b=some o->(∀vs,o.data≠.fields vs)->b≠T:=λb o z n w=>by rw[w,qT]at z;cases z;exact n ts dT
 unfold noteFrame;simp only[hf];refine zc<|yg q hd q1 ?_;rw[if_pos<|show(Value.ref T != Value.none)=true by simp];refine zc<|yg qT dT q3 ?_;rw[if_neg<|show ¬((fl==rawInt L)=true) by simpa using Vl];refine zc<|yU qT dT (Array.getElem?_eq_some_iff.mp q3).1 ?_;refine Vj y3 (hl.of_keeps λb o z n=>{o,(L_ b<|Ar b o z n).trans z,rfl}) hf ((L_ e<|Ne.symm ne).trans q) (λb o z=>(L_ b λw=>by rw[w,nT]at z;cases z).trans<|Hu b o z) BZ hd h0 q2 λh' x y=>?_;obtain⟨x1,x2,x3,x4⟩:=x;exact h h' ⟨x1,BZ,x2,x3⟩ (λb o z n=>x4 b o ((L_ b<|Ar b o z n).trans z) n) y
theorem QH(y3:A.frames=some (env::outer))(hf:env.frame=some L)(Hu:base.StaysIn s.heap)(BZ:base.get? e=none)(hl:s.heap.FunFrames base<|env::outer)(he:s.heap.get? e=some oe)(hd:oe.data=.fields vs)(h0:vs[0]?=some a0)(h1:vs[1]?=some .none)(h2:vs[2]?=some c)(h:∀h',Heap.HeldW base (env::outer) e oe.cls a0 L h'->s.heap.UpToSlots h'->IE c e h'->Q () {s with heap:=h'}):wpAny M A (noteFrame (.ref e) env) Q E s:=by unfold noteFrame;simp only[hf];refine zc<|yg he hd h1 ?_;rw[if_neg<|by decide];refine Vj y3 hl hf he Hu BZ hd h0 h2 λh' x y=>?_;obtain⟨x1,x2,x3,x4⟩:=x;exact h h' ⟨x1,BZ,x2,x3⟩ x4 y
theorem QI(y3:A.frames=some (env::outer))(hf:env.frame=some L)(Hu:base.StaysIn s.heap)(BZ:base.get? e=none)(hl:s.heap.FunFrames base<|env::outer)(ht:s.heap.TracedAtW base e cls a0 fl)(hc:IE c e s.heap)(h:∀h',Heap.FlyingW base outer e cls a0 h'->s.heap.UpToSlots h'->IE c e h'->Q () {s with heap:=h'}):wpAny M A (leaving env<|.ref e) Q E s:=by unfold leaving;refine zc<|Vk y3 hf Hu BZ hl ht hc λh' x u y=>?_;obtain⟨x1,x2,x3,x4⟩:=x;refine setC x1 x2 x3 x4 y λh2 z u2 y2=>?_;obtain⟨z1,z2,⟨_,_,z3⟩,z4⟩:=z;exact h h2 ⟨z1,z2,z3,z4⟩ (u.trans u2) y2
theorem Ma(y3:A.frames=some (env::outer))(hf:env.frame=some L)(Hu:base.StaysIn s.heap)(BZ:base.get? e=none)(hl:s.heap.FunFrames base<|env::outer)(he:s.heap.get? e=some oe)(hd:oe.data=.fields vs)(h0:vs[0]?=some a0)(h1:vs[1]?=some .none)(h2:vs[2]?=some c)(h:∀h',Heap.FlyingW base outer e oe.cls a0 h'->s.heap.UpToSlots h'->IE c e h'->Q () {s with heap:=h'}):wpAny M A (leaving env<|.ref e) Q E s:=by unfold leaving;refine zc<|QH y3 hf Hu BZ hl he hd h0 h1 h2 λh' x u y=>?_;obtain⟨x1,x2,x3,x4⟩:=x;refine setC x1 x2 x3 x4 y λh2 z u2 y2=>?_;obtain⟨z1,z2,⟨_,_,z3⟩,z4⟩:=z;exact h h2 ⟨z1,z2,z3,z4⟩ (u.trans u2) y2
end
theorem bp.get(x:bp P w H h a o):∃u,h.get? a=some u:=by cases o with|lst xs=>(obtain⟨_,_,_,_,e⟩:=x;exact{_,e})|tup xs=>(obtain⟨_,_,_,ob,e,_⟩:=x;exact{_,e})|dK kvs=>(obtain⟨_,_,_,_,o,_,_,e,_⟩:=x;exact{_,e})|dT kvs=>exact False.elim x|set S n=>(obtain⟨o,_,_,_,e,_⟩:=x;exact{_,e})|ins C dx fs=>(obtain⟨_,_,_,e,_⟩:=x;exact{_,e})|own y=>(obtain⟨_,e⟩:=x;exact{_,e})|xd fs=>(obtain⟨_,⟨_,_,_,e,_⟩,_⟩:=x;exact{_,e})|XW lo hi=>(obtain⟨_,_,_,e⟩:=x;exact{_,e})|kD ob u=>(obtain⟨e,_⟩:=x;exact{_,e})|qB ps=>exact{_,show h.get? a=some _ from x}|met f y=>exact{_,show h.get? a=some _ from x}|ext φ=>obtain⟨_,e,_⟩:=x;exact e
structure ZX(P:Program)(w:World)(mg:Str->Option Value)(outer:jp)(H H':Hp)(h0:Heap)(a:Addr)(cls a0:Value)(B h:Heap):Prop where
 fl:Heap.FlyingW B outer a cls a0 h
 aG:kX P w H' B
 keep:∀b o,h0.get? b=some o->H b=none->b∉nM outer->B.get? b=some o
 there:∀b o,h0.get? b=some o->b∉nM outer->∃o',B.get? b=some o'
 slot:∀b o,h0.get? b=some o->b∈nM outer->∃sl,h.get? b=some {o with slots:=sl}
 free:∀b o,h0.get? b=some o->H b=none->H' b=none
 l4:∀b xs,H b=some (.tup xs)->H' b=some (.tup xs)
 kY:∀b o u,H b=some (.kD o u)->H' b=some (.kD o u)
 kZ:∀b ps,H b=some (.qB ps)->∃more,H' b=some (.qB<|ps++more)
 cx:IE .none a h\/mg "NoMark"= some cls
def fR(P:Program)(w:World)(mg:Str->Option Value):Cq:=λouter H s E e s'=>∃a cls a0 B H',e=.ref a/\s'.os=s.os/\AllBare s'.gens/\ZX P w mg outer H H' s.heap a cls a0 B s'.heap/\E cls none H'
structure cW(X:Cx)(E:XK):Prop where
 ex:X.ex=[]
 st:X.stack=X.env::X.outer
 fr:X.env.frame=some X.env.locals
 xe:∀e s',wpAny (model X.prog X.w) X.A (leaving X.env e) (λ_ Cr=>fR X.prog X.w X.mg X.outer X.v5 X.dm E e Cr) (λe' Cr=>fR X.prog X.w X.mg X.outer X.v5 X.dm E e' Cr) s'->X.xe e s'
theorem u0{P:Program}{w:World}{K:Frag}{mg:Str->Option Value}{base:Heap}{N:j4}{qual:Str}{scope:Scope}{f:Addr}{cd:Value}{A:Around}{outer:jp}{s:Shared}{H:Hp}{E:XK} : cW (j_ (fR P w mg) P w K mg base N qual scope f cd A outer s H E) E:={rfl,rfl,rfl,λ_ _ h=>h}
section
variable{X:Cx}{pins:io}{σ:St}{H H':Hp}{s:Shared}{E E':XK}
theorem cW.mem(L:cW X E):b∈nM X.stack↔b=X.env.locals\/b∈X.fs:=by unfold Cx.fs nM;rw[L.st,List.filterMap_cons,L.fr];exact zi
theorem cW.FH(L:cW X E)(I:Inv X pins σ H s)(e:X.dm.heap.get? b=some o)(h:b∉X.fs):b∉nM X.stack:=λz=>by rcases L.mem.mp z with z|z;have:=zw e;have h2:=I.ok.above;rw[z]at this;exact absurd (zp this h2)<|yF _;exact h z
theorem cW.fly(L:cW X E)(I:Inv X pins σ H s)(F:ZX X.prog X.w X.mg X.stack H H' s.heap a cls a0 B h)(f2:Heap.FlyingW B X.outer a cls a0 h2)(u2:h.UpToSlots h2)(c2:IE .none a h2\/X.mg "NoMark"= some cls):
  ZX X.prog X.w X.mg X.outer X.v5 H' X.dm.heap a cls a0 B h2 where
 cx:=c2
 fl:=f2
 aG:=F.aG
 keep:=λb o e n hf=>F.keep b o (I.base.keep b o e n hf<|by rw[L.ex];simp) (I.base.free b o e n<|by rw[L.ex];simp)<|L.FH I e hf
 there:=λb o e hf=>by
  obtain⟨o',q⟩:=I.base.there b o e<|by rw[L.ex];simp
  exact F.there b o' q<|L.FH I e hf
 slot:=λb o e hf=>by
  obtain⟨sl,q⟩:=I.base.slot b o e (I.ok.Pn b hf) hf<|by rw[L.ex];simp
  obtain⟨sl1,q1⟩:=F.slot b _ q<|L.mem.mpr<|.inr hf
  obtain⟨_,o2,q2,hd⟩:=F.fl.2.2.1.mem<|L.mem.mpr<|.inr hf
  obtain⟨K5,q3⟩:=u2 b o2 q2 hd
  rw[q1]at q2;cases q2
  exact⟨K5,q3⟩
 free:=λb o e n=>by
  obtain⟨o',q⟩:=I.base.there b o e<|by rw[L.ex];simp
  exact F.free b o' q<|I.base.free b o e n<|by rw[L.ex];simp
 l4:=λb xs e=>F.l4 b xs<|I.base.l4 b xs e
 kY:=λb o u e=>F.kY b o u<|I.base.kY b o u e
 kZ:=λb ps e=>by
  obtain⟨m1,q1⟩:=I.base.kZ b ps e
  obtain⟨m2,q2⟩:=F.kZ b _ q1
  exact{m1++m2,by rw[q2,Array.append_assoc]}
theorem Vm(L:cW X E)(hE:∀c d H',E' c d H'->E c d H'):Passes (fR X.prog X.w X.mg) X E':=λpins σ H s e s' I h=>by
 obtain⟨a,cls,a0,B,H',rfl,os,bare,F,q⟩:=h;refine L.xe _ _ ?_;have y3:X.A.frames=some (X.env::X.outer):=by rw[I.ok.frames,L.st]
 have fl:Heap.FlyingW B (X.env::X.outer) a cls a0 s'.heap:=by rw[<-L.st];exact F.fl
 rcases F.cx with hc|hc;obtain⟨f1,f2,f3,f4⟩:=fl;exact QI y3 L.fr f1 f2 f3 f4.at hc λh2 f2 u2 c2=>{a,cls,a0,B,H',rfl,os.trans I.os,bare,L.fly I F f2 u2<|.inl c2,hE _ _ _ q};exact wpAny_leaves_onW y3 L.fr fl λh2 f2 u2=>{a,cls,a0,B,H',rfl,os.trans I.os,bare,L.fly I F f2 u2<|.inr hc,hE _ _ _ q}
theorem QJ(I:Inv X pins σ H s):kX X.prog X.w H (hideAll s.heap<|nM X.stack):=λa o e=>(I.aG a o e).p_ (λb u hb q=>hideAll_get _ q λz=>by have n:=I.qC b z;rcases hb with rfl|hb;rw[e]at n;cases n;rw[hb]at n;cases n) (λ_ q=>q) λ_ _ q=>q
theorem CD(L:cW X E)(I:Inv X pins σ H s)(hk:∀b o,s.heap.get? b=some o->h'.get? b=some o)(hn:s.heap.get? a=none)(he:h'.get? a=some oe)(hd:oe.data=.fields vs)(h0:vs[0]?=some a0)(h1:vs[1]?=some .none)(h2:vs[2]?=some c)(hc:c=.none\/X.mg "NoMark"= some oe.cls)(hE:E oe.cls none H):X.xe (.ref a) {s with heap:=h'}:=by
 refine L.xe _ _ ?_;have y3:X.A.frames=some (X.env::X.outer):=by rw[I.ok.frames,L.st]
 have B4:∀env∈X.stack,∀b,env.frame=some b->b∈nM X.stack:=λenv he b hb=>List.mem_filterMap.mpr ⟨env,he,hb⟩;have ff:s.heap.FunFrames (hideAll s.heap<|nM X.stack) (X.env::X.outer):=by rw[<-L.st];exact PySem.W.funFrames_hide I.stack B4
 have hb:(hideAll s.heap<|nM X.stack).get? a=none:=by cases z:(hideAll s.heap<|nM X.stack).get? a with|none=>rfl|some o=>have:=of_hideAll _ z;rw[hn]at this;cases this
 refine Ma (base:=hideAll s.heap<|nM X.stack) y3 L.fr (λb o q=>hk b o<|of_hideAll _ q) hb (ff.of_keeps λb o q _=>{o,hk b o q,rfl}) he hd h0 h1 h2 λh2 x1 x4 c2=>?_;refine{a,oe.cls,a0,_,H,rfl,I.os,I.bare,{x1,QJ I,λb o e n hf=>?_,λb o e hf=>?_,λb o e hf=>?_,λb o e n=>I.base.free b o e n<|by rw[L.ex];simp,I.base.l4,I.base.kY,I.base.kZ,?_},hE};exact hideAll_get _ (I.base.keep b o e n hf<|by rw[L.ex];simp)<|L.FH I e hf;obtain⟨o',q⟩:=I.base.there b o e (by rw[L.ex];simp);exact{o',hideAll_get _ q<|L.FH I e hf};obtain⟨sl,q⟩:=I.base.slot b o e (I.ok.Pn b hf) hf (by rw[L.ex];simp);obtain⟨_,o2,q2,hd⟩:=I.qd.mem hf;obtain⟨K5,q3⟩:=x4 b o2 (hk _ _ q2) hd;rw[q]at q2;cases q2;exact⟨K5,q3⟩;rcases hc with rfl|hc;exact .inl c2;exact .inr hc
theorem pB(L:cW X E)(I:Inv X pins σ H s)(hx:Heap.MadeExcOf s.heap h' a cls args)(hE:E cls none H):X.xe (.ref a) {s with heap:=h'}:=by obtain⟨t,he,_,_⟩:=hx.there;exact CD L I (λb o q=>hx.keeps b o q) hx.new he rfl rfl rfl rfl (.inl rfl) hE
end
noncomputable abbrev ZY:dL:=[.type "ValueError",.type "Exception",.type "BaseException",.type "object"]
structure XC(K:Frag)(C:Addr):Prop where
 q:excIn K C ZY "ValueError.__new__"= true
def ZZ(a:Addr)(cls:Value):HO:=.ext λh=>∃o vs,h.get? a=some o/\o.cls=cls/\o.data=.fields vs
abbrev TX:=(St->XK)->TS
noncomputable def Ends.less(D:Ends)(i:Nat):Ends:={nx:=λσ H=>D.nx (σ.set i none) H,rt:=D.rt,bk:=λσ H=>D.bk (σ.set i none) H,ct:=λσ H=>D.ct (σ.set i none) H}
structure XA(K:Frag)(C:Addr):Prop where
 ga:findIn K (.ref C) "__getattribute__"= some (some<|.builtin "BaseException.__getattribute__")
 gh:findIn K (.ref C) "__getattr__"= some none
 cl:findIn K (.ref C) "__class__"= some (some<|.builtin "object.__class__")
section
variable{X:Cx}
theorem N9(L:cW X E):Passes (fR X.prog X.w X.mg) X E:=Vm L λ_ _ _ h=>h
end
noncomputable def ja(l:j4):j4:=l.foldl (λc x=>if x∈c then c else c++[x]) []
theorem As(l:j4)(x:Str):ja (l++[x])=if x∈ja l then ja l else ja l++[x]:=by unfold ja;rw[List.foldl_append];rfl
theorem Mb:∀(l:j4),(ja l).length<=l.length:=λl=>by
 have all:∀(r c:j4),(r.foldl (λc x=>if x∈c then c else c++[x]) c).length<=c.length+r.length:=by intro r;induction r with|nil=>intro c;simp|cons x r ih=>intro c;rw[yL];refine zI (ih _) ?_;split<;>simp<;>try lia
 simpa [ja]using all l []
section
variable{prog:Program}{w:World}{A:Around}{R:Result->Shared->Prop}{I:Addr}{fp wr:im}{G:Array GenState->Array GenState->Prop}{n:Nat}{P:Nat->Value->Prop}{St:Nat->Shared->Prop}
theorem IG(W:WalksS prog w A.in1 I fp wr G n P St)(S:Addr)(hSf:S∉fp)(xs:j4)(hx:xs.length=n)(QK:∀i v,P i v->∃x t,xs[i]?=some x/\v=.str x t)(hb:n+1<scanBound): ∀(k i:Nat)(s:Shared),i+k=n->St i s->s.heap.SetOf (strKind prog w) S (λy=>decide<|y∈ja (xs.take i)) (ja<|xs.take i).length->(∀s',Moved (S::wr) G s s'->s'.heap.SetOf (strKind prog w) S (λy=>decide<|y∈ja xs) (ja xs).length->R (.ok<|.ret .none) s')->codeAny (model prog w) A (.builtin "set.update.loop" {[.ref S,.ref I],[]}) R s:=by have nw:S∉wr:=λh=>hSf<|W.sub _ h;have up:∀b∈wr,b∈S::wr:=λb hb=>zf _ hb;have mv:∀{i:Nat}{s s':Shared},Moved wr G s s'->s.heap.SetOf (strKind prog w) S (λy=>decide<|y∈ja (xs.take i)) (ja<|xs.take i).length->s'.heap.SetOf (strKind prog w) S (λy=>decide<|y∈ja (xs.take i)) (ja<|xs.take i).length:=λhm ⟨o,es,ep,tb,ho,rest⟩=>{o,es,ep,tb,hm.heap S _ nw ho,rest};intro k;induction k with|zero=>intro i s hk z_ hS hR;have e:i=n:=(by lia);subst e;refine yS F.entry_set_update_loop ?_;rw[Around.under_plainId F.plain_set_update_loop _];show wpAny _ A.in1 (pyNext (.ref I) >>=_) _ _ s;refine zc<|W.done s _ _ z_ λs' hm=>?_;show wpAny _ A.in1 (ret Value.none) _ _ s';have q:=mv hm hS;rw[<-hx,yK]at q;exact zy (hR s' (hm.mono up) q)|succ k ih=>intro i s hk z_ hS hR;have lt:i<n:=(by lia);refine yS F.entry_set_update_loop ?_;rw[Around.under_plainId F.plain_set_update_loop _];show wpAny _ A.in1 (pyNext (.ref I) >>=_) _ _ s;refine zc<|W.item i s _ _ lt z_ λv s' hP QL hm=>?_;obtain⟨x,t,ex,rfl⟩:=QK i v hP;have q:=mv hm hS;show wpAny _ A.in1 (holding [Value.str x t] (setAdd S<|.str x t) >>=_) _ _ s';refine zc<|yO ?_;unfold setAdd;refine yO ?_;refine zc<|(strKind prog w).pyHash (k:=x) (strKind_is _ _ _ _) ?_;have room:(ja<|xs.take i).length+1<scanBound:=(by have:=Mb<|xs.take i;rw[yp]at this;lia);refine wpAny_setAddHashed_of (knd:=strKind prog w) (s:={s' with toks:=s'.toks+1}) (strKind_is _ _ _ _) rfl q room λh' Mc q2=>?_;have tk:xs.take (i+1)=xs.take i++[x]:=(by rw[List.take_succ,ex];rfl);have qi:h'.SetOf (strKind prog w) S (λy=>decide<|y∈ja (xs.take<|i+1)) (ja<|xs.take<|i+1).length:=(by refine SetOf_congr q2 (λy=>?_) ?_;rw[tk,As];by_cases h:x∈ja (xs.take i);rw[if_pos h];by_cases hy:y=x;subst hy;simp[h];simp[hy];rw[if_neg h];simp;rw[tk,As];by_cases h:x∈ja (xs.take i);rw[if_pos h,if_pos<|by simpa using h];rw[if_neg h,if_neg<|by simpa using h];simp);refine zy {plainId_quiet F.plain_set_update_loop _,ih (i+1) _ (by lia) (W.frame _ s' _ _ QL (yV _) λb hb o e=>?_) qi λCr QM Z4=>?_};rw[Mc.2 b (λh:b=S=>hSf<|by rw[<-h];exact hb)];exact e;refine hR Cr (Moved.trans W.gtrans ((hm.mono up).then_heap (yV _) λb o hb e=>?_) QM) Z4;rw[Mc.2 b (λh:b=S=>hb<|by rw[h];exact zj)];exact e
theorem Au(hh:A.handled=none)(hl:s.heap.IsList l items)(hx:xs.length=items.size)(hi:∀(i:Nat)(v:Value),items[i]?=some v->∃x t,xs[i]?=some x/\v=.str x t)(hb:items.size+1<scanBound)(h:∀(h':Heap)(tk:Nat),h'.SetOf (strKind prog w) s.heap.objs.size (λy=>decide<|y∈ja xs) (ja xs).length->(∀b o,b<s.heap.objs.size->s.heap.get? b=some o->h'.get? b=some o)->Q (.ref s.heap.objs.size) {s with heap:=h',toks:=tk}): wpAny (model prog w) A (call (.type "set") [.ref l]) Q E s:=by
 obtain⟨c,tl,m0⟩:=F.called_set.mro;have m1:=F.called_set.made;have m2:=F.called_set.sub;refine wpAny_call<|codeAny_of_tree ?_;show wpAny _ _ (callAny (.type "set") _) _ _ _;refine zy {Code.quiet_builtin _<|by trivial,yS F.entry_type_call ?_};rw[Around.under_plain (weight_type_call_type "set" [.ref l] []) rfl];have m3:=F.called_set.notType;have m4:=F.called_set.canCreate;have m5:=F.typeCall_set_1<|.ref l;repeat (any_goals (first|assumption|wp_step))
 refine yW (code_set_new_1 (.ref l) (E:=E) (Q₁:=λob s1=>∃led:Bool,ob=.ref s.heap.objs.size/\s1={s with heap:=s.heap.push {cls:=.type "set",dict:=none,data:=.set #[] 0 (.fresh 0 0 led)}}) λled=>⟨led,rfl,rfl⟩) λr s1 hr=>?_
 cases r with
 |error e=>exact hr
 |ok fl =>
  cases fl with
  |ret ob =>
   obtain⟨led,rfl,rfl⟩:=hr;generalize hO:({cls:=.type "set",dict:=none,data:=.set #[] 0 (.fresh 0 0 led)} : Obj)=O;have gS:(s.heap.push O).get? s.heap.objs.size=some O:=zk _ (by rw[<-hO];rfl);have tS:Shared.TypeIs {s with heap:=s.heap.push O} (.ref s.heap.objs.size) "set":={_,gS,by rw[<-hO]};have i1:=F.called_set.init.lookup;have i2:=F.called_set.init.bind<|.ref s.heap.objs.size;(repeat (any_goals (first|assumption|wp_step)));refine yW (codeAny_call_builtin (R:=wants (λr s2=>r=.none/\∃h' tk,s2={s with heap:=h',toks:=tk}/\h'.SetOf (strKind prog w) s.heap.objs.size (λy=>decide<|y∈ja xs) (ja xs).length/\(∀b o,b<s.heap.objs.size->s.heap.get? b=some o->h'.get? b=some o)) E) F.called_set.init.plain F.entry_set_init<|check_set_init_1 tS ?_) λr2 s2 Z5=>?_
   ·obtain⟨ol,gl,cl,nl,dl⟩:=hl;obtain⟨aea,Vo,acz,QN⟩:=ol;simp only at cl dl;subst cl;subst dl;have Vp:(s.heap.push O).get? l=some {cls:=.type "list",dict:=Vo,data:=.seq items nl,slots:=QN}:=za _ gl;have j1:=F.sub_list_set;have j2:=F.sub_list_frozenset;have j3:(Value.type "list"== Value.type "dict")=false:=(by decide);have il:(s.heap.push O).IsList l items:={_,Vp,rfl,nl,rfl};subst hO;unfold Builtin.«set.__init__» noKeywords Builtin.Frozenset.updateFrom;generalize hPI:pyIter=PI;wp_walk;subst hPI;refine wpAny_pyIter_list il ?_;refine zc<|wpAny_runValue ?_;have ll:l<s.heap.objs.size:=zw gl;have h3:A.in1.in1.in1.handled=none:=(by simp[hh]);have ne:l≠(s.heap.push {cls:=.type "set",dict:=none,data:=.set #[] 0 (.fresh 0 0 led)}).objs.size:=(by rw[yc];exact zD<|Nat.lt_succ_of_lt ll);have nf:s.heap.objs.size∉[(s.heap.push {cls:=.type "set",dict:=none,data:=.set #[] 0 (.fresh 0 0 led)}).objs.size,l]:=(by rw[yc];simp only[zi,zK,zH,or_false,not_or];exact{zD<|Nat.lt_succ_self _,yr ll});refine IG ((Walks.list h3 _ l ne items).toS) s.heap.objs.size nf xs hx hi hb (items.size-0) 0 _ (by lia) {{_,zk _ rfl,rfl,rfl},(il.push _)} ?hS0 ?hR
    case hS0 =>
     have gg:=za {cls:=.type "list_iterator",data:=.fields #[.ref l,.int 0 0]} gS
     exact SetOf_congr ((setObjOf_fresh (knd:=strKind prog w) led).setOf gg<|by unfold scanBound;lia) (λ_=>rfl) rfl
    case hR =>
     intro s' hm q
     obtain⟨h',g',d',Tp,UO⟩:=s'
     have eg:g'=s.gens:=hm.gens;have ed:d'=s.drawn:=hm.drawn;have eo:UO=s.os:=hm.os
     subst eg;subst ed;subst eo
     show wpAny _ _ _ _ _ _;refine zy ?_;show wpAny _ _ (ret Value.none) _ _ _
     refine zy {rfl,h',Tp,rfl,q,λb o hb e=>?_}
     have b2:b≠(s.heap.push {cls:=.type "set",dict:=none,data:=.set #[] 0 (.fresh 0 0 led)}).objs.size:=by rw[yc];exact zD<|Nat.lt_succ_of_lt hb
     refine hm.heap b o ?_<|za _<|za _ e
     simp only[zi,zK,zH,or_false,not_or];exact{zD hb,b2}
   {cases r2 with|error e=>exact Z5|ok f2=>cases f2 with|ret r=>(obtain⟨rfl,h',tk,rfl,q,k'⟩:=Z5;(repeat (any_goals (first|assumption|wp_step)));exact h _ _ q k')|_=>exact Z5.elim}
  |_=>exact hr.elim
end
noncomputable def QO(P:Program)(w:World)(a:Addr)(xs:j4):HO:=.ext λh=>h.SetOf (strKind P w) a (λy=>decide<|y∈ja xs) (ja xs).length
theorem Md(q:h.SetOf (strKind P w) a (λy=>decide<|y∈ja xs) (ja xs).length):bp P w H h a (QO P w a xs):=by obtain⟨o,es,ep,t,ho,rest⟩:=id q;exact{q,⟨o,ho⟩,by rintro h1 h2 ⟨o,es,ep,t,ho,rest⟩ k;exact{o,es,ep,t,k _ ho,rest}}
theorem Av:∀{xs:j4}{ax:dL},Vals (xs.map V.str) ax->∀(i:Nat)(v:Value),ax[i]?=some v->∃x t,xs[i]?=some x/\v=.str x t|[],_,.nil,i,v,e=>by simp at e|x::xs,_,.cons r rs,0,v,e=>(by obtain⟨t,q⟩:=r;simp at e;exact{x,t,rfl,by rw[<-e];exact q})|x::xs,_,.cons r rs,i+1,v,e=>by obtain⟨y,t,e1,e2⟩:=Av rs i v (by simpa using e);exact{y,t,by simpa using e1,e2}
section
variable{X:Cx}
theorem Gi{P:Program}{w:World}{K:Frag}(hP:X.prog=P)(hw:X.w=w)(hK:X.K=K)(hc:X.calm=true): ee X (.type "set") (λvs H Q=>∃p xs,vs=[.ref p]/\iQ K H p (xs.map V.str)/\xs.length<4000/\∀l,H l=none->Q (.ref l) (upd H l<|QO P w l xs)):=by
 subst hP;subst hw;subst hK;intro pins s σ H vs us Q I r h;obtain⟨p,xs,rfl,hq,hz,q⟩:=h;obtain⟨u,rfl,rx⟩:=vals1 r;cases rx;obtain⟨ax,r',pl,_⟩:=I.list hq;have hlen:xs.length=ax.toArray.size:=by have:=r'.length;simpa using this
 refine Au (I.ok.hd hc) pl.isList hlen (λi v e=>Av r' i v<|by simpa using e) (by rw[<-hlen];unfold scanBound;lia) λh' tk qs kp=>?_;refine{.ref s.heap.objs.size,_,I.laid (t':=tk) (λb o e=>kp b o (zw e) e) (zr _)<|Md qs,rfl,q _<|I.aG.fresh<|zr _}
theorem Gj(hP:X.prog=P)(hw:X.w=w):ee X (.builtin "len") (λvs H Q=>∃a xs,vs=[.ref a]/\H a=some (QO P w a xs)/\Q (.int (ja xs).length) H):=by subst hP;subst hw;intro pins s σ H vs us Q I r h;obtain⟨a,xs,rfl,ha,q⟩:=h;obtain⟨u,rfl,rx⟩:=vals1 r;cases rx;obtain⟨⟨o,es,ep,t,ho,hex,hd,QP,QQ,hb,hf,hn⟩,_⟩:=I.aG a _ ha;refine call_len_set ho hex hd hf (by unfold scanBound at hb;lia) ?_;exact{.int (ja xs).length,H,I.tok _,{_,by rw[hn]},q}
end
theorem u3(l:j4):(ja l).length=l.length↔l.Nodup:=by
 have all:∀(r c:j4),c.Nodup->((r.foldl (λc x=>if x∈c then c else c++[x]) c).length=c.length+r.length↔(c++r).Nodup):=by intro r;induction r with|nil=>intro c hc;simpa using hc|cons x r ih=>intro c hc;rw[yL];by_cases h:x∈c;{rw[if_pos h];have le:(r.foldl (λc x=>if x∈c then c else c++[x]) c).length<=c.length+r.length:=(by have all2:∀(r c:j4),(r.foldl (λc x=>if x∈c then c else c++[x]) c).length<=c.length+r.length:=(by intro r;induction r with|nil=>intro c;simp|cons x r ih=>intro c;rw[yL];refine zI (ih _) ?_;split<;>simp<;>try lia);exact all2 r c);refine{λe=>by simp at e;lia,λe=>?_};exact absurd rfl<|(List.nodup_append.mp e).2.2 x h x<|by simp};rw[if_neg h];have Pq:(c++[x]).Nodup:=l_ hc h;have:=ih (c++[x]) Pq;simp only[zE,zQ,List.length_nil,List.append_assoc,List.singleton_append]at this⊢;rw[<-this];constructor<;>intro e<;>lia
 simpa [ja]using all l [] List.nodup_nil
theorem iE:entryFor table "dict.update.loop"= some Builtin.«dict.update.loop»:=entryFor_of_tree<|by kernel_rfl
theorem dh:plainId "dict.update.loop"= true:=by trivial
theorem uc:typeLookup (.type "tuple") "keys"= pure none:=by rw[typeLookup_type,builtinLookup_eq_fast];kernel_rfl
section
variable{prog:Program}{w:World}{A:Around}{E:li}{s:Shared}
theorem ud(hx:s.heap.get? a=some o)(hc:o.cls=.type "tuple")(Vq:o.data=.seq xs k)(hd:o.dict=none)(hA:A.handled=none)(h:∀h' tk,(∀b ob,s.heap.get? b=some ob->h'.get? b=some ob)->Q none {s with heap:=h',toks:=tk}):wpAny (model prog w) A (getAttr? (.ref a) "keys") Q E s:=by
 obtain⟨c,cj,dat,sl⟩:=o;simp only at hc Vq hd;subst hc Vq hd;obtain⟨hp,g,d,tk,os⟩:=s;have hT:∀Tp,(⟨hp,g,d,Tp,os⟩:Shared).TypeIs (.ref a) "tuple":=λ_=>{_,hx,rfl};have f1:=sub_AttributeError;have f3:=F.slot_tuple_getattribute.lookup;have f4:=F.slot_tuple_getattribute.bind<|.ref a;have f5:=am_tuple_getattr_none;unfold getAttr? getAttrBy? getAttrBy;repeat (any_goals (first|assumption|exact hT _|((with_reducible show wpAny _ _ (call (Value.builtin "tuple.__getattribute__") _ _) _ _ _);refine call_meets F.slot_tuple_getattribute (hT _) am_entry_tuple_getattribute (F.args_tuple_getattribute_2 _ _) (meets_getattribute_miss_tuple a xs k sl "keys" _ uc (by trivial)<|by size_fits) {hx,hA,λh' Tp e FI=>?_})|wp_step))
 obtain⟨t',u',he⟩:=FI.there;show wpAny _ _ (getattributeRaised _ _ _ _ _ _ _) _ _ _;unfold getattributeRaised;repeat (any_goals (first|assumption|wp_step))
 exact h _ _ FI.keeps
end
section
variable{prog:Program}{w:World}{A:Around}{R:Result->Shared->Prop}{I:Addr}{fp wr:im}{G:Array GenState->Array GenState->Prop}{n:Nat}{P:Nat->Value->Prop}{St:Nat->Shared->Prop}
theorem Gk(W:WalksS prog w A.in1 I fp wr G n P St)(D:Addr)(hDf:D∉fp)(kvs:sn)(hx:kvs.length=n)(base:Heap)(QK:∀i v,P i v->∃(b:Addr) (k:Key) (key val:Value) (o:Obj) (m:Nat),kvs[i]?=some (k,val)/\v=.ref b/\(aE prog w).is k key=true/\base.get? b=some o/\o.cls=.type "tuple"/\o.data=.seq #[key,val] m/\b≠D/\b∉wr)(hb:n<=sizeLine): ∀(k i:Nat) (s:Shared) (c:Int) (t:Tok),i+k=n->St i s->s.heap.DictOf (aE prog w) D (merged []<|kvs.take i)->(∀b o,base.get? b=some o->b≠D->b∉wr->s.heap.get? b=some o)->(∀s',Moved (D::wr) G s s'->s'.heap.DictOf (aE prog w) D (merged [] kvs)->R (.ok<|.ret .none) s')->codeAny (model prog w) A (.builtin "dict.update.loop" {[.ref D,.ref I,.int c t,.none],[]}) R s:=by have nw:D∉wr:=λh=>hDf<|W.sub _ h;have up:∀b∈wr,b∈D::wr:=λb hb=>zf _ hb;intro k;induction k with|zero=>(intro i s c t hk z_ hS hB hR;have e:i=n:=(by lia);subst e;refine yS iE ?_;rw[Around.under_plainId dh _];show wpAny _ A.in1 (pyNext (.ref I) >>=_) _ _ s;refine zc<|W.done s _ _ z_ λs' hm=>?_;show wpAny _ A.in1 (Builtin.Dict.addKeywords D [] >>=_) _ _ s';have q:s'.heap.DictOf (aE prog w) D (merged []<|kvs.take i):=(by obtain⟨o,es,ep,ho,rest⟩:=hS;exact{o,es,ep,hm.heap D _ nw ho,rest});rw[<-hx,yK]at q;exact zc<|zy<|zy<|hR s' (hm.mono up) q)|succ k ih=>intro i s c t hk z_ hS hB hR;have lt:i<n:=(by lia);refine yS iE ?_;rw[Around.under_plainId dh _];show wpAny _ A.in1 (pyNext (.ref I) >>=_) _ _ s;refine zc<|W.item i s _ _ lt z_ λv s' hP QL hm=>?_;obtain⟨b,ky,key,val,o,m,ek,rfl,P8,ho,hc,hd,hbD,hbw⟩:=QK i v hP;have q:s'.heap.DictOf (aE prog w) D (merged []<|kvs.take i):=(by obtain⟨o,es,ep,ho,rest⟩:=hS;exact{o,es,ep,hm.heap D _ nw ho,rest});have hb':s'.heap.get? b=some o:=hm.heap b o hbw<|hB b o ho hbD hbw;have room:(merged []<|kvs.take i).length<=sizeLine:=(by have:=merged_length_le ([]:sn)<|kvs.take i;rw[yp]at this;simp at this;lia);have tk:merged [] (kvs.take<|i+1)=stored (merged []<|kvs.take i) ky val:=merged_take_succ [] kvs i (ky,val) ek;refine zc<|yO<|zc<|wpAny_tryCatch ?_;unfold Builtin.Dict.pairItems;refine zc<|wpAny_typeOf (T:="tuple") ⟨o,hb',hc⟩ ?_;show wpAny _ A.in1 (seqItems? (.ref b) >>=_) _ _ s';refine zc<|wpAny_seqItems hb' hd<|zy ?_;show wpAny _ A.in1 (holding [key,val]<|dictSet D key val) _ _ s';refine yO<|wpAny_dictSet_pairs P8 q (λh' q2 Mc=>?_) room;rw[<-tk]at q2;refine zy {plainId_quiet dh _,ih (i+1) _ _ _ (by lia) (W.frame _ s' _ _ QL (yV _) λb hb o e=>?_) q2 (λb o e h1 h2=>?_) λCr QM Z4=>?_};rw[Mc.2 b (λh:b=D=>hDf<|by rw[<-h];exact hb)];exact e;rw[Mc.2 b h1];exact hm.heap b o h2<|hB b o e h1 h2;refine hR Cr (Moved.trans W.gtrans ((hm.mono up).then_heap (yV _) λb o hb e=>?_) QM) Z4;rw[Mc.2 b (λh:b=D=>hb<|by rw[h];exact zj)];exact e
theorem ue(hh:A.handled=none)(gl:s.heap.get? l=some ol)(cl:ol.cls=.type "tuple")(dl:ol.data=.seq items m)(nl:ol.dict=none)(hx:kvs.length=items.size)(hi:∀(i:Nat) (v:Value),items[i]?=some v->∃(b:Addr) (k:Key) (key val:Value) (o:Obj) (m:Nat),kvs[i]?=some (k,val)/\v=.ref b/\(aE prog w).is k key=true/\s.heap.get? b=some o/\o.cls=.type "tuple"/\o.data=.seq #[key,val] m)(hb:items.size<=sizeLine)(h:∀(h':Heap) (tk:Nat),h'.DictOf (aE prog w) s.heap.objs.size (merged [] kvs)->(∀b o,s.heap.get? b=some o->h'.get? b=some o)->Q (.ref s.heap.objs.size) {s with heap:=h',toks:=tk}): wpAny (model prog w) A (call (.type "dict") [.ref l]) Q E s:=by
 refine callType_codes (Q₁:=λobj aU=>obj=.ref s.heap.objs.size/\aU={s with heap:=s.heap.push {cls:=.type "dict",data:=.dict #[]}}) F.kt_called_dict (F.kt_typeCall_dict_1 _) F.entry_dict_init (kt_code_dict_new _ ⟨rfl,rfl⟩) ?_;rintro obj aU ⟨rfl,rfl⟩;have QR:(s.heap.push {cls:=.type "dict",data:=.dict #[]}).DictOf (aE prog w) s.heap.objs.size []:=Heap.DictOf.new s.heap;have Vp:(s.heap.push {cls:=.type "dict",data:=.dict #[]}).get? l=some ol:=za _ gl;refine{QR.typeIs,F.args_dict_init_2 _ _,?_};unfold Builtin.«dict.__init__»;refine zc ?_;unfold Builtin.Dict.selfAndRest;refine zc<|wpAny_notOrdered_dict QR.typeIs ?_;show wpAny _ _ (pure (s.heap.objs.size,[Value.ref l])) _ _ _;refine zy ?_;show wpAny _ _ (Builtin.Dict.updateFrom "dict.__init__" s.heap.objs.size (.ref l) [] .none) _ _ _;unfold Builtin.Dict.updateFrom;refine zc<|wpAny_typeOf (T:="tuple") ⟨ol,Vp,cl⟩ ?_;rw[if_pos<|by decide];have h3:A.in1.in1.handled=none:=by simp[hh]
 refine zc<|ud Vp cl dl nl h3 λh1 tk1 X_=>?_;have g1:h1.get? l=some ol:=X_ _ _ Vp;have d1:h1.DictOf (aE prog w) s.heap.objs.size []:=by obtain⟨o,es,ep,ho,rest⟩:=QR;exact{o,es,ep,X_ _ _ ho,rest}
 have lD:s.heap.objs.size<h1.objs.size:=by obtain⟨o,es,ep,ho,rest⟩:=d1;exact zw ho
 have ll:l<s.heap.objs.size:=zw gl;show wpAny _ _ (rule _ >>=_) _ _ _;refine zc<|yY ?_;have it1:h1.IsTuple l items:=⟨ol,g1,cl,m,dl⟩;refine zc<|wpAny_pyIter_tuple (s:=⟨h1,s.gens,s.drawn,tk1,s.os⟩) it1 ?_;have ne:l≠h1.objs.size:=zD<|Nat.lt_trans ll lD;have nf:s.heap.objs.size∉[h1.objs.size,l]:=by simp only[zi,zK,zH,or_false,not_or];exact{zD lD,yr ll}
 refine zy {plainId_quiet dh _,?_};refine Gk ((Walks.tuple h3 _ l ne items).toS) s.heap.objs.size nf kvs hx s.heap (λi v e=>?_) hb (items.size-0) 0 _ _ _ (by lia) {{_,zk _ rfl,rfl,rfl},it1.push _} ?hS0 ?hB ?hR;obtain⟨b,k,key,val,o,m',e1,e2,e3,e4,e5,e6⟩:=hi i v e;have lb:=zw e4;exact{b,k,key,val,o,m',e1,e2,e3,e4,e5,e6,zD lb,by simp;exact zD<|Nat.lt_trans lb lD};case hS0=>exact d1.push _
 case hB=>exact λb o e Gm Z6=>za _<|X_ _ _<|za _ e
 case hR =>
  intro s' hm q
  obtain⟨h',g',d',Tp,UO⟩:=s'
  have eg:g'=s.gens:=hm.gens;have ed:d'=s.drawn:=hm.drawn;have eo:UO=s.os:=hm.os
  subst eg;subst ed;subst eo
  refine{rfl,h h' Tp q λb o e=>?_}
  have lb:=zw e
  refine hm.heap b o ?_<|za _<|X_ _ _<|za _ e
  simp only[zi,zK,zH,or_false,not_or];exact{zD lb,zD<|Nat.lt_trans lb lD}
end
noncomputable def Et(l:ge):fv:=l.foldl (λc p=>putK c (.inr p.1) p.2) []
def Prs(H:Hp)(ps:cr)(kvs:ge):Prop:=kvs.length=ps.length/\∀(i:Nat)(x:V)(p:Str×V),ps[i]?=some x->kvs[i]?=some p->∃b,x=.ref b/\H b=some (.tup [.str p.1,p.2])
section
variable{X:Cx}
theorem CF(hc:X.calm=true):ee X (.type "dict") (λvs H Q=>∃p ps kvs,vs=[.ref p]/\H p=some (.tup ps)/\Prs H ps kvs/\∀l,H l=none->Q (.ref l) (upd H l<|.dK<|Et kvs)):=by
 intro pins s σ H vs us Q I r h;obtain⟨p,ps,kvs,rfl,hp,⟨hl,hq⟩,q⟩:=h;obtain⟨u,rfl,rx⟩:=vals1 r;cases rx;obtain⟨hz,ax,rv,ol,gl,cl,nl,m,dl⟩:=(show bp X.prog X.w H s.heap p (.tup ps) from I.aG p _ hp);have hlen:=rv.length;have each:∀(i:Nat)(x:V)(pr:Str×V),ps[i]?=some x->kvs[i]?=some pr->∃(b:Addr)(key val:Value)(o:Obj)(m:Nat),ax[i]?=some (.ref b)/\(aE X.prog X.w).is (.inr pr.1) key=true/\RelV pr.2 val/\s.heap.get? b=some o/\o.cls=.type "tuple"/\o.data=.seq #[key,val] m:=by intro i x pr e1 e2;obtain⟨b,rfl,hb⟩:=hq i x pr e1 e2;obtain⟨u,e3,ru⟩:=rv.get e1;cases ru;obtain⟨_,it2,r2,o,go,co,no,m2,do2⟩:=(show bp X.prog X.w H s.heap b (.tup [.str pr.1,pr.2]) from I.aG b _ hb);obtain⟨k',v',rfl,⟨tk,rfl⟩,rv'⟩:=r2.two;exact{b,_,v',o,m2,e3,iZ _ _ _ _,rv',go,co,by simpa using do2}
 have kv:∃vals:sn,KV (kvs.map λp=>((.inr p.1:Key),p.2)) vals/\∀(i:Nat)(x:V),ps[i]?=some x->∃(b:Addr)(k:Key)(key val:Value)(o:Obj)(m:Nat),vals[i]?=some (k,val)/\ax[i]?=some (.ref b)/\(aE X.prog X.w).is k key=true/\s.heap.get? b=some o/\o.cls=.type "tuple"/\o.data=.seq #[key,val] m:=by clear hp q rv dl hz;induction kvs generalizing ps ax with|nil=>refine{[],.nil,λi x e=>?_};have:ps=[]:=List.eq_nil_of_length_eq_zero (by simpa using hl.symm);subst this;simp at e|cons pr r ih=>cases ps with|nil=>simp at hl|cons y ys=>cases ax with|nil=>simp at hlen|cons w0 ws=>obtain⟨b,key,val,o,m,e1,e2,e3,e4,e5,e6⟩:=each 0 y pr rfl rfl;obtain⟨vals,k1,k2⟩:=ih ys (by simpa using hl) (λi x p a b=>hq (i+1) x p (by simpa using a)<|by simpa using b) ws (by simpa using hlen) (λi x p a b=>by simpa using each (i+1) x p (by simpa using a) (by simpa using b));refine{(.inr pr.1,val)::vals,.cons ⟨rfl,e3⟩ k1,λi x e=>?_};cases i with|zero=>exact{b,.inr pr.1,key,val,o,m,rfl,e1,e2,e4,e5,e6}|succ i=>simpa using k2 i x (by simpa using e)
 obtain⟨vals,kv1,kv2⟩:=kv;have lv:vals.length=ax.length:=by have:=kv1.length;rw[zb]at this;lia
 refine ue (kvs:=vals) (I.ok.hd hc) gl cl dl nl (by simpa using lv) (λi v e=>?_) (by simp;lia) λh' tk qs kp=>?_;have e':ax[i]?=some v:=by simpa using e
 have hi:i<ax.length:=(ze.mp e').1;obtain⟨b,k,key,val,o,m',e1,e2,e3,e4,e5,e6⟩:=kv2 i (ps[i]'(by lia))<|zg _;rw[e']at e2;exact{b,k,key,val,o,m',e1,zT e2,e3,e4,e5,e6};have rel:KV (Et kvs) (merged [] vals):=by have all:∀(l:ge)(vl:sn)(c:fv)(cv:sn),KV (l.map λp=>((.inr p.1:Key),p.2)) vl->KV c cv->KV (l.foldl (λc p=>putK c (.inr p.1) p.2) c) (merged cv vl):=(by intro l;induction l with|nil=>(intro vl c cv h1 h2;cases h1;exact h2)|cons p r ih=>intro vl c cv h1 h2;cases h1 with|@cons _ q _ qs r1 r2=>obtain⟨k,v⟩:=q;obtain⟨rfl,rv⟩:=r1;exact ih qs _ _ r2<|h2.put _ rv);exact all kvs vals [] [] kv1 .nil
 have big:=I.big;refine{.ref s.heap.objs.size,_,I.laid (t':=tk) (λb o e=>kp b o e) (zr _) (o:=.dK<|Et kvs) {?_,?_,_,rel,qs},rfl,q _<|I.aG.fresh<|zr _};have e1:=rel.length;have e2:=merged_length_le ([]:sn) vals;simp at e2;lia;simp;exact yr big
def Vr(K:Frag):R2:=λx y H Q=>∃a b xs ys,x=.ref a/\y=.ref b/\gu K H a xs/\gu K H b ys/\xs.length+ys.length<=sizeLine/\(xs=[]->Q (.ref b) H)/\(xs≠[]->ys=[]->Q (.ref a) H)/\(xs≠[]->ys≠[]->∀p,H p=none->Q (.ref p) (upd H p<|.tup<|xs++ys))
theorem Me:gv X (binaryOp .Add) (Vr X.K):=by intro pins s σ H x y v u Q I rx ry h;obtain⟨a,b,xs,ys,rfl,rfl,ha,hb,hz,q0,q1,q2⟩:=h;by_cases hx:xs=[];cases rx;cases ry;obtain⟨ax,r1,p1,_⟩:=I.tuple ha;obtain⟨nS,r2,p2,_⟩:=I.tuple hb;obtain⟨⟨cls,dd,data,sl⟩,ho,hc,n,hd⟩:=id p1;obtain⟨⟨Zv,Td,data2,K5⟩,LJ,LK,n2,hd2⟩:=id p2;simp only at hc hd LK hd2;subst hc hd LK hd2;have e:ax=[]:=r1.qH.mpr hx;exact concat_meets {_,ho,rfl} {_,LJ,rfl} noFill_tuple_add seq_tuple_add PySem.F.slot_tuple_add PySem.F.entry_tuple_add (PySem.F.args_tuple_add_2 _ _) (tuple_addW0 a b ax.toArray nS.toArray n n2 dd Td sl K5<|by simp[e]) {ho,LJ,.ref b,H,I,rfl,q0 hx};exact LO pins s σ H _ _ v u Q I rx ry {a,b,xs,ys,rfl,rfl,ha,hb,hx,hz,q1 hx,q2 hx}
theorem Z7(h:n<=1000):n<=sizeLine:=yN<|jU h
end
abbrev mh(h:Heap)(T:Addr)(arr:Array Value):Prop:=h.get? T=some {cls:=.type "tuple",data:=.seq arr}
theorem wj(hs:Heap.ExtBut b h h')(n:a≠b)(x:h.IsTupleIter a l i):h'.IsTupleIter a l i:=x.extBut hs n
theorem N_{h h':Heap}{a l:Addr}{i:Nat}(k:∀o,h.get? a=some o->h'.get? a=some o)(x:h.IsTupleIter a l i):h'.IsTupleIter a l i:=by obtain⟨o,e,r⟩:=x;exact{o,k o e,r}
section
variable{prog:Program}{w:World}{A:Around}{E:li}{s:Shared}
theorem Z8(h:n<=3):n<=sizeLine:=Z7<|zI h<|by decide
theorem Gn(hT:mh s.heap T arr)(hz:arr.size<=3)(h:∀h',mh h' T (arr.setIfInBounds k x)->Heap.SameBut T s.heap h'->Q () {s with heap:=h'}):wpAny (model prog w) A (updateSeq T (·.setIfInBounds k x)) Q E s:=by refine wpAny_updateSeq hT rfl (h _ ?_<|yH ..) (hz:=Z8 hz) (_hz':=by have:=Z8 hz;simp;lia);show Heap.get? _ _=_;rw[yz _ hT rfl];simp[Obj.mapSeq]
theorem CG(hit:s.heap.IsTupleIter it l i)(hl:s.heap.IsTuple l items)(hx:items[i]?=some x)(hQ:∀h',h'.IsTupleIter it l (i+1)->Heap.SameBut it s.heap h'->Q x {s with heap:=h'}): wpAny (model prog w) A (Builtin.SmallTypes.nextOf<|.ref it) Q E s:=by obtain⟨o,ho,hc,hd⟩:=id hit;obtain⟨ol,QS,_,nl,Gq⟩:=hl;unfold Builtin.SmallTypes.nextOf;refine zc<|wpAny_callSpecial?_slot (name:=Str.ofString "__next__") hit.typeIs F.slot_tuple_iterator_next<|yP F.slot_tuple_iterator_next hit.typeIs F.entry_tuple_iterator_next ?_<|F.args_tuple_iterator_next_1 _;show wpAny _ _ (field (.ref it) 0 >>=_) _ _ s;refine zc<|yg ho hd (x:=.ref l) rfl ?_;show wpAny _ _ (if (Value.ref l==Value.none)=true then _ else _) _ _ s;rw[if_neg<|show ¬((Value.ref l==Value.none)=true) from zd];show wpAny _ _ (field (.ref it) 1 >>=_) _ _ s;refine zc<|yg ho hd (x:=.int i 0) rfl ?_;show wpAny _ _ (seqItems? (.ref l) >>=_) _ _ s;refine zc<|wpAny_seqItems QS Gq ?_;simp only[Int.toNat_natCast,hx];refine zc<|yU ho hd (by simp)<|zy {x,rfl,zy<|hQ _ {_,yz _ ho<|Obj.isFreed_of_fields<|yD hd _,(Obj.cls_mapFields ..).trans hc,by rw[yD hd];simp[rawInt]}<|yH ..}
theorem rF(hh:A.handled=none)(hit:s.heap.IsTupleIter it l i)(hl:s.heap.IsTuple l items)(hx:items[i]?=none)(hE:∀h' e,Heap.ExtBut it s.heap h'->(∃o,h'.get? e=some o/\o.cls=.type "StopIteration")->E (.ref e) {s with heap:=h'}):wpAny (model prog w) A (Builtin.SmallTypes.nextOf<|.ref it) Q E s:=by
 obtain⟨o,ho,hc,hd⟩:=id hit;obtain⟨ol,QS,_,nl,Gq⟩:=hl;unfold Builtin.SmallTypes.nextOf;refine zc<|wpAny_callSpecial?_slot (name:=Str.ofString "__next__") hit.typeIs F.slot_tuple_iterator_next<|yP F.slot_tuple_iterator_next hit.typeIs F.entry_tuple_iterator_next ?_<|F.args_tuple_iterator_next_1 _;show wpAny _ _ (field (.ref it) 0 >>=_) _ _ s;refine zc<|yg ho hd (x:=.ref l) rfl ?_;show wpAny _ _ (if (Value.ref l==Value.none)=true then _ else _) _ _ s;rw[if_neg<|show ¬((Value.ref l==Value.none)=true) from zd];show wpAny _ _ (field (.ref it) 1 >>=_) _ _ s;refine zc<|yg ho hd (x:=.int i 0) rfl ?_;show wpAny _ _ (seqItems? (.ref l) >>=_) _ _ s;refine zc<|wpAny_seqItems QS Gq ?_;simp only[Int.toNat_natCast,hx];refine zc<|yY<|zc<|yU ho hd (by simp) ?_;show wpAny _ _ (newExc (.type "StopIteration") [] >>=_) _ _ _;refine zc ?_;simp only[newExc,newTuple];refine zc<|yG ?_ (by size_fits);refine zc (m:=firstArgMember _ _)<|yZ (a:=Value.none) (by first|rfl|(simp only[firstArgMember];rfl)) ?_;refine yG ?_ (by size_fits);simp only[raiseNew];refine zc<|wpAny_handled ?_;first|rw[show A.in1.handled=none from hh]|rw[hh]
 refine zc<|zy<|wpAny_throw<|hE _ _ (((yH ..).extBut.push _).push _) {_,zk _ rfl,rfl}
end
def ZS2(n l0 l1:Nat)(i:Nat)(h:Heap):Prop:=IsZip h (n+4) (n+2) (n+3) .none/\mh h (n+2) #[.ref n,.ref<|n+1]/\(∃arr:ii,arr.size=2/\mh h (n+3) arr)/\h.IsTupleIter n l0 i/\h.IsTupleIter (n+1) l1 i
section
variable{X:Cx}{pins:io}{σ:St}{H:Hp}{s:Shared}{h':Heap}
theorem Inv.Mf(I:Inv X pins σ H s)(wr:im)(hw:∀b∈wr,t5 X pins H b)(k:∀b o,b∉wr->s.heap.get? b=some o->h'.get? b=some o):Inv X pins σ H {s with heap:=h',toks:=t'}:=by refine I.step (g':=s.gens) (d':=s.drawn) (ch:=wr) (λb hb=>by obtain⟨_,a,_,c,d,e⟩:=hw b hb;exact⟨c,a,d,e⟩) (λb o _ _ hc e _=>k b o hc e) (λb o _ _ hc e _=>{o.slots,k b o hc e}) (λ_ _ _ _ n=>n) (λb o hc e=>{o,k b o hc e}) (λ_ _ e=>e) (λ_ _ _ e=>e) (λb ps e=>{#[],by rw[e];simp}) (λm hm=>?_) (λb u e=>?_) I.bare;obtain⟨o,es,ep,ho,r⟩:=hm;exact{o,es,ep,k _ o (λz=>(hw _ z).2.1 rfl) ho,r};refine(I.aG b u e).p_ (λc v hc q=>k c v (λz=>?_) q) (λ_ q=>q) λ_ _ q=>q;have n:=(hw c z).1;rcases hc with rfl|hc;rw[n]at e;cases e;rw[n]at hc;cases hc
theorem Inv.Mg(I:Inv X pins σ H s)(wr:im)(hw:∀b∈wr,t5 X pins H b)(k:∀b o,b∉wr->s.heap.get? b=some o->h'.get? b=some o)(hT:s.heap.get? T=none)(new:bp X.prog X.w (upd H T o) h' T o): Inv X pins σ (upd H T o) {s with heap:=h',toks:=t'}:=by
 have fr:H T=none:=by cases q:H T with|none=>rfl|some u=>obtain⟨z,e⟩:=(I.aG T u q).get;rw[hT]at e;cases e
 have ne:∀b u,H b=some u->b≠T:=λb u e z=>by rw[z,fr]at e;cases e
 refine I.step (g':=s.gens) (d':=s.drawn) (ch:=wr) (λb hb=>by obtain⟨_,a,_,c,d,e⟩:=hw b hb;exact⟨c,a,d,e⟩) (λb o _ _ hc e _=>k b o hc e) (λb o _ _ hc e _=>{o.slots,k b o hc e}) (λb ob _ e n=>?_) (λb o hc e=>{o,k b o hc e}) (λb xs e=>by rw[aw<|ne b _ e];exact e) (λb ob u e=>by rw[aw<|ne b _ e];exact e) (λb ps e=>{#[],by rw[aw<|ne b _ e,e];simp}) (λm hm=>?_) (λb u e=>?_) I.bare;have:b≠T:=λz=>by rw[z,hT]at e;cases e
 rw[aw this];exact n;obtain⟨o,es,ep,ho,r⟩:=hm;exact{o,es,ep,k _ o (λz=>(hw _ z).2.1 rfl) ho,r};by_cases hb:b=T;subst hb;rw[aD]at e;cases e;exact new;rw[aw hb]at e;refine(I.aG b u e).p_ (λc v hc q=>k c v (λz=>?_) q) (λc q=>by rw[aw<|ne c _ q];exact q) λc xs q=>by rw[aw<|ne c _ q];exact q
 have n:=(hw c z).1;rcases hc with rfl|hc;rw[n]at e;cases e;rw[n]at hc;cases hc
end
noncomputable abbrev Mh(h:Heap)(l0:Addr):Heap:=(h).push {cls:=.type "tuple_iterator",data:=.fields #[.ref l0,.int 0 0]}
noncomputable abbrev Mi(h:Heap)(l0 l1:Addr):Heap:=(Mh h l0).push {cls:=.type "tuple_iterator",data:=.fields #[.ref l1,.int 0 0]}
noncomputable abbrev Mj(h:Heap)(l0 l1:Addr):Heap:=(Mi h l0 l1).push {cls:=.type "tuple",data:=.seq #[.ref h.objs.size,.ref (Mh h l0).objs.size]}
noncomputable abbrev Ml(h:Heap)(l0 l1:Addr):Heap:=(Mj h l0 l1).push {cls:=.type "tuple",data:=.seq #[.none,.none]}
noncomputable abbrev CJ(h:Heap)(l0 l1:Addr):Heap:=(Ml h l0 l1).push {cls:=.type "zip",data:=.fields #[.none,.bool false,.bool false,.ref (Mi h l0 l1).objs.size,.ref (Mj h l0 l1).objs.size]}
theorem CK(l0 l1:Addr)(CH CI:ii):Meets (Builtin.«zip.__new__» {[.type "zip",.ref l0,.ref l1],[]}) (λ_ R s=>s.heap.IsTuple l0 CH/\s.heap.IsTuple l1 CI/\R (.ok<|.ret<|.ref (Ml s.heap l0 l1).objs.size) {s with heap:=CJ s.heap l0 l1}):=.of_wp λprog w A R s h=>by obtain⟨hp,g,d,tk,os⟩:=s;obtain⟨t0,t1,h⟩:=h;have Z9:=sub_zip;have L0:Heap.IsTuple (Shared.heap ⟨hp,g,d,tk,os⟩) l0 CH:=t0;have L1:Heap.IsTuple (Shared.heap {hp.push {cls:=.type "tuple_iterator",data:=.fields #[.ref l0,.int 0 0]},g,d,tk,os}) l1 CI:=Heap.IsTuple.push (t1) _;wp_walk using wpAny_pyIter_tuple L0,wpAny_pyIter_tuple L1;exact{_,rfl,h}
theorem CL(t0:s.heap.IsTuple l0 CH)(t1:s.heap.IsTuple l1 CI)(h:∀h',ZS2 s.heap.objs.size l0 l1 0 h'->(∀c o,s.heap.get? c=some o->h'.get? c=some o)->Q (.ref<|s.heap.objs.size+4) {s with heap:=h'}):wpAny (model prog w) A (call (.type "zip") [.ref l0,.ref l1]) Q E s:=by
 refine callType_new F.called_zip (by decide) (F.typeCall_zip_2 _ _) (F.newCall_zip_2 _ _) (λobj=>F.args_object_init_3 obj _ _) F.entry_zip_new (CK l0 l1 CH CI) {t0,t1,?_};have z1:(Mh s.heap l0).objs.size=s.heap.objs.size+1:=yc ..;have z2:(Mi s.heap l0 l1).objs.size=s.heap.objs.size+2:=by rw[yc,z1]
 have z3:(Mj s.heap l0 l1).objs.size=s.heap.objs.size+3:=by rw[yc,z2]
 have z4:(Ml s.heap l0 l1).objs.size=s.heap.objs.size+4:=by rw[yc,z3]
 have z5:(CJ s.heap l0 l1).objs.size=s.heap.objs.size+5:=by rw[yc,z4]
 have g0:(CJ s.heap l0 l1).get? (s.heap).objs.size=some _:=za _<|za _<|za _<|za _<|zk _ rfl;have g1:(CJ s.heap l0 l1).get? (Mh s.heap l0).objs.size=some _:=za _<|za _<|za _<|zk _ rfl;have g2:(CJ s.heap l0 l1).get? (Mi s.heap l0 l1).objs.size=some _:=za _<|za _<|zk _ rfl;have g3:(CJ s.heap l0 l1).get? (Mj s.heap l0 l1).objs.size=some _:=za _<|zk _ rfl;have g4:(CJ s.heap l0 l1).get? (Ml s.heap l0 l1).objs.size=some _:=zk _ rfl;show _/\_;rw[z2,z3,z4]at g4;rw[z3]at g3;rw[z1,z2]at g2;rw[z1]at g1;rw[z4];exact{{_,g4,rfl},h _ {g4,g2,!⟨g3⟩,{_,g0,rfl,rfl},{_,g1,rfl,rfl}} λc o x=>za _<|za _<|za _<|za _<|za _ x}
def Mm(K:Frag):V->List V->Hp->VK->Prop:=λx vs H Q=>∃(a:Addr)(xs:cr)(y z:V)(j:Nat),x=.ref a/\vs=[y]/\iQ K H a xs/\gH y=true/\xs.all gH=true/\xs[j]?=some z/\eqV z y=true/\(∀m u,m<j->xs[m]?=some u->eqV u y=false)/\Q (.int j) H
theorem Gr:Te X "list.index" (Mm X.K):=by
 intro pins s σ H x vs v us Q I rx rv h;obtain⟨a,xs,y,z,j,rfl,rfl,hq,fy,fx,hj,hit,QT,q⟩:=h;cases rx;obtain⟨u,rfl,ru⟩:=rv.one;obtain⟨ax,r,p,hz⟩:=I.list hq;obtain⟨⟨cls,dd,data,sl⟩,ho,hc,n,hd⟩:=p.isList;simp only at hc hd;subst hc hd;have hl:=r.length;have eI:j<xs.length:=(ze.mp hj).1;have fl:∀(m:Nat)(w:V),xs[m]?=some w->gH w=true:=λm w e=>zR.mp fx w<|zG e;have at':∀(m:Nat)(hm:m<ax.toArray.size)(w:V),xs[m]?=some w->HZ y ax.toArray[m]=eqV w y:=λm hm w e=>by obtain⟨u',e',Z_⟩:=r.get e;have:ax.toArray[m]=u':=(by have:=ze.mp e';simpa using this.2);rw[this];exact Ct Z_<|fl m w e
 have hs:sizeLine=16777216:=yf;refine call_meets PySem.F.slot_list_index {_,ho,rfl} PySem.F.entry_list_index (PySem.F.args_list_index_2 _ _) (SeqAt.list_indexAt a ax.toArray n dd sl u (HZ y) j (by simp;lia) (by lia) ?_ ?_) {ho,λw hw=>l8 ru fy r fx w<|by simpa using hw,{.int j,H,I.tok _,{_,rfl},q}};rw[at' j _ z hj];exact hit;intro m hm hmj;have hmx:m<xs.length:=by lia
 rw[at' m hm _<|zg hmx];exact QT m _ hmj<|zg hmx
def Vs:R2:=λx y H Q=>∃z n,x=.str z/\y=.int n/\MulOk z n/\Q (.str<|PySem.Txt.mul z n) H
theorem CM:gv X (binaryOp .Mult) Vs:=by intro pins s σ H x y v u Q I rx ry h;obtain⟨z,n,rfl,rfl,hm,q⟩:=h;obtain⟨t,rfl⟩:=rx;obtain⟨t',rfl⟩:=ry;exact SB.mul hm λt'' k=>{.str _,H,I.tok k,{_,rfl},q}
def Hv(w:World)(K:Frag)(a:Addr)(kvs:ge):Prop:=(a==sysModules)=false/\∃(o:Obj)(es:Array DictEntry)(ep:Nat),K.lookup a=some o/\o.ExactDict/\o.data=.dict es ep/\Paired (λ(e:DictEntry)(kv:Str×V)=>e.hash=hashStr w kv.1/\(∃t,e.key=.str kv.1 t)/\RelV kv.2 e.val) es.toList kvs/\(kvs.map Prod.fst).Nodup
theorem mi(z:Str):∀kvs:ge,fQ (kvs.map λp=>((.inr p.1:Key),p.2)) (.inr z)=kvs.lookup z
 |[]=>rfl
 | (x,v)::r=>by
  rw[zt,zX];by_cases e:z=x;subst e;rw[rf rfl];simp;have e1:(z==x)=false:=by simpa using e
  rw[rh λq=>e (yM q).symm,e1];exact mi z r
section
variable{X:Cx}{pins:io}{σ:St}{H:Hp}{s:Shared}{a:Addr}{kvs:ge}
theorem wm(I:Inv X pins σ H s)(d:Hv X.w X.K a kvs):(a==sysModules)=false/\∃vs,KV (kvs.map λp=>((.inr p.1:Key),p.2)) vs/\s.heap.DictOf (aE X.prog X.w) a vs:=by
 obtain⟨ns,o,es,ep,hk,hx,hd,hp,hn⟩:=d;have all:∀(es:List DictEntry)(kvs:ge),Paired (λ(e:DictEntry)(kv:Str×V)=>e.hash=hashStr X.w kv.1/\(∃t,e.key=.str kv.1 t)/\RelV kv.2 e.val) es kvs->∃vs:sn,KV (kvs.map λp=>((.inr p.1:Key),p.2)) vs/\Pairs (aE X.prog X.w) es vs/\vs.map (·.1)=kvs.map (λp=>(.inr p.1:Key))/\∀e∈es,∃k,(aE X.prog X.w).is k e.key=true/\e.hash=(aE X.prog X.w).hash k:=by intro es kvs hp;induction hp with|nil=>exact{[],.nil,.nil,rfl,by simp}|@cons e kv XZ kvs' h t ih=>obtain⟨vs,k1,k2,k3,k4⟩:=ih;obtain⟨h1,⟨tk,h2⟩,h3⟩:=h;have hi:(aE X.prog X.w).is (.inr kv.1) e.key=true:=(by rw[h2];exact iZ _ _ _ _);refine{(.inr kv.1,e.val)::vs,.cons ⟨rfl,h3⟩ k1,.cons hi rfl k2,by rw[zt,zt,k3],λe' he=>?_};rcases zi.mp he with rfl|he;exact{.inr kv.1,hi,h1};exact k4 e' he
 obtain⟨vs,k1,k2,k3,k4⟩:=all _ _ hp;refine{ns,vs,k1,o,es,ep,I.ph a o hk,hx,hd,λe he=>k4 e<|by simpa using he,k2,?_};rw[k3];have:(kvs.map λp=>(.inr p.1:Key))=(kvs.map Prod.fst).map Sum.inr:=by rw[zq];rfl
 rw[this];exact List.Pairwise.map _ (λx y h q=>h<|yM q) hn
theorem IH{w:World}{K:Frag}(hw:X.w=w)(hK:X.K=K):gv X (compareOp .In) (λx y H Q=>∃z a kvs,x=.str z/\y=.ref a/\Hv w K a kvs/\Q (.bl (kvs.lookup z).isSome) H):=by subst hw hK;intro pins s σ H x y v u Q I rx ry h;obtain⟨z,a,kvs,rfl,rfl,d,q⟩:=h;cases ry;obtain⟨ns,vs,rel,dd⟩:=wm I d;refine wpAny_in_of (iC (k:=.inr z) rx) ns dd.mapOf ?_;rw[<-(rel.val<|.inr z).nV,mi];exact{.bl _,H,I.tok _,rfl,q}
def aaa(w:World)(K:Frag):R2:=λx y H Q=>∃a z kvs v,x=.ref a/\y=.str z/\Hv w K a kvs/\kvs.lookup z=some v/\Q v H
def Vt(w:World)(K:Frag):V->List V->Hp->VK->Prop:=λx vs H Q=>∃a z kvs,x=.ref a/\vs=[.str z]/\Hv w K a kvs/\Q ((kvs.lookup z).getD .au) H
theorem Mn{w:World}{K:Frag}(hw:X.w=w)(hK:X.K=K):Te X "dict.get" (Vt w K):=by subst hw hK;intro pins s σ H x vs v us Q I rx rv h;obtain⟨a,z,kvs,rfl,rfl,d,q⟩:=h;cases rx;obtain⟨u,rfl,ru⟩:=rv.one;obtain⟨ns,vs,rel,dd⟩:=wm I d;refine call_meetsIn yB dd.typeIs PySem.F.entry_dict_get (PySem.F.args_dict_get_2 _ _) (meets_dict_get (aE X.prog X.w) a (iC (k:=.inr z) ru) ns) {_,dd.mapOf,_,H,I.tok _,?_,q};rw[<-mi];exact(rel.val<|.inr z).getD rfl
theorem II{w:World}{K:Frag}{o i:Expr}{pos:Pos}{td ty:TE}(hw:X.w=w)(hK:X.K=K)(ho:PE X o td)(hi:PE X i ty)(hs:Qq i):PE X (.Subscript o i pos) (PY (aaa w K) td ty):=by subst hw hK;intro pins s σ H Q I h;refine LQ PySem.F.slot_dict_getitem.lookup hs<|ba (ho pins s σ H _ I h) λu s1 ⟨x,H1,I1,rx,q1⟩=>ba (hi pins s1 σ H1 _ I1 q1) ?_;rintro iv s2 ⟨y,H2,I2,ry,a,z,kvs,v,ex,ey,d,l,q2⟩;subst ex ey;cases rx;obtain⟨ns,vs,rel,dd⟩:=wm I2 d;obtain⟨w',hw,l6⟩:=fj.some_of (v:=v) (o:=valueAt vs<|.inr z) (by rw[<-l,<-mi];exact rel.val<|.inr z);exact{dd.typeIs,wpAny_getItem_of (iC (k:=.inr z) ry) dd.mapOf hw {v,H2,I2.tok _,l6,q2}}
theorem IJ{w:World}{K:Frag}{o e:Expr}{apos aP:Pos}{td ty:TE}(hw:X.w=w)(hK:X.K=K)(ho:PE X o td)(he:PE X e ty)(m:M1 X o "get" apos e aP):PE X (.Call (.Attribute o "get" apos) [e] [] aP) (λσ H Q=>td σ H λx H1=>∃a kvs,x=.ref a/\Hv w K a kvs/\ty σ H1 λy H2=>∃z,y=.str z/\Q ((kvs.lookup z).getD .au) H2):=by subst hw hK;intro pins s σ H Q I h;refine wpAny_Call_method m.base m.Ep m.line PySem.F.plainAttrs_dict yB PySem.F.type_dict_get<|ba (ho pins s σ H _ I h) ?_;rintro u s1 ⟨x,H1,I1,rx,a,kvs,ex,d,q1⟩;subst ex;obtain rfl:u=Value.ref a:=rx;obtain⟨ns,vs,rel,dd⟩:=wm I1 d;obtain⟨ob,_,_,h1,h2,_⟩:=id dd;refine{dd.typeIs,λb q=>by cases q;exact⟨ob,h1,h2.2.1⟩,?_};rw[m.trees];refine yu rfl<|Calls.evalArgs_plain<|yC<|ba (he pins s1 σ H1 _ I1 q1) λiv s2 ⟨y,H2,I2,ry,z,ey,q2⟩=>Calls.spliced_nil ?_;subst ey;exact Mn rfl rfl pins s2 σ H2 (.ref a) [.str z] _ [iv] Q I2 rfl (.cons ry .nil) ⟨a,z,kvs,rfl,rfl,d,q2⟩
end
theorem CO:bootBuiltins "min"= some (.builtin "min"):=by trivial
def ZS3(n l0 l1 l2:Nat)(i:Nat)(h:Heap):Prop:=IsZip h (n+5) (n+3) (n+4) .none/\mh h (n+3) #[.ref n,.ref<|n+1,.ref<|n+2]/\(∃arr:ii,arr.size=3/\mh h (n+4) arr)/\h.IsTupleIter n l0 i/\h.IsTupleIter (n+1) l1 i/\h.IsTupleIter (n+2) l2 i
noncomputable abbrev Mp(h:Heap)(l0:Addr):Heap:=(h).push {cls:=.type "tuple_iterator",data:=.fields #[.ref l0,.int 0 0]}
noncomputable abbrev Mq(h:Heap)(l0 l1:Addr):Heap:=(Mp h l0).push {cls:=.type "tuple_iterator",data:=.fields #[.ref l1,.int 0 0]}
noncomputable abbrev Mr(h:Heap)(l0 l1 l2:Addr):Heap:=(Mq h l0 l1).push {cls:=.type "tuple_iterator",data:=.fields #[.ref l2,.int 0 0]}
noncomputable abbrev Ms(h:Heap)(l0 l1 l2:Addr):Heap:=(Mr h l0 l1 l2).push {cls:=.type "tuple",data:=.seq #[.ref h.objs.size,.ref (Mp h l0).objs.size,.ref (Mq h l0 l1).objs.size]}
noncomputable abbrev Mt(h:Heap)(l0 l1 l2:Addr):Heap:=(Ms h l0 l1 l2).push {cls:=.type "tuple",data:=.seq #[.none,.none,.none]}
noncomputable abbrev Aw(h:Heap)(l0 l1 l2:Addr):Heap:=(Mt h l0 l1 l2).push {cls:=.type "zip",data:=.fields #[.none,.bool false,.bool false,.ref (Mr h l0 l1 l2).objs.size,.ref (Ms h l0 l1 l2).objs.size]}
theorem CP(l0 l1 l2:Addr)(CH CI Tq:ii):Meets (Builtin.«zip.__new__» {[.type "zip",.ref l0,.ref l1,.ref l2],[]}) (λ_ R s=>s.heap.IsTuple l0 CH/\s.heap.IsTuple l1 CI/\s.heap.IsTuple l2 Tq/\R (.ok<|.ret<|.ref (Mt s.heap l0 l1 l2).objs.size) {s with heap:=Aw s.heap l0 l1 l2}):=.of_wp λprog w A R s h=>by obtain⟨hp,g,d,tk,os⟩:=s;obtain⟨t0,t1,t2,h⟩:=h;have Z9:=sub_zip;have L0:Heap.IsTuple (Shared.heap ⟨hp,g,d,tk,os⟩) l0 CH:=t0;have L1:Heap.IsTuple (Shared.heap {hp.push {cls:=.type "tuple_iterator",data:=.fields #[.ref l0,.int 0 0]},g,d,tk,os}) l1 CI:=Heap.IsTuple.push (t1) _;have L2:Heap.IsTuple (Shared.heap {(hp.push {cls:=.type "tuple_iterator",data:=.fields #[.ref l0,.int 0 0]}).push {cls:=.type "tuple_iterator",data:=.fields #[.ref l1,.int 0 0]},g,d,tk,os}) l2 Tq:=Heap.IsTuple.push (Heap.IsTuple.push (t2) _) _;wp_walk using wpAny_pyIter_tuple L0,wpAny_pyIter_tuple L1,wpAny_pyIter_tuple L2;exact{_,rfl,h}
theorem CQ(a0 a1 a2:Value):checkTypeCall "zip" {[a0,a1,a2],[]}=pure ():=by kernel_rfl
theorem CT(a0 a1 a2:Value):checkBuiltinCall "zip.__new__" {[.type "zip",a0,a1,a2],[]}=pure ():=by kernel_rfl
theorem QU(x a0 a1 a2:Value):argsOk "object.__init__" {[x,a0,a1,a2],[]}:=by unfold argsOk;rw[signature?_of (id:="object.__init__") (n:=['_','_','t','i','n','i','_','_']) (o:=['t','c','e','j','b','o']) (by kernel_rfl) F.owner_object];kernel_rfl
theorem CU(t0:s.heap.IsTuple l0 CH)(t1:s.heap.IsTuple l1 CI)(t2:s.heap.IsTuple l2 Tq)(h:∀h',ZS3 s.heap.objs.size l0 l1 l2 0 h'->(∀c o,s.heap.get? c=some o->h'.get? c=some o)->Q (.ref<|s.heap.objs.size+5) {s with heap:=h'}):wpAny (model prog w) A (call (.type "zip") [.ref l0,.ref l1,.ref l2]) Q E s:=by
 refine callType_new F.called_zip (by decide) (CQ _ _ _) (CT _ _ _) (λobj=>QU obj _ _ _) F.entry_zip_new (CP l0 l1 l2 CH CI Tq) {t0,t1,t2,?_};have z1:(Mp s.heap l0).objs.size=s.heap.objs.size+1:=yc ..;have z2:(Mq s.heap l0 l1).objs.size=s.heap.objs.size+2:=by rw[yc,z1]
 have z3:(Mr s.heap l0 l1 l2).objs.size=s.heap.objs.size+3:=by rw[yc,z2]
 have z4:(Ms s.heap l0 l1 l2).objs.size=s.heap.objs.size+4:=by rw[yc,z3]
 have z5:(Mt s.heap l0 l1 l2).objs.size=s.heap.objs.size+5:=by rw[yc,z4]
 have z6:(Aw s.heap l0 l1 l2).objs.size=s.heap.objs.size+6:=by rw[yc,z5]
 have g0:(Aw s.heap l0 l1 l2).get? (s.heap).objs.size=some _:=za _<|za _<|za _<|za _<|za _<|zk _ rfl;have g1:(Aw s.heap l0 l1 l2).get? (Mp s.heap l0).objs.size=some _:=za _<|za _<|za _<|za _<|zk _ rfl;have g2:(Aw s.heap l0 l1 l2).get? (Mq s.heap l0 l1).objs.size=some _:=za _<|za _<|za _<|zk _ rfl;have g3:(Aw s.heap l0 l1 l2).get? (Mr s.heap l0 l1 l2).objs.size=some _:=za _<|za _<|zk _ rfl;have g4:(Aw s.heap l0 l1 l2).get? (Ms s.heap l0 l1 l2).objs.size=some _:=za _<|zk _ rfl;have g5:(Aw s.heap l0 l1 l2).get? (Mt s.heap l0 l1 l2).objs.size=some _:=zk _ rfl;show _/\_;rw[z3,z4,z5]at g5;rw[z4]at g4;rw[z1,z2,z3]at g3;rw[z1]at g1;rw[z2]at g2;rw[z5];exact{{_,g5,rfl},h _ {g5,g3,!⟨g4⟩,{_,g0,rfl,rfl},{_,g1,rfl,rfl},{_,g2,rfl,rfl}} λc o x=>za _<|za _<|za _<|za _<|za _<|za _ x}
theorem Vals.three(h:Vals [x,y,z] us):∃u v w,us=[u,v,w]/\RelV x u/\RelV y v/\RelV z w:=by cases h with|cons r h=>cases h with|cons q h=>cases h with|cons p h=>cases h;exact{_,_,_,rfl,r,q,p}
section
variable{X:Cx}
def Mu:V->List V->Hp->VK->Prop:=λx vs H Q=>∃z y,x=.str z/\vs=[.str y]/\Q (.bl<|PySem.Txt.startswith z y) H
theorem uf:Te X "str.startswith" Mu:=by intro pins s σ H x vs v us Q I rx rv h;obtain⟨z,y,rfl,rfl,q⟩:=h;obtain⟨t,rfl⟩:=rx;obtain⟨u,rfl,ru⟩:=rv.one;obtain⟨t',rfl⟩:=ru;exact PySem.SC.startswith {.bl _,H,I,rfl,q}
def aab:V->Option Int->Option Int->Hp->VK->Prop:=λx lo hi H Q=>∃z,x=.str z/\z.length<=sizeLine/\Q (.str<|PySem.Txt.slice z lo hi) H
theorem QV:UR X aab:=by intro pins s σ H x v vl vu lo hi sl Q I rx hs pl pu h;obtain⟨z,rfl,hz,q⟩:=h;obtain⟨t,rfl⟩:=rx;obtain⟨o,e1,e2,e3⟩:=hs;refine{"str",_,F.slot_str_getitem.lookup,typeIs_str _ _ _,?_};have fin:∀k,∀t':Tok,EP X pins σ Q (.str (PySem.Txt.slice z lo hi) t') {s with toks:=k}:=λk t'=>{.str _,H,I.tok k,{_,rfl},q};cases pl with|none=>(cases pu with|none=>exact wpAny_getItem_str_slice (l:=none) (u:=none) (st:=none) ⟨o,e1,e2,e3⟩ rfl (post_val_or_str {zI (Txt.slice_le z _ _) hz,λt' k=>fin k t'})|int j uj=>exact wpAny_getItem_str_slice (l:=none) (u:=some (j,uj)) (st:=none) ⟨o,e1,e2,e3⟩ rfl<|post_val_or_str {zI (Txt.slice_le z _ _) hz,λt' k=>fin k t'})|int i ui=>cases pu with|none=>exact wpAny_getItem_str_slice (l:=some (i,ui)) (u:=none) (st:=none) ⟨o,e1,e2,e3⟩ rfl (post_val_or_str {zI (Txt.slice_le z _ _) hz,λt' k=>fin k t'})|int j uj=>exact wpAny_getItem_str_slice (l:=some (i,ui)) (u:=some (j,uj)) (st:=none) ⟨o,e1,e2,e3⟩ rfl<|post_val_or_str {zI (Txt.slice_le z _ _) hz,λt' k=>fin k t'}
end
end L2
namespace L2
open PySem PySem.Spec PyProof.Rows PySem.SeqAt
end L2
namespace L2
open PySem PySem.Spec PyProof.Rows
theorem wo(l:Addr)(items:ii)(n:Nat)(b:Addr)(rG:ii)(n2:Nat)(sl:Array<|Option Value)(Tr:¬(!items.isEmpty&&Builtin.List.listTooLong (items.size+rG.size))=true)(hs1:items.size<=sizeLine)(t6:items.size+rG.size<=sizeLine+1): Meets (Builtin.«list.extend» {[.ref l,.ref b],[]}) (λ_ R s=>s.heap.get? l=some {cls:=.type "list",dict:=none,data:=.seq items n,slots:=#[]}/\s.heap.get? b=some {cls:=.type "tuple",dict:=none,data:=.seq rG n2,slots:=sl}/\R (.ok<|.ret Value.none) {s with heap:=s.heap.update l<|Obj.mapSeq λx=>x++rG,toks:=s.toks}):=.of_wp λprog w A R s h=>by
 obtain⟨hp,g,d,tk,os⟩:=s;obtain⟨hl,hb,h⟩:=h;have f1:=AutoSeq1.idx_int;have f2:=AutoSeq1.sub_tuple_tuple;have f3:=AutoSeq1.sub_list_list;have f4:=AutoSeq1.sub_tuple_list;have f5:=AutoSeq1.sub_list_tuple;have hz':(items++rG).size<=sizeLine+1:=by rw[Array.size_append];exact t6
 wp_walk using (wpAny_updateSeq hl rfl (hz:=hs1) (_hz':=hz')),AutoSeq1.wpAny_loadPart' hl,AutoSeq1.wpAny_loadPart' hb;exact{_,rfl,h}
section
variable{X:Cx}{K:Frag}
def IK:V->List V->Hp->VK->Prop:=λx vs H Q=>∃l b xs zs,x=.ref l/\vs=[.ref b]/\H l=some (.lst xs)/\H b=some (.tup zs)/\xs.length+zs.length<=sizeLine/\Q .au (upd H l<|.lst<|xs++zs)
theorem CV:UY X "list.extend" IK:=by
 intro pins s σ H x vs v us Q I rx rv h;obtain⟨l,b,xs,zs,rfl,rfl,hH,hB,hz,q⟩:=h;cases rx;obtain⟨u,rfl,ru⟩:=rv.one;cases ru;obtain⟨z,ax,n,r,hl,e⟩:=I.Ag hH;obtain⟨z2,nS,r2,⟨c2,d2,dt2,K5⟩,e2,ec,ed,n2,en⟩:=(show bp X.prog X.w H s.heap b (.tup zs) from I.aG b _ hB);dsimp only at ec ed en;subst ec ed en;have N3:=r2.length;have hsz:ax.toArray.size+nS.toArray.size<=sizeLine:=by rw[zo,zo];lia
 have Vu:¬(!ax.toArray.isEmpty&&Builtin.List.listTooLong (ax.toArray.size+nS.toArray.size))=true:=by rw[Ia hsz,Bool.and_false];exact zd
 refine call_meets F.slot_list_extend {_,e,rfl} F.entry_list_extend (F.args_list_extend_2 _ _) (wo l ax.toArray n b nS.toArray n2 K5 Vu (by rw[zo];lia)<|by lia) {e,e2,?_};refine{.au,_,I.H_ (its':=ax++nS) hH e (by simp) (r.append r2) ?_,rfl,q};rw[zE];lia
theorem Ax(ns:sB):∀n,preSum (λi=>(ns[i]?).getD 0) n=(ns.take n).sum|0=>rfl|n+1=>by show preSum _ n+_=_;rw[Ax ns n,List.take_add_one,List.sum_append];cases h:ns[n]?<;>simp[h]
theorem QW:bootBuiltins "sum"= some (.builtin "sum"):=PyProof.Rows.Boot.«sum»
theorem Gs(hK:X.K=K)(hc:X.calm=true):ee X (.builtin "sum") (λxs H Q=>∃(a:Addr)(ns:sB),xs=[.ref a]/\iQ K H a (ns.map V.int)/\Q (.int ns.sum) H):=by
 subst hK;intro pins s σ H xs us Q I r h;obtain⟨a,ns,rfl,hq,q⟩:=h;obtain⟨u,rfl,ru⟩:=vals1 r;cases ru;obtain⟨ax,rv,p,hz⟩:=I.list hq;have hl:=rv.length;rw[zb]at hl;refine call_sum_walkG<|wpAny_pyIter_list p.isList ?_;refine{s.heap.objs.size,_,_,_,_,_,λi=>(ns[i]?).getD 0,rfl,Walks.list (A:=X.A.in1) (I.ok.hd hc) s.heap.objs.size a (zD p.lt) ax.toArray,{{_,zk _ rfl,rfl,rfl},p.isList.at λo e=>za _ e},?_,?_,λh' tk t' hk=>?_};intro b hb;simp only[zi,zH,or_false]at hb;rcases hb with rfl|rfl;simp[Heap.push];exact zp p.lt (by simp[Heap.push]);intro i v hv;have NY:ax[i]?=some v:=by simpa using hv
 cases hn:ns[i]? with|none=>(have h1:=(List.getElem?_eq_none_iff.mp hn);rw[List.getElem?_eq_none<|by lia]at NY;cases NY)|some k=>obtain⟨u',hu',Z_⟩:=rv.get (i:=i) (x:=.int k) (by rw[zm,hn];rfl);rw[NY]at hu';cases hu';obtain⟨t0,rfl⟩:=Z_;exact{t0,by simp[hn]}
 have e:ax.toArray.size=ns.length:=by rw[zo,<-hl]
 rw[e,Ax,yK];exact{.int ns.sum,H,I.kept (h':=h') (t':=tk) λb o e=>hk b o (by simpa using zD (zw e))<|za _ e,{_,rfl},q}
theorem Eu(v:Value):∀(n:Nat)(acc:dL),List.foldl (λx1 x2=>x1++x2) acc.toArray (List.replicate n #[v])=(acc++List.replicate n v).toArray|0,acc=>by simp|n+1,acc=>by rw[List.replicate_succ,yL,show acc.toArray++#[v]=(acc++[v]).toArray by simp,Eu v n,List.append_assoc];rfl
theorem Ay(r:RelV x v):∀n,Vals (List.replicate n x) (List.replicate n v)|0=>.nil|n+1=>.cons r<|Ay r n
end
set_option genInjectivity true in
set_option genSizeOfSpec true in
inductive D where
 |au|bl (b:Bool)|int (i:Int)|str (x:Str)|tup (ds:List D)|k8 (ds:List D)|kt (ds:List D)|ref (a:Addr)|ty (n:String)
abbrev v0:=List D
abbrev wf:=List (Key×D)
abbrev wl:=List (Str×D)
abbrev wn:=Option D
def KtL(K:Frag)(a:Addr)(xs:cr):Prop:=∃(o:Obj)(ax:ii)(n:Nat),K.lookup a=some o/\o.cls=.type "tuple"/\o.data=.seq ax n/\ax.size<=sizeLine/\Vals xs ax.toList
def Oa(K:Frag)(H:Hp)(a:Addr)(xs:cr):Prop:=(∃o,H a=some (.kD o<|.lst xs))\/∃(o:Obj)(ax:ii)(n:Nat),K.lookup a=some o/\o.cls=.type "list"/\o.dict=none/\o.data=.seq ax n/\ax.size<=sizeLine/\Vals xs ax.toList
theorem Oa.sq{K:Frag}{H:Hp}{a:Addr}{xs:cr}(h:Oa K H a xs):iQ K H a xs:=by rcases h with h|h;exact .inl<|.inr h;exact .inr h
structure Kp(K:Frag)(H H':Hp):Prop where
 t:∀a xs,H a=some (.tup xs)->H' a=some (.tup xs)
 r:∀a xs,Oa K H a xs->Oa K H' a xs
 f:∀a o u,H a=some (.kD o u)->H' a=some (.kD o u)
theorem Kp.refl{K:Frag}(H:Hp):Kp K H H:={λ_ _ h=>h,λ_ _ h=>h,λ_ _ _ h=>h}
theorem Kp.trans{K:Frag}{H H1 H2:Hp}(a:Kp K H H1)(b:Kp K H1 H2):Kp K H H2:={λp xs h=>b.t p xs<|a.t p xs h,λp xs h=>b.r p xs<|a.r p xs h,λp o u h=>b.f p o u<|a.f p o u h}
theorem Kp.of{K:Frag}{H H':Hp}(h:∀b o,H b=some o->H' b=some o\/(∀xs,o≠.tup xs)/\∀u v,o≠.kD u v):Kp K H H' where
 t:=λa xs q=>(h _ _ q).resolve_right λz=>z.1 _ rfl
 r:=λa xs q=>by
  rcases q with⟨o,q⟩|q
  ·exact .inl {o,(h _ _ q).resolve_right λz=>z.2 _ _ rfl}
  ·exact .inr q
 f:=λa o u q=>(h _ _ q).resolve_right λz=>z.2 _ _ rfl
theorem Kp.new{K:Frag}{H:Hp}{a:Addr}{o:HO}(h:H a=none):Kp K H (upd H a o):=.of λb u e=>.inl<|by rw[aw<|aF e h];exact e
theorem Kp.put{K:Frag}{H:Hp}{a:Addr}{o u:HO}(h:H a=some o)(h1:∀xs,o≠.tup xs)(h2:∀u v,o≠.kD u v):Kp K H (upd H a u):=.of λb v e=>by by_cases q:b=a;subst q;rw[h]at e;cases e;exact .inr ⟨h1,h2⟩;exact .inl<|by rw[aw q];exact e
mutual
def Rv(K:Frag)(H:Hp):D->V->Prop|.au,v=>v=.au|.bl b,v=>v=.bl b|.int i,v=>v=.int i|.str z,v=>v=.str z|.tup ds,v=>∃a xs,v=.ref a/\H a=some (.tup xs)/\RvAll K H ds xs|.k8 ds,v=>∃a xs,v=.ref a/\Oa K H a xs/\RvAll K H ds xs|.kt ds,v=>∃a xs,v=.ref a/\KtL K a xs/\RvAll K H ds xs|.ref a,v=>v=.ref a|.ty n,v=>v=.ty n
def RvAll(K:Frag)(H:Hp):List D->List V->Prop|[],xs=>xs=[]|d::ds,xs=>∃y ys,xs=y::ys/\Rv K H d y/\RvAll K H ds ys
end
section
variable{K:Frag}{H H':Hp}
theorem gA:Rv K H .au .au:=by simp only[Rv]
theorem b_(b:Bool):Rv K H (.bl b) (.bl b):=by simp only[Rv]
theorem aN(i:Int):Rv K H (.int i) (.int i):=by simp only[Rv]
theorem cu(z:Str):Rv K H (.str z) (.str z):=by simp only[Rv]
theorem ia(a:Addr):Rv K H (.ref a) (.ref a):=by simp only[Rv]
theorem Vv(n:String):Rv K H (.ty n) (.ty n):=by simp only[Rv]
theorem Ob(h:KtL K a xs)(t:RvAll K H ds xs):Rv K H (.kt ds) (.ref a):=by simp only[Rv];exact⟨a,xs,rfl,h,t⟩
theorem nX(h:H a=some (.tup xs))(t:RvAll K H ds xs):Rv K H (.tup ds) (.ref a):=by simp only[Rv];exact⟨a,xs,rfl,h,t⟩
theorem IL(h:Oa K H a xs)(t:RvAll K H ds xs):Rv K H (.k8 ds) (.ref a):=by simp only[Rv];exact⟨a,xs,rfl,h,t⟩
theorem Rv.au(h:Rv K H .au v):v=.au:=by simpa only[Rv]using h
theorem Rv.bl(h:Rv K H (.bl b) v):v=.bl b:=by simpa only[Rv]using h
theorem Rv.int(h:Rv K H (.int i) v):v=.int i:=by simpa only[Rv]using h
theorem Rv.str(h:Rv K H (.str z) v):v=.str z:=by simpa only[Rv]using h
theorem Rv.ref(h:Rv K H (.ref a) v):v=.ref a:=by simpa only[Rv]using h
theorem Rv.ty(h:Rv K H (.ty n) v):v=.ty n:=by simpa only[Rv]using h
theorem Rv.kt(h:Rv K H (.kt ds) v):∃a xs,v=.ref a/\KtL K a xs/\RvAll K H ds xs:=by simpa only[Rv]using h
theorem Rv.tup(h:Rv K H (.tup ds) v):∃a xs,v=.ref a/\H a=some (.tup xs)/\RvAll K H ds xs:=by simpa only[Rv]using h
theorem Rv.k8(h:Rv K H (.k8 ds) v):∃a xs,v=.ref a/\Oa K H a xs/\RvAll K H ds xs:=by simpa only[Rv]using h
theorem bu:RvAll K H [] []:=by simp only[RvAll]
theorem aT(h:Rv K H d x)(t:RvAll K H ds xs):RvAll K H (d::ds) (x::xs):=by simp only[RvAll];exact⟨x,xs,rfl,h,t⟩
theorem RvAll.nil(h:RvAll K H [] xs):xs=[]:=by simpa only[RvAll]using h
theorem RvAll.cons(h:RvAll K H (d::ds) xs):∃y ys,xs=y::ys/\Rv K H d y/\RvAll K H ds ys:=by simpa only[RvAll]using h
mutual
theorem Rv.ts(s:Kp K H H'):∀(d:D){v:V},Rv K H d v->Rv K H' d v|.au,v,h=>by simpa only[Rv]using h|.bl b,v,h=>by simpa only[Rv]using h|.int i,v,h=>by simpa only[Rv]using h|.str z,v,h=>by simpa only[Rv]using h|.tup ds,v,h=>(by obtain⟨a,xs,rfl,e,t⟩:=h.tup;exact nX (s.t _ _ e)<|RvAll.ts s ds t)|.k8 ds,v,h=>(by obtain⟨a,xs,rfl,e,t⟩:=h.k8;exact IL (s.r _ _ e)<|RvAll.ts s ds t)|.kt ds,v,h=>(by obtain⟨a,xs,rfl,e,t⟩:=h.kt;exact Ob e<|RvAll.ts s ds t)|.ref a,v,h=>by simpa only[Rv]using h|.ty n,v,h=>by simpa only[Rv]using h
theorem RvAll.ts(s:Kp K H H'):∀(ds:List D){xs:List V},RvAll K H ds xs->RvAll K H' ds xs|[],xs,h=>by rw[h.nil];exact bu|d::ds,xs,h=>by obtain⟨y,ys,rfl,h1,h2⟩:=h.cons;exact aT (Rv.ts s d h1)<|RvAll.ts s ds h2
end
theorem RvAll.len:∀{ds:List D}{xs:List V},RvAll K H ds xs->xs.length=ds.length|[],xs,h=>by rw[h.nil];rfl|d::ds,xs,h=>by obtain⟨y,ys,rfl,_,h2⟩:=h.cons;rw[zQ,zQ,h2.len]
theorem RvAll.get:∀{ds:List D}{xs:List V}{i:Nat}{d:D},RvAll K H ds xs->ds[i]?=some d->∃v,xs[i]?=some v/\Rv K H d v|[],xs,i,d,h,e=>by simp at e|d0::ds,xs,0,d,h,e=>(by obtain⟨y,ys,rfl,h1,h2⟩:=h.cons;simp at e;subst e;exact⟨y,rfl,h1⟩)|d0::ds,xs,i+1,d,h,e=>by obtain⟨y,ys,rfl,h1,h2⟩:=h.cons;obtain⟨v,e1,e2⟩:=h2.get (i:=i) (by simpa using e);exact{v,by simpa using e1,e2}
theorem RvAll.app:∀{ds es:List D}{xs ys:List V},RvAll K H ds xs->RvAll K H es ys->RvAll K H (ds++es) (xs++ys)|[],es,xs,ys,h,k=>by rw[h.nil];exact k|d::ds,es,xs,ys,h,k=>by obtain⟨y,zs,rfl,h1,h2⟩:=h.cons;exact aT h1<|h2.app k
theorem RvAll.take:∀{ds:List D}{xs:List V}(n:Nat),RvAll K H ds xs->RvAll K H (ds.take n) (xs.take n)|[],xs,n,h=>by rw[h.nil];simp only[List.take_nil];exact bu|d::ds,xs,0,h=>by simp only[List.take_zero];exact bu|d::ds,xs,n+1,h=>by obtain⟨y,zs,rfl,h1,h2⟩:=h.cons;exact aT h1<|h2.take n
theorem RvAll.drop:∀{ds:List D}{xs:List V}(n:Nat),RvAll K H ds xs->RvAll K H (ds.drop n) (xs.drop n)|[],xs,n,h=>by rw[h.nil];simp only[List.drop_nil];exact bu|d::ds,xs,0,h=>h|d::ds,xs,n+1,h=>by obtain⟨y,zs,rfl,h1,h2⟩:=h.cons;exact h2.drop n
theorem RvAll.set:∀{ds:List D}{xs:List V}{d:D}{v:V}(n:Nat),RvAll K H ds xs->Rv K H d v->RvAll K H (ds.set n d) (xs.set n v)|[],xs,d,v,n,h,r=>by rw[h.nil];exact bu|d0::ds,xs,d,v,0,h,r=>(by obtain⟨y,zs,rfl,h1,h2⟩:=h.cons;exact aT r h2)|d0::ds,xs,d,v,n+1,h,r=>by obtain⟨y,zs,rfl,h1,h2⟩:=h.cons;exact aT h1<|h2.set n r
theorem RvAll.erase:∀{ds:List D}{xs:List V}(n:Nat),RvAll K H ds xs->RvAll K H (ds.eraseIdx n) (xs.eraseIdx n)|[],xs,n,h=>by rw[h.nil];exact bu|d::ds,xs,0,h=>(by obtain⟨y,zs,rfl,h1,h2⟩:=h.cons;exact h2)|d::ds,xs,n+1,h=>by obtain⟨y,zs,rfl,h1,h2⟩:=h.cons;exact aT h1<|h2.erase n
theorem RvAll.dropLast:∀{ds:List D}{xs:List V},RvAll K H ds xs->RvAll K H ds.dropLast xs.dropLast|[],xs,h=>by rw[h.nil];exact bu|[d],xs,h=>(by obtain⟨y,zs,rfl,h1,h2⟩:=h.cons;rw[h2.nil];exact bu)|d::e::ds,xs,h=>by obtain⟨y,zs,rfl,h1,h2⟩:=h.cons;obtain⟨y2,zs2,rfl,h3,h4⟩:=id h2.cons;exact aT h1<|RvAll.dropLast h2
theorem RvAll.bools:∀{bs:ut}{xs:List V},RvAll K H (bs.map D.bl) xs->xs=bs.map V.bl|[],xs,h=>h.nil|b::bs,xs,h=>by obtain⟨y,ys,rfl,h1,h2⟩:=h.cons;rw[h1.bl,h2.bools];rfl
theorem RvAll.ints:∀{bs:sB}{xs:List V},RvAll K H (bs.map D.int) xs->xs=bs.map V.int|[],xs,h=>h.nil|b::bs,xs,h=>by obtain⟨y,ys,rfl,h1,h2⟩:=h.cons;rw[h1.int,h2.ints];rfl
theorem RvAll.strs:∀{bs:j4}{xs:List V},RvAll K H (bs.map D.str) xs->xs=bs.map V.str|[],xs,h=>h.nil|b::bs,xs,h=>by obtain⟨y,ys,rfl,h1,h2⟩:=h.cons;rw[h1.str,h2.strs];rfl
theorem Ex:∀(bs:sB),RvAll K H (bs.map D.int) (bs.map V.int)|[]=>bu|b::bs=>aT (aN b)<|Ex bs
theorem wq:∀(bs:j4),RvAll K H (bs.map D.str) (bs.map V.str)|[]=>bu|b::bs=>aT (cu b)<|wq bs
def bB{κ:Type}(K:Frag)(H:Hp):List (κ×D)->List (κ×V)->Prop:=Paired λp q=>p.1=q.1/\Rv K H p.2 q.2
theorem bB.ts(s:Kp K H H'):∀{ks:List (κ×D)}{vs:List (κ×V)},bB K H ks vs->bB K H' ks vs|_,_,.nil=>.nil|_,_,.cons r t=>.cons {r.1,Rv.ts s _ r.2}<|bB.ts s t
theorem bB.look(h:bB K H ks vs)(f:Str):(∀d,ks.lookup f=some d->∃v,vs.lookup f=some v/\Rv K H d v)/\(ks.lookup f=none->vs.lookup f=none):=by induction h with|nil=>(exact{λd e=>(by cases e),λ_=>rfl})|@cons a b l m r t ih=>obtain⟨k,d⟩:=a;obtain⟨k',v⟩:=b;obtain⟨rfl,r⟩:=r;simp only[zX];cases q:f==k with|true=>(exact{λd' e=>{v,rfl,(by cases e;exact r)},λe=>(by cases e)})|false=>exact ih
end
set_option genInjectivity true in
set_option genSizeOfSpec true in
inductive Ce where
 |lst (ds:List D)|cj (kvs:List<|Key×D)|ins (c:Addr) (fs:List<|Str×D)|well|exc (c:Addr)|tab (q:Str)|raw (o:HO)
def Ey(H:Hp)(q:Str)(ps:ii):Prop:=TriplesOk ps.toList/\∀pos cv,codeAmong pos ps.toList=some cv->∃c o vs t,cv=.ref c/\H c=some (.kD o<|.own 0)/\o.data=.fields vs/\vs[1]?=some (.str q t)
abbrev ak:=Addr->Option Ce
noncomputable def ak.set(S:ak)(a:Addr)(c:Ce):ak:=λb=>if b=a then some c else S b
theorem aa{S:ak}{a:Addr}{c:Ce} : S.set a c a=some c:=by unfold ak.set;rw[if_pos rfl]
theorem ae{S:ak}{a b:Addr}{c:Ce}(h:b≠a):S.set a c b=S b:=by unfold ak.set;rw[if_neg h]
theorem aJ{S:ak}{a:Addr}{c e:Ce} : (S.set a c).set a e=S.set a e:=by funext b;unfold ak.set;split<;>rfl
theorem fk{S:ak}{a b:Addr}{c:Ce}(h:S a=some c)(h':S b=none):a≠b:=by intro e;subst e;rw[h]at h';cases h'
def Rc(K:Frag)(H:Hp)(a:Addr):Ce->Prop|.lst ds=>∃xs,H a=some (.lst xs)/\RvAll K H ds xs|.cj kvs=>∃vs,H a=some (.dK vs)/\bB K H kvs vs|.ins c fs=>∃dx vs,H a=some (.ins c dx vs)/\bB K H fs vs|.well=>∃x y z:Int,H a=some (.lst [.int x,.int y,.int z])|.exc c=>H a=some (ZZ a<|.ref c)|.tab q=>∃ps,H a=some (.qB ps)/\Ey H q ps|.raw o=>H a=some o/\(∀xs,o≠.tup xs)/\∀u v,o≠.kD u v
def Rs(K:Frag)(S:ak)(H:Hp):Prop:=∀a c,S a=some c->Rc K H a c
section
variable{K:Frag}{H H':Hp}{S:ak}{a b:Addr}{c:Ce}
theorem Rc.has(h:Rc K H a c):∃o,H a=some o/\(∀xs,o≠.tup xs)/\∀u v,o≠.kD u v:=by cases c with|lst ds=>(obtain⟨xs,e,_⟩:=h;exact{_,e,λ_=>nofun,λ_ _=>nofun})|cj ds=>(obtain⟨xs,e,_⟩:=h;exact{_,e,λ_=>nofun,λ_ _=>nofun})|ins c fs=>(obtain⟨dx,vs,e,_⟩:=h;exact{_,e,λ_=>nofun,λ_ _=>nofun})|well=>(obtain⟨x,y,z,e⟩:=h;exact{_,e,λ_=>nofun,λ_ _=>nofun})|exc c=>exact{_,h,λ_=>nofun,λ_ _=>nofun}|tab q=>(obtain⟨ps,e,_⟩:=h;exact{_,e,λ_=>nofun,λ_ _=>nofun})|raw o=>exact⟨o,h⟩
theorem Rc.keep(h:Rc K H a c)(e:∀o,H a=some o->H' a=some o)(s:Kp K H H'):Rc K H' a c:=by cases c with|lst ds=>(obtain⟨xs,e1,r⟩:=h;exact{xs,e _ e1,RvAll.ts s _ r})|cj ds=>(obtain⟨xs,e1,r⟩:=h;exact{xs,e _ e1,r.ts s})|ins c fs=>(obtain⟨dx,vs,e1,r⟩:=h;exact{dx,vs,e _ e1,r.ts s})|well=>(obtain⟨x,y,z,e1⟩:=h;exact{x,y,z,e _ e1})|exc c=>exact e _ h|tab q=>(obtain⟨ps,e1,r,r2⟩:=h;exact{ps,e _ e1,r,λpos cv z=>by obtain⟨c,o,vs,t,z1,z2,z3⟩:=r2 pos cv z;exact{c,o,vs,t,z1,s.f _ _ _ z2,z3}})|raw o=>exact{e _ h.1,h.2}
theorem Rs.fresh(h:Rs K S H)(e:H a=none):S a=none:=by cases q:S a with|none=>rfl|some c=>obtain⟨o,e1,_⟩:=(h a c q).has;rw[e]at e1;cases e1
theorem Rs.new(h:Rs K S H)(e:H a=none){o:HO}(r:Rc K (upd H a o) a c):Rs K (S.set a c) (upd H a o):=λb x hb=>by by_cases q:b=a;subst q;rw[aa]at hb;cases hb;exact r;rw[ae q]at hb;exact(h b x hb).keep (λo e1=>by rw[aw q];exact e1)<|Kp.new e
theorem Rs.grow(h:Rs K S H)(e:H a=none):Rs K S (upd H a o):=λb x hb=>by obtain⟨u,e1,_⟩:=(h b x hb).has;have q:b≠a:=aF e1 e;exact(h b x hb).keep (λo e1=>by rw[aw q];exact e1)<|Kp.new e
theorem Rs.fm(h:Rs K S H)(ha:S a=some e):Kp K H (upd H a o):=by obtain⟨u,e1,n1,n2⟩:=(h a e ha).has;exact Kp.put e1 n1 n2
theorem Rs.put(h:Rs K S H){e:Ce}(ha:S a=some e){o:HO}(r:Rc K (upd H a o) a c):Rs K (S.set a c) (upd H a o):=λb x hb=>by by_cases q:b=a;subst q;rw[aa]at hb;cases hb;exact r;rw[ae q]at hb;exact(h b x hb).keep (λo e1=>by rw[aw q];exact e1)<|h.fm ha
theorem Rs.lst(h:Rs K S H)(e:S a=some (.lst ds)):∃xs,H a=some (.lst xs)/\RvAll K H ds xs:=h a _ e
theorem Rs.cj(h:Rs K S H)(e:S a=some (.cj ds)):∃xs,H a=some (.dK xs)/\bB K H ds xs:=h a _ e
theorem Rs.ins{c:Addr}{fs:List<|Str×D}(h:Rs K S H)(e:S a=some (.ins c fs)):∃dx vs,H a=some (.ins c dx vs)/\bB K H fs vs:=h a _ e
end
abbrev KD:=D->ak->Prop
abbrev KX:=Addr->ak->Prop
abbrev SD:=List<|Option D
def g_(K:Frag)(H:Hp):SD->St->Prop:=Paired λ(o:Option D)(u:Option V)=>∀d,o=some d->∃v,u=some v/\Rv K H d v
section
variable{K:Frag}{H H':Hp}
theorem g_.ts(s:Kp K H H'):∀{σ:SD}{τ:St},g_ K H σ τ->g_ K H' σ τ|_,_,.nil=>.nil|_,_,.cons r t=>.cons (λd e=>by obtain⟨v,e1,r1⟩:=r d e;exact{v,e1,Rv.ts s _ r1})<|g_.ts s t
theorem g_.get:∀{σ:SD}{τ:St}{i:Nat}{d:D},g_ K H σ τ->σ[i]?=some (some d)->∃v,τ[i]?=some (some v)/\Rv K H d v|_,_,i,d,.nil,e=>by simp at e|_,_,0,d,.cons r t,e=>(by simp at e;obtain⟨v,e1,r1⟩:=r d e;exact{v,by simp[e1],r1})|_,_,i+1,d,.cons r t,e=>by obtain⟨v,e1,r1⟩:=g_.get (i:=i) t (by simpa using e);exact{v,by simpa using e1,r1}
theorem g_.set:∀{σ:SD}{τ:St}(i:Nat){d:D}{v:V},g_ K H σ τ->Rv K H d v->g_ K H (σ.set i<|some d) (τ.set i<|some v)|_,_,i,d,v,.nil,r=>.nil|_,_,0,d,v,.cons r t,q=>(.cons (λd' e=>by cases e;exact⟨v,rfl,q⟩) t)|_,_,i+1,d,v,.cons r t,q=>.cons r<|g_.set i t q
theorem rH:∀(n:Nat)(τ:St),τ.length=n->g_ K H (List.replicate n none) τ|0,[],_=>.nil|n+1,_::τ,h=>.cons (λd e=>by cases e)<|rH n τ<|by simpa using h
theorem rJ:∀{ds:List D}{vs:List V},RvAll K H ds vs->g_ K H (ds.map some) (vs.map some)|[],vs,h=>by rw[h.nil];exact .nil|d::ds,vs,h=>by obtain⟨y,ys,rfl,h1,h2⟩:=h.cons;exact .cons (λd' e=>by cases e;exact⟨y,rfl,h1⟩)<|rJ h2
theorem g_.app:∀{σ aA:SD}{τ Ts:St},g_ K H σ τ->g_ K H aA Ts->g_ K H (σ++aA) (τ++Ts)|_,_,_,_,.nil,h=>h|_,_,_,_,.cons r t,h=>.cons r<|g_.app t h
end
structure Rdy(Y:Cx)(E:St->XK)(b:Bool):Prop where
 call:∀p2 τ H s e s',Inv Y p2 τ H s->fR Y.prog Y.w Y.mg Y.stack H s (E τ) e s'->Y.xe e s'
 own:b=true->∀p2 τ H s h' a cls args,Inv Y p2 τ H s->Heap.MadeExcOf s.heap h' a cls args->E τ cls none H->Y.xe (.ref a) {s with heap:=h'}
 loop:b=true->PassesOwn (model Y.prog Y.w) Y.A Y.env Y.xe
structure Ev(X:Cx)(b:Bool) where
 pn:List (Addr×Obj)
 xe:Value->Shared->Prop
 E:St->XK
 ok:Rdy {X with pn:=pn,xe:=xe} E b
noncomputable abbrev Ev.cx{X:Cx}{b:Bool}(y:Ev X b):Cx:={X with pn:=y.pn,xe:=y.xe}
def Cn(K:Frag)(H:Hp)(R:KD)(Q:VK):Prop:=∀d S v H',R d S->Rv K H' d v->Rs K S H'->Kp K H H'->Q v H'
def Ez(K:Frag)(H:Hp)(Z:KX)(e:XK):Prop:=∀C S H',Z C S->Rs K S H'->Kp K H H'->e (.ref C) none H'
theorem Cn.kp{K:Frag}{H H1:Hp}{R:KD}{Q:VK}(h:Cn K H R Q)(k:Kp K H H1):Cn K H1 R Q:=λd S v H' r v1 s1 k1=>h d S v H' r v1 s1<|k.trans k1
theorem Ez.kp{K:Frag}{H H1:Hp}{Z:KX}{e:XK}(h:Ez K H Z e)(k:Kp K H H1):Ez K H1 Z e:=λC S H' r s1 k1=>h C S H' r s1<|k.trans k1
abbrev TD:=SD->ak->KD->KX->Prop
def T(K:Frag)(E:St->XK)(t:TD):TE:=λτ H Q=>∃σ S R Z,g_ K H σ τ/\Rs K S H/\t σ S R Z/\Cn K H R Q/\Ez K H Z (E τ)
structure DE(K:Frag)(X:Cx)(e:Expr)(t:TD):Prop where
 of:∀{b:Bool}(y:Ev X b),PE y.cx e<|T K y.E t
abbrev lV:=SD->ak->(Bool->ak->Prop)->KX->Prop
def Ya(K:Frag)(H:Hp)(R:Bool->ak->Prop)(Q:Bool->Hp->Prop):Prop:=∀b S H',R b S->Rs K S H'->Kp K H H'->Q b H'
theorem Ya.kp{K:Frag}{H H1:Hp}{R:Bool->ak->Prop}{Q:Bool->Hp->Prop}(h:Ya K H R Q)(k:Kp K H H1):Ya K H1 R Q:=λd S H' r s1 k1=>h d S H' r s1<|k.trans k1
def Tt(K:Frag)(E:St->XK)(t:lV):TT:=λτ H Q=>∃σ S R Z,g_ K H σ τ/\Rs K S H/\t σ S R Z/\Ya K H R Q/\Ez K H Z (E τ)
structure DT(K:Frag)(X:Cx)(e:Expr)(t:lV):Prop where
 of:∀{b:Bool}(y:Ev X b),PT y.cx e<|Tt K y.E t
abbrev iX:=SD->ak->(List D->ak->Prop)->KX->Prop
def CnA(K:Frag)(H:Hp)(R:List D->ak->Prop)(Q:List V->Hp->Prop):Prop:=∀ds S vs H',R ds S->RvAll K H' ds vs->Rs K S H'->Kp K H H'->Q vs H'
def Ta(K:Frag)(E:St->XK)(t:iX):TA:=λτ H Q=>∃σ S R Z,g_ K H σ τ/\Rs K S H/\t σ S R Z/\CnA K H R Q/\Ez K H Z (E τ)
structure DA(K:Frag)(X:Cx)(es:mt)(t:iX):Prop where
 of:∀{b:Bool}(y:Ev X b),PA y.cx es<|Ta K y.E t
theorem PE.mono{t t':TE}(h:PE X e t)(i:∀τ H Q,t' τ H Q->t τ H Q):PE X e t':=λpins s τ H Q I q=>h pins s τ H Q I<|i τ H Q q
theorem PT.mono{t t':TT}(h:PT X e t)(i:∀τ H Q,t' τ H Q->t τ H Q):PT X e t':=λpins s τ H Q I q=>h pins s τ H Q I<|i τ H Q q
theorem PA.mono{t t':TA}(h:PA X e t)(i:∀τ H Q,t' τ H Q->t τ H Q):PA X e t':=λpos pins s τ H Q I q=>h pos pins s τ H Q I<|i τ H Q q
section
variable{K:Frag}{X:Cx}
inductive Vx(i:Nat)(σ:SD)(S:ak)(R:KD):Prop where
 |mk (d:D)(h:σ[i]?=some (some d))(r:R d S)
def Vy(i:Nat):TD:=λσ S R _=>Vx i σ S R
inductive Tu(x:D)(S:ak)(R:Bool->ak->Prop):Prop where
 |mk (b:Bool)(h:x=.bl b)(r:R b S)
def dC(d:D):TD:=λ_ S R _=>R d S
theorem dv(i:Nat)(hN:autoParam (X.N[i]?=some x) qQJ)(hv:Pl X.env.scope x:=by first|exact Or.inl rfl|exact Or.inr (Or.inl rfl)|exact Or.inr (Or.inr rfl))(hd:autoParam ((x==("__debug__": Str))=false) qQZ)(tN:autoParam ((x==("__classdict__": Str))=false) qQZ):DE K X (.Name x pos) (Vy i):=⟨λy=>(Pr (X:=y.cx) hN hv hd tN).mono <| by rintro τ H Q ⟨σ,S,R,Z,aB,hS,⟨d,e,r⟩,hR,_⟩;exact by obtain⟨v,e1,rv⟩:=aB.get e;exact{v,e1,hR d S v H r rv hS<|Kp.refl _}⟩
theorem DE.const(h:∀Y:Cx,Y.env=X.env->Y.mg=X.mg->PE Y e (tC v))(r:∀H,Rv K H d v):DE K X e (dC d):=⟨λy=>(h y.cx rfl rfl).mono <| by rintro τ H Q ⟨σ,S,R,Z,aB,hS,q,hR,_⟩;exact hR d S v H q (r H) hS<|Kp.refl _⟩
theorem di:DE K X (.Constant (.int i) j pos) (dC<|.int i):=.const (λ_ _ _=>Pt) λ_=>aN i
theorem ds:DE K X (.Constant (.str i) j pos) (dC<|.str i):=.const (λ_ _ _=>Pw) λ_=>cu i
theorem db:DE K X (.Constant (.bool i) j pos) (dC<|.bl i):=.const (λ_ _ _=>NT) λ_=>b_ i
theorem dn:DE K X (.Constant .none j pos) (dC .au):=.const (λ_ _ _=>Pu) λ_=>gA
theorem dg(hm:X.mg x=some u)(r:RelV v u)(rd:∀H,Rv K H d v)(hg:autoParam (Gl X x) qQJ)(hd:autoParam ((x==("__debug__": Str))=false) qQZ):DE K X (.Name x pos) (dC d):=.const (λY e1 e2=>Ee (X:=Y) (u:=u) (show Y.env.kindOf x=_ by rw[e1];exact hg) (by rw[e2];exact hm) r hd) rd
theorem ug(hm:X.mg x=none)(hv:bootBuiltins x=some (.type n))(hg:autoParam (Gl X x) qQJ)(hn:autoParam (x≠"__name__") qQZ)(hd:autoParam ((x==("__debug__": Str))=false) qQZ):DE K X (.Name x pos) (dC<|.ty n):=.const (λY e1 e2=>Lp (X:=Y) (v:=.ty n) (show Y.env.kindOf x=_ by rw[e1];exact hg) (by rw[e2];exact hm) hv rfl hn hd) λ_=>Vv n
def Mv:iX:=λ_ S R _=>R [] S
def Oc(t:TD)(u:iX):iX:=λσ S R Z=>t σ S (λd S1=>u σ S1 (λds S2=>R (d::ds) S2) Z) Z
theorem an:DA K X [] Mv:=⟨λy=>(Cp (X:=y.cx)).mono <| by rintro τ H Q ⟨σ,S,R,Z,aB,hS,q,hR,_⟩;exact hR [] S [] H q bu hS<|Kp.refl _⟩
theorem ac{t:TD}(h:DE K X e t)(hr:DA K X es u)(hp:autoParam (isPlain e=true) qQJ):DA K X (e::es) (Oc t u):=
 ⟨λy=>(ZV (h.of y) (hr.of y) hp).mono <| by rintro τ H Q ⟨σ,S,R,Z,aB,hS,q,hR,hZ⟩;exact
  ⟨σ,S,_,Z,aB,hS,q,λd S1 x H1 r1 v1 s1 k1=>⟨σ,S1,_,Z,aB.ts k1,s1,r1,λds S2 xs H2 r2 v2 s2 k2=>hR (d::ds) S2 (x::xs) H2 r2 (aT (Rv.ts k2 _ v1) v2) s2<|k1.trans k2,hZ.kp k1⟩,hZ⟩⟩
abbrev tO:=D->D->ak->KD->Prop
theorem ap{x:Str}{pos:Pos}(i:Nat)(hr:DA K X es u)(hN:autoParam (X.N[i]?=some x) qQJ)(hv:Pl X.env.scope x:=by first|exact Or.inl rfl|exact Or.inr (Or.inl rfl)|exact Or.inr (Or.inr rfl))(hd:autoParam ((x==("__debug__": Str))=false) qQZ)(tN:autoParam ((x==("__classdict__": Str))=false) qQZ):DA K X (.Name x pos::es) (Oc (Vy i) u):=ac (dv i hN hv hd tN) hr rfl
def Lr(K:Frag)(r:tO):R2:=λx y H Q=>∃d e S R,Rv K H d x/\Rv K H e y/\Rs K S H/\r d e S R/\Cn K H R Q
def nY(K:Frag)(f:Value->Value->Sem Value)(r:tO):Prop:=∀X:Cx,X.K=K->X.A.units+64<cLine->gv X f (Lr K r)
def QX(r:tO)(ta tb:TD):TD:=λσ S R Z=>ta σ S (λx S1=>tb σ S1 (λy S2=>r x y S2 R) Z) Z
theorem T.op(h:T K E (QX r ta tb) τ H Q):PY (Lr K r) (T K E ta) (T K E tb) τ H Q:=by obtain⟨σ,S,R,Z,aB,hS,q,hR,hZ⟩:=h;exact{σ,S,_,Z,aB,hS,q,λd S1 x H1 r1 v1 s1 k1=>{σ,S1,_,Z,aB.ts k1,s1,r1,λe S2 y H2 r2 v2 s2 k2=>{d,e,S2,R,Rv.ts k2 _ v1,v2,s2,r2,hR.kp<|k1.trans k2},hZ.kp k1},hZ}
theorem bo(ho:nY K (binaryOp op) r)(hu:X.A.units+64<cLine)(ha:DE K X a ta)(hb:DE K X b tb)(hK:autoParam (X.K=K) qQJ):DE K X (.BinOp a op b pos) (QX r ta tb):=⟨λy=>(UC (ho y.cx hK hu) (ha.of y)<|hb.of y).mono λ_ _ _ h=>h.op⟩
theorem bd(ho:nY K (binaryOp op) r)(ha:DE K X a ta)(hb:DE K X b tb)(hu:X.A.units+64<cLine:=by assumption)(hK:autoParam (X.K=K) qQJ):DE K X (.BinOp a op b pos) (QX r ta tb):=bo ho hu ha hb hK
theorem cm(ho:nY K (compareOp op) r)(hu:X.A.units+64<cLine)(ha:DE K X a ta)(hb:DE K X b tb)(hm:autoParam (behindInMarks op b=false) qQ4)(hK:autoParam (X.K=K) qQJ):DE K X (.Compare a [op] [b] pos) (QX r ta tb):=⟨λy=>(Ej (ho y.cx hK hu) (ha.of y) (hb.of y) hm).mono λ_ _ _ h=>h.op⟩
theorem be(ho:nY K (compareOp op) r)(ha:DE K X a ta)(hb:DE K X b tb)(hu:X.A.units+64<cLine:=by assumption)(hm:autoParam (behindInMarks op b=false) qQ4)(hK:autoParam (X.K=K) qQJ):DE K X (.Compare a [op] [b] pos) (QX r ta tb):=cm ho hu ha hb hm hK
def dB(t:TD):lV:=λσ S R Z=>t σ S (λx S1=>Tu x S1 R) Z
theorem Tt.b{t:TD}(h:Tt K E (dB t) τ H Q):T K E t τ H λx H'=>∃k,x=.bl k/\Q k H':=by obtain⟨σ,S,R,Z,aB,hS,q,hR,hZ⟩:=h;exact{σ,S,_,Z,aB,hS,q,by rintro d S1 x H1 ⟨b,e,r1⟩ v1 s1 k1;exact by subst e;exact{b,v1.bl,hR b S1 H1 r1 s1 k1},hZ}
theorem Tt.bop(h:Tt K E (dB<|QX r ta tb) τ H Q):HS (PY (Lr K r) (T K E ta)<|T K E tb) τ H Q:=h.b.op
theorem aV(ho:nY K (compareOp op) r)(hu:X.A.units+64<cLine)(ha:DE K X a ta)(hb:DE K X b tb)(hm:autoParam (behindInMarks op b=false) qQ4)(hK:autoParam (X.K=K) qQJ):DT K X (.Compare a [op] [b] pos) (dB<|QX r ta tb):=⟨λy=>(LD (ho y.cx hK hu) (ha.of y) (hb.of y) hm).mono λ_ _ _ h=>h.bop⟩
theorem bi(ho:nY K (compareOp op) r)(ha:DE K X a ta)(hb:DE K X b tb)(hu:X.A.units+64<cLine:=by assumption)(hm:autoParam (behindInMarks op b=false) qQ4)(hK:autoParam (X.K=K) qQJ):DT K X (.Compare a [op] [b] pos) (dB<|QX r ta tb):=aV ho hu ha hb hm hK
theorem tv{t:TD}(h:DE K X e t)(he:autoParam (∀whole,isTrue e X.env whole=(do let v <-whole;standAt e.pos;holding [v] (truthy v))) qQ0):DT K X e (dB t):=⟨λy=>(Px (X:=y.cx) (h.of y) he).mono λ_ _ _ h=>h.b⟩
def CW(r r':tO)(ta tb tc:TD):TD:=λσ S R Z=>ta σ S (λx S1=>tb σ S1 (λy S2=>r x y S2 λz S3=>Tu z S3 λk S3=>if k=true then tc σ S3 (λw S4=>r' y w S4 R) Z else R (.bl false) S3) Z) Z
theorem T.chain(h:T K E (CW r r' ta tb tc) τ H Q):Cc (Lr K r) (Lr K r') (T K E ta) (T K E tb) (T K E tc) τ H Q:=by obtain⟨σ,S,R,Z,aB,hS,q,hR,hZ⟩:=h;refine{σ,S,_,Z,aB,hS,q,λd S1 x H1 r1 v1 s1 k1=>{σ,S1,_,Z,aB.ts k1,s1,r1,λe S2 y H2 r2 v2 s2 k2=>{d,e,S2,_,Rv.ts k2 _ v1,v2,s2,r2,λz S3 v H3 r3 v3 s3 k3=>?_},hZ.kp k1},hZ};obtain⟨k,rfl,r3⟩:=r3;refine{k,v3.bl,?_};cases k with|true=>rw[if_pos rfl]at r3⊢;exact{σ,S3,_,Z,((aB.ts k1).ts k2).ts k3,s3,r3,λw S4 wv H4 r4 v4 s4 k4=>{e,w,S4,R,Rv.ts (k3.trans k4) _ v2,v4,s4,r4,hR.kp<|((k1.trans k2).trans k3).trans k4},hZ.kp<|(k1.trans k2).trans k3}|false=>rw[if_neg zd]at r3⊢;exact hR _ S3 _ H3 r3 (b_ false) s3<|(k1.trans k2).trans k3
theorem cc(ho:nY K (compareOp op) r)(B8:nY K (compareOp FQ) r')(hu:X.A.units+64<cLine)(ha:DE K X a ta)(hb:DE K X b tb)(hc:DE K X c tc)(hm:autoParam (lastMarks [op,FQ] [b,c]=false) qQ4)(hK:autoParam (X.K=K) qQJ):DE K X (.Compare a [op,FQ] [b,c] pos) (CW r r' ta tb tc):=⟨λy=>(HU (ho y.cx hK hu) (B8 y.cx hK hu) (ha.of y) (hb.of y) (hc.of y) hm).mono λ_ _ _ h=>h.chain⟩
theorem Yb(ho:nY K (compareOp op) r)(B8:nY K (compareOp FQ) r')(hu:X.A.units+64<cLine)(ha:DE K X a ta)(hb:DE K X b tb)(hc:DE K X c tc)(hm:autoParam (lastMarks [op,FQ] [b,c]=false) qQ4)(hK:autoParam (X.K=K) qQJ):DT K X (.Compare a [op,FQ] [b,c] pos) (dB<|CW r r' ta tb tc):=⟨λy=>(HV (ho y.cx hK hu) (B8 y.cx hK hu) (ha.of y) (hb.of y) (hc.of y) hm).mono λ_ _ _ h=>h.b.chain⟩
def Vz(ta tb:TD):TD:=λσ S R Z=>ta σ S (λx S1=>Tu x S1 λc S1=>if c=true then tb σ S1 R Z else R (.bl false) S1) Z
def aae(ta tb:TD):TD:=λσ S R Z=>ta σ S (λx S1=>Tu x S1 λc S1=>if c=true then R (.bl true) S1 else tb σ S1 R Z) Z
def VA(ta:TD):TD:=λσ S R Z=>ta σ S (λx S1=>Tu x S1 λc S1=>R (.bl<|!c) S1) Z
theorem K7{t:TD}(h:DE K X a t):DE K X (.BoolOp op [a] pos) t:=⟨λy=>Pz<|h.of y⟩
theorem uh{a b:Expr}{rest:mt}{ta tb:TD}{pos:Pos}(ha:DE K X a ta)(hb:DE K X (.BoolOp .And (b::rest) pos) tb):DE K X (.BoolOp .And (a::b::rest) pos) (Vz ta tb):=
 ⟨λy=>(PB (ha.of y)<|hb.of y).mono <| by rintro τ H Q ⟨σ,S,R,Z,aB,hS,q,hR,hZ⟩;exact
  ⟨σ,S,_,Z,aB,hS,q,by
   rintro d S1 x H1 ⟨c,e,r1⟩ v1 s1 k1
   subst e
   refine{c,v1.bl,?_}
   cases c with
   |true=>rw[if_pos rfl]at r1⊢;exact{σ,S1,R,Z,aB.ts k1,s1,r1,hR.kp k1,hZ.kp k1}
   |false=>rw[if_neg zd]at r1⊢;exact hR _ S1 _ H1 r1 (b_ false) s1 k1,hZ⟩⟩
theorem eor{a b:Expr}{rest:mt}{ta tb:TD}{pos:Pos}(ha:DE K X a ta)(hb:DE K X (.BoolOp .Or (b::rest) pos) tb):DE K X (.BoolOp .Or (a::b::rest) pos) (aae ta tb):=
 ⟨λy=>(Us (ha.of y)<|hb.of y).mono <| by rintro τ H Q ⟨σ,S,R,Z,aB,hS,q,hR,hZ⟩;exact
  ⟨σ,S,_,Z,aB,hS,q,by
   rintro d S1 x H1 ⟨c,e,r1⟩ v1 s1 k1
   subst e
   refine{c,v1.bl,?_}
   cases c with
   |false=>rw[if_neg zd]at r1⊢;exact{σ,S1,R,Z,aB.ts k1,s1,r1,hR.kp k1,hZ.kp k1}
   |true=>rw[if_pos rfl]at r1⊢;exact hR _ S1 _ H1 r1 (b_ true) s1 k1,hZ⟩⟩
theorem QY(ha:DE K X a ta):DE K X (.UnaryOp .Not a pos) (VA ta):=
 ⟨λy=>(PC<|ha.of y).mono <| by rintro τ H Q ⟨σ,S,R,Z,aB,hS,q,hR,hZ⟩;exact
  ⟨σ,S,_,Z,aB,hS,q,by rintro d S1 x H1 ⟨c,e,r1⟩ v1 s1 k1;exact by subst e;exact⟨c,v1.bl,hR _ S1 _ H1 r1 (b_ _) s1 k1⟩,hZ⟩⟩
def aaf(t:lV):lV:=λσ S R Z=>t σ S (λc S1=>R (!c) S1) Z
def aag(t u:lV):lV:=λσ S R Z=>t σ S (λc S1=>if c=true then u σ S1 R Z else R false S1) Z
def dOr(t u:lV):lV:=λσ S R Z=>t σ S (λc S1=>if c=true then R true S1 else u σ S1 R Z) Z
theorem cX{t:lV}(ha:DT K X a t):DT K X (.UnaryOp .Not a pos) (aaf t):=⟨λy=>(Py<|ha.of y).mono <| by rintro τ H Q ⟨σ,S,R,Z,aB,hS,q,hR,hZ⟩;exact{σ,S,_,Z,aB,hS,q,λc S1 H1 r1 s1 k1=>hR _ S1 H1 r1 s1 k1,hZ}⟩
structure DW(K:Frag)(X:Cx)(e:Expr)(t:lV):Prop where
 of:∀{b:Bool}(y:Ev X b),PW y.cx e<|Tt K y.E t
theorem PW.mono{t t':TT}(h:PW X e t)(i:∀τ H Q,t' τ H Q->t τ H Q):PW X e t':=λwh pins s τ H Q I q=>h wh pins s τ H Q I<|i τ H Q q
theorem twd{t:lV}(h:DW K X e t):DT K X e t:=⟨λy=>(h.of y).pt⟩
theorem tw1{t:lV}(h:DT K X a t):DW K X (.BoolOp op [a] pos) t:=⟨λy=>by cases op with|And=>exact pw_and1 (h.of y)|Or=>exact pw_or1<|h.of y⟩
theorem twand{a b:Expr}{rest:mt}{t u:lV}{pos:Pos}(ha:DT K X a t)(hb:DW K X (.BoolOp .And (b::rest) pos) u):DW K X (.BoolOp .And (a::b::rest) pos) (aag t u):=
 ⟨λy=>(pw_and (ha.of y)<|hb.of y).mono <| by rintro τ H Q ⟨σ,S,R,Z,aB,hS,q,hR,hZ⟩;exact
  ⟨σ,S,_,Z,aB,hS,q,λc S1 H1 r1 s1 k1=>by
   cases c with
   |true=>rw[if_pos rfl]at r1⊢;exact{σ,S1,R,Z,aB.ts k1,s1,r1,hR.kp k1,hZ.kp k1}
   |false=>rw[if_neg zd]at r1⊢;exact hR _ S1 H1 r1 s1 k1,hZ⟩⟩
theorem twor{a b:Expr}{rest:mt}{t u:lV}{pos:Pos}(ha:DT K X a t)(hb:DW K X (.BoolOp .Or (b::rest) pos) u):DW K X (.BoolOp .Or (a::b::rest) pos) (dOr t u):=
 ⟨λy=>(pw_or (ha.of y)<|hb.of y).mono <| by rintro τ H Q ⟨σ,S,R,Z,aB,hS,q,hR,hZ⟩;exact
  ⟨σ,S,_,Z,aB,hS,q,λc S1 H1 r1 s1 k1=>by
   cases c with
   |false=>rw[if_neg zd]at r1⊢;exact{σ,S1,R,Z,aB.ts k1,s1,r1,hR.kp k1,hZ.kp k1}
   |true=>rw[if_pos rfl]at r1⊢;exact hR _ S1 H1 r1 s1 k1,hZ⟩⟩
def aah(t:lV)(ta tb:TD):TD:=λσ S R Z=>t σ S (λc S1=>if c=true then ta σ S1 R Z else tb σ S1 R Z) Z
theorem VB{t:lV}(hc:DT K X c t)(ha:DE K X a ta)(hb:DE K X b tb):DE K X (.IfExp c a b pos) (aah t ta tb):=
 ⟨λy=>(HJ (hc.of y) (ha.of y)<|hb.of y).mono <| by rintro τ H Q ⟨σ,S,R,Z,aB,hS,q,hR,hZ⟩;exact
  ⟨σ,S,_,Z,aB,hS,q,λc S1 H1 r1 s1 k1=>by
   cases c with
   |true=>rw[if_pos rfl]at r1⊢;exact{σ,S1,R,Z,aB.ts k1,s1,r1,hR.kp k1,hZ.kp k1}
   |false=>rw[if_neg zd]at r1⊢;exact{σ,S1,R,Z,aB.ts k1,s1,r1,hR.kp k1,hZ.kp k1},hZ⟩⟩
def aai(t:iX):TD:=λσ S R Z=>t σ S (λds S1=>ds.length<=sizeLine/\∀p,S1 p=none->R (.ref p) (S1.set p<|.lst ds)) Z
def aaj(t:iX):TD:=λσ S R Z=>t σ S (λds S1=>ds.length<=sizeLine/\R (.tup ds) S1) Z
theorem cK{t:iX}(h:DA K X es t):DE K X (.List es pos) (aai t):=
 ⟨λy=>(Qb<|h.of y).mono <| by rintro τ H Q ⟨σ,S,R,Z,aB,hS,q,hR,hZ⟩;exact
  ⟨σ,S,_,Z,aB,hS,q,by rintro ds S1 xs H1 ⟨hl,r1⟩ v1 s1 k1;exact⟨by rw[v1.len];exact hl,λp hp=>hR _ _ _ _ (r1 p<|s1.fresh hp) (ia p) (s1.new hp ⟨xs,aD,RvAll.ts (.new hp) _ v1⟩)<|k1.trans<|.new hp⟩,hZ⟩⟩
theorem bc{t:iX}(h:DA K X es t):DE K X (.Tuple es x1 pos) (aaj t):=
 ⟨λy=>(Qa<|h.of y).mono <| by rintro τ H Q ⟨σ,S,R,Z,aB,hS,q,hR,hZ⟩;exact
  ⟨σ,S,_,Z,aB,hS,q,by rintro ds S1 xs H1 ⟨hl,r1⟩ v1 s1 k1;exact⟨by rw[v1.len];exact hl,λp hp=>hR _ _ _ _ r1 (nX aD<|RvAll.ts (.new hp) _ v1) (s1.grow hp)<|k1.trans<|.new hp⟩,hZ⟩⟩
def aak:TD:=λ_ S R _=>∀p,S p=none->R (.ref p) (S.set p<|.cj [])
theorem VC:DE K X (.Dict [] [] pos) aak:=⟨λy=>(Ij (X:=y.cx)).mono <| by rintro τ H Q ⟨σ,S,R,Z,aB,hS,q,hR,hZ⟩ p hp;exact hR _ _ _ _ (q p<|hS.fresh hp) (ia p) (hS.new hp {[],aD,.nil})<|.new hp⟩
def Lc(K:Frag)(r:List D->ak->KD->Prop):List V->Hp->VK->Prop:=λxs H Q=>∃ds S R,RvAll K H ds xs/\Rs K S H/\r ds S R/\Cn K H R Q
def gI(K:Frag)(f:Value)(r:List D->ak->KD->Prop):Prop:=∀X:Cx,X.K=K->X.calm=true->ee X f (Lc K r)
def Yc(r:List D->ak->KD->Prop)(t:iX):TD:=λσ S R Z=>t σ S (λds S1=>r ds S1 R) Z
theorem T.cb{t:iX}(h:T K E (Yc r t) τ H Q):Zu (Lc K r) (Ta K E t) τ H Q:=by obtain⟨σ,S,R,Z,aB,hS,q,hR,hZ⟩:=h;exact{σ,S,_,Z,aB,hS,q,λds S1 xs H1 r1 v1 s1 k1=>{ds,S1,R,v1,s1,r1,hR.kp k1},hZ}
theorem cb{x:Str}{id:String}{r:List D->ak->KD->Prop}{e:Expr}{es:mt}{t:iX}{p pos:Pos}(hc:gI K (.builtin id) r)(hm:X.mg x=none)(hv:bootBuiltins x=some (.builtin id))(ha:DA K X (e::es) t)(hg:autoParam (Gl X x) qQJ)(hn:autoParam (x≠"__name__") qQZ)(t9:autoParam ((x==("__debug__": Str))=false) qQZ)(he:autoParam (starEach (e::es) X.env=(false,eval e X.env)::starEach es X.env) qQJ)(eO:autoParam ((backTo pos<|starEach es X.env).any (·.1)=false) qQJ)(hK:autoParam (X.K=K) qQJ)(hC:autoParam (X.calm=true) qQJ): DE K X (.Call (.Name x p) (e::es) [] pos) (Yc r t):=⟨λy=>(Ad (X:=y.cx) (hc _ hK hC) hg hm hv (ha.of y) hn t9 he eO).mono λ_ _ _ h=>h.cb⟩
theorem ct{x:Str}{id:String}{r:List D->ak->KD->Prop}{e:Expr}{es:mt}{t:iX}{p pos:Pos}(hc:gI K (.type id) r)(hm:X.mg x=none)(hv:bootBuiltins x=some (.type id))(ha:DA K X (e::es) t)(hg:autoParam (Gl X x) qQJ)(hn:autoParam (x≠"__name__") qQZ)(t9:autoParam ((x==("__debug__": Str))=false) qQZ)(he:autoParam (starEach (e::es) X.env=(false,eval e X.env)::starEach es X.env) qQJ)(eO:autoParam ((backTo pos<|starEach es X.env).any (·.1)=false) qQJ)(hK:autoParam (X.K=K) qQJ)(hC:autoParam (X.calm=true) qQJ): DE K X (.Call (.Name x p) (e::es) [] pos) (Yc r t):=⟨λy=>(uT (X:=y.cx) (hc _ hK hC) hg hm hv (ha.of y) hn t9 he eO).mono λ_ _ _ h=>h.cb⟩
end
section
variable{K:Frag}
theorem Cn.now(h:Cn K H R Q)(hS:Rs K S H)(r:R d S)(rv:Rv K H d v):Q v H:=h d S v H r rv hS<|.refl _
theorem Cn.new{H:Hp}{R:KD}{Q:VK}{S:ak}{p:Addr}{ds:List D}{xs:List V}(h:Cn K H R Q)(hS:Rs K S H)(hp:H p=none)(r:S p=none->R (.ref p) (S.set p<|.lst ds))(rv:RvAll K H ds xs):Q (.ref p) (upd H p<|.lst xs):=h _ _ _ _ (r<|hS.fresh hp) (ia p) (hS.new hp {xs,aD,RvAll.ts (.new hp) _ rv})<|.new hp
theorem Cn.VD{H:Hp}{R:KD}{Q:VK}{S:ak}{p:Addr}{ds:List D}{xs:List V}(h:Cn K H R Q)(hS:Rs K S H)(hp:H p=none)(r:R (.tup ds) S)(rv:RvAll K H ds xs):Q (.ref p) (upd H p<|.tup xs):=h _ _ _ _ r (nX aD<|RvAll.ts (.new hp) _ rv) (hS.grow hp)<|.new hp
theorem Cn.put{H:Hp}{R:KD}{Q:VK}{S:ak}{p:Addr}{ds es:List D}{xs:List V}{d:D}{v:V}(h:Cn K H R Q)(hS:Rs K S H)(hp:S p=some (.lst es))(r:R d<|S.set p<|.lst ds)(rd:Rv K H d v)(rv:RvAll K H ds xs):Q v (upd H p<|.lst xs):=h _ _ _ _ r (Rv.ts (hS.fm hp) _ rd) (hS.put hp {xs,aD,RvAll.ts (hS.fm hp) _ rv})<|hS.fm hp
def u4(S:ak):D->List D->Prop|.ref a,ds=>S a=some (.lst ds)|.k8 es,ds=>es=ds|_,_=>False
theorem u4.at{H:Hp}{S:ak}{d:D}{ds:List D}{v:V}(h:u4 S d ds)(hS:Rs K S H)(r:Rv K H d v):∃a xs,v=.ref a/\iQ K H a xs/\RvAll K H ds xs:=by cases d with|ref a=>(obtain⟨xs,e,q⟩:=hS.lst h;exact{a,xs,r.ref,.of e,q})|k8 es=>(have h:es=ds:=h;subst h;obtain⟨a,xs,e,q,t⟩:=r.k8;exact⟨a,xs,e,q.sq,t⟩)|_=>exact h.elim
def aal:tO:=λx y S R=>match x,y with|.int i,.int j=>R (.int<|i-j) S|_,_=>False
theorem mj:nY K (binaryOp .Sub) aal:=by rintro X hK hu pins s σ H x y v u Q I rx ry ⟨d,e,S,R,r1,r2,hS,h,hR⟩;cases d<;>cases e<;>first|exact False.elim h|exact P1 pins s σ H x y v u Q I rx ry {_,_,r1.int,r2.int,hR.now hS h<|aN _}
def aam:tO:=λx y S R=>match x,y with|.int i,.int j=>LB i j/\R (.int<|i*j) S|.str z,.int n=>MulOk z n/\R (.str<|PySem.Txt.mul z n) S|_,_=>False
theorem rK:nY K (binaryOp .Mult) aam:=by rintro X hK hu pins s σ H x y v u Q I rx ry ⟨d,e,S,R,r1,r2,hS,h,hR⟩;cases d<;>cases e<;>first|exact False.elim h|exact P2 pins s σ H x y v u Q I rx ry {_,_,r1.int,r2.int,h.1,hR.now hS h.2<|aN _}|exact CM pins s σ H x y v u Q I rx ry {_,_,r1.str,r2.int,h.1,hR.now hS h.2<|cu _}
def aan:tO:=λx y S R=>match x,y with|.int i,.int j=>0<j/\R (.int<|i%j) S|_,_=>False
theorem bq:nY K (binaryOp .Mod) aan:=by rintro X hK hu pins s σ H x y v u Q I rx ry ⟨d,e,S,R,r1,r2,hS,h,hR⟩;cases d<;>cases e<;>first|exact False.elim h|exact P4 pins s σ H x y v u Q I rx ry {_,_,r1.int,r2.int,h.1,hR.now hS h.2<|aN _}
def VE:tO:=λx y S R=>match x,y with|.int i,.int j=>N6 i j/\R (.int<|i/j) S|_,_=>False
theorem bU:nY K (binaryOp .FloorDiv) VE:=by rintro X hK hu pins s σ H x y v u Q I rx ry ⟨d,e,S,R,r1,r2,hS,h,hR⟩;cases d<;>cases e<;>first|exact False.elim h|exact Ir pins s σ H x y v u Q I rx ry {_,_,r1.int,r2.int,h.1,hR.now hS h.2<|aN _}
def aao:tO:=λx y S R=>match x,y with|.int i,.int j=>UG i j/\R (.int<|i^j.toNat) S|_,_=>False
theorem mm:nY K (binaryOp .Pow) aao:=by rintro X hK hu pins s σ H x y v u Q I rx ry ⟨d,e,S,R,r1,r2,hS,h,hR⟩;cases d<;>cases e<;>first|exact False.elim h|exact P5 pins s σ H x y v u Q I rx ry {_,_,r1.int,r2.int,h.1,hR.now hS h.2<|aN _}
def IM(f:Int->Int->Bool)(g:Str->Str->Bool):tO:=λx y S R=>match x,y with|.int i,.int j=>R (.bl<|f i j) S|.str i,.str j=>R (.bl<|g i j) S|_,_=>False
theorem EA(h1:∀X:Cx,gv X (compareOp op)<|Lz λi j=>.bl<|f i j)(h2:∀X:Cx,gv X (compareOp op) λx y H Q=>∃i j,x=.str i/\y=.str j/\Q (.bl<|g i j) H):nY K (compareOp op) (IM f g):=by rintro X hK hu pins s σ H x y v u Q I rx ry ⟨d,e,S,R,r1,r2,hS,h,hR⟩;cases d<;>cases e<;>first|exact False.elim h|exact h1 X pins s σ H x y v u Q I rx ry {_,_,r1.int,r2.int,hR.now hS h<|b_ _}|exact h2 X pins s σ H x y v u Q I rx ry {_,_,r1.str,r2.str,hR.now hS h<|b_ _}
theorem rL:nY K (compareOp .Lt) (IM (λi j=>decide<|i<j) λi j=>nK i j):=EA (λ_=>UI) λ_=>FO
theorem jb:nY K (compareOp .LtE) (IM (λi j=>decide<|i<=j) λi j=>Ht i j):=EA (λ_=>UJ) λ_=>Gb
theorem qk:nY K (compareOp .Gt) (IM (λi j=>decide<|j<i) λi j=>nK j i):=EA (λ_=>UK) λ_=>Gf
theorem aap:nY K (compareOp .GtE) (IM (λi j=>decide<|j<=i) λi j=>Ht j i):=EA (λ_=>UL) λ_=>Ge
noncomputable def ah:D->Bool|.au=>true|_=>false
theorem Az(r:Rv K H d v):decide (v=.au)=ah d:=by cases d with|au=>rw[r.au];rfl|bl b=>rw[r.bl];rfl|int b=>rw[r.int];rfl|str b=>rw[r.str];rfl|ref b=>rw[r.ref];rfl|ty b=>rw[r.ty];rfl|tup b=>(obtain⟨a,xs,rfl,_⟩:=r.tup;rfl)|k8 b=>(obtain⟨a,xs,rfl,_⟩:=r.k8;rfl)|kt b=>obtain⟨a,xs,rfl,_⟩:=r.kt;rfl
def isD:tO:=λx y S R=>match y with|.au=>R (.bl<|ah x) S|_=>False
def VF:tO:=λx y S R=>match y with|.au=>R (.bl<|!ah x) S|_=>False
theorem ib:nY K (compareOp .Is) isD:=by rintro X hK hu pins s σ H x y v u Q I rx ry ⟨d,e,S,R,r1,r2,hS,h,hR⟩;cases e<;>first|exact False.elim h|exact P7 pins s σ H x y v u Q I rx ry {r2.au,by rw[Az r1];exact hR.now hS h<|b_ _}
theorem jc:nY K (compareOp .IsNot) VF:=by rintro X hK hu pins s σ H x y v u Q I rx ry ⟨d,e,S,R,r1,r2,hS,h,hR⟩;cases e<;>first|exact False.elim h|exact LC pins s σ H x y v u Q I rx ry {r2.au,by rw[Az r1];exact hR.now hS h<|b_ _}
mutual
def Dp(S:ak):D->PyData->Prop|.au,p=>p=.none|.bl b,p=>p=.bool b|.int i,p=>p=.int i|.str z,p=>p=.str z|.tup ds,p=>∃ps,p=.tuple ps/\DpAll S ds ps|.k8 ds,p=>∃ps,p=.list ps/\DpAll S ds ps|.kt _,_=>False|.ref _,_=>False|.ty _,_=>False
def DpAll(S:ak):List D->List PyData->Prop|[],ps=>ps=[]|d::ds,ps=>∃q qs,ps=q::qs/\Dp S d q/\DpAll S ds qs
end
mutual
theorem Dp.dt:∀(d:D){p:PyData}{v:V},Dp S d p->Rv K H d v->Dt K H p v|.au,p,v,h,r=>by simp only[Dp]at h;subst h;simp only[Dt];exact r.au|.bl b,p,v,h,r=>by simp only[Dp]at h;subst h;simp only[Dt];exact r.bl|.int b,p,v,h,r=>by simp only[Dp]at h;subst h;simp only[Dt];exact r.int|.str b,p,v,h,r=>by simp only[Dp]at h;subst h;simp only[Dt];exact r.str|.tup ds,p,v,h,r=>(by simp only[Dp]at h;obtain⟨ps,rfl,h⟩:=h;obtain⟨a,xs,rfl,q,t⟩:=r.tup;simp only[Dt];exact{a,xs,rfl,.of q,DpAll.dt ds h t})|.k8 ds,p,v,h,r=>(by simp only[Dp]at h;obtain⟨ps,rfl,h⟩:=h;obtain⟨a,xs,rfl,q,t⟩:=r.k8;simp only[Dt];exact{a,xs,rfl,q.sq,DpAll.dt ds h t})|.kt a,p,v,h,r=>by simp only[Dp]at h|.ref a,p,v,h,r=>by simp only[Dp]at h|.ty a,p,v,h,r=>by simp only[Dp]at h
theorem DpAll.dt:∀(ds:List D){ps:u8}{vs:List V},DpAll S ds ps->RvAll K H ds vs->DtAll K H ps vs|[],ps,vs,h,r=>by simp only[DpAll]at h;subst h;rw[r.nil];simp only[DtAll]|d::ds,ps,vs,h,r=>by simp only[DpAll]at h;obtain⟨q,qs,rfl,h1,h2⟩:=h;obtain⟨y,ys,rfl,r1,r2⟩:=r.cons;simp only[DtAll];exact{y,ys,rfl,Dp.dt d h1 r1,DpAll.dt ds h2 r2}
end
def Dl(S:ak):D->PyData->Prop|.ref a,p=>∃ds ps,S a=some (.lst ds)/\p=.list ps/\DpAll S ds ps|d,p=>Dp S d p
theorem Dl.dt(h:Dl S d p)(hS:Rs K S H)(r:Rv K H d v):Dt K H p v:=by cases d with|ref a=>(obtain⟨ds,ps,e,rfl,h⟩:=h;obtain⟨xs,e1,t⟩:=hS.lst e;rw[r.ref];simp only[Dt];exact{a,xs,rfl,.of e1,DpAll.dt ds h t})|_=>exact Dp.dt _ h r
def EB(neg:Bool):tO:=λx y S R=>match x,y with|.int i,.int j=>(R (.bl<|if neg then !decide (i=j) else decide (i=j)) S)|.str i,.str j=>(R (.bl<|if neg then !decide (i=j) else decide (i=j)) S)|x,y=>∃p q,Dl S x p/\Dl S y q/\p.canLay0=true/\q.canLay0=true/\(p.depth<=64\/q.depth<=64)/\R (.bl<|if neg then !PyData.eqv p q else PyData.eqv p q) S
theorem IP(h:EB neg x y S R):(∃i j,x=.int i/\y=.int j/\R (.bl<|if neg then !decide (i=j) else decide (i=j)) S)\/(∃i j,x=.str i/\y=.str j/\R (.bl<|if neg then !decide (i=j) else decide (i=j)) S)\/∃p q,Dl S x p/\Dl S y q/\p.canLay0=true/\q.canLay0=true/\(p.depth<=64\/q.depth<=64)/\R (.bl<|if neg then !PyData.eqv p q else PyData.eqv p q) S:=by cases x<;>cases y<;>first|exact .inl {_,_,rfl,rfl,h}|exact .inr (.inl {_,_,rfl,rfl,h})|exact .inr (.inr h)
theorem aL:nY K (compareOp .Eq) (EB false):=by
 rintro X hK hu pins s σ H x y v u Q I rx ry ⟨d,e,S,R,r1,r2,hS,h,hR⟩;subst hK;rcases IP h with⟨i,j,rfl,rfl,h⟩|⟨i,j,rfl,rfl,h⟩|⟨p,q,h1,h2,c1,c2,dp,h⟩;cases r1.int;cases r2.int;refine NW pins s σ H _ _ v u Q I rx ry {rfl,?_};have e:decide (V.int i=V.int j)=decide (i=j):=by simp
 rw[e];exact hR.now hS h<|b_ _;cases r1.str;cases r2.str;refine NW pins s σ H _ _ v u Q I rx ry {rfl,?_};have e:decide (V.str i=V.str j)=decide (i=j):=by simp
 rw[e];exact hR.now hS h<|b_ _;exact QG hu pins s σ H x y v u Q I rx ry {p,q,h1.dt hS r1,h2.dt hS r2,c1,c2,dp,hR.now hS h<|b_ _}
theorem k9:nY K (compareOp .NotEq) (EB true):=by
 rintro X hK hu pins s σ H x y v u Q I rx ry ⟨d,e,S,R,r1,r2,hS,h,hR⟩;subst hK;rcases IP h with⟨i,j,rfl,rfl,h⟩|⟨i,j,rfl,rfl,h⟩|⟨p,q,h1,h2,c1,c2,dp,h⟩;cases r1.int;cases r2.int;refine NX pins s σ H _ _ v u Q I rx ry {rfl,?_};have e:decide (V.int i=V.int j)=decide (i=j):=by simp
 rw[e];exact hR.now hS h<|b_ _;cases r1.str;cases r2.str;refine NX pins s σ H _ _ v u Q I rx ry {rfl,?_};have e:decide (V.str i=V.str j)=decide (i=j):=by simp
 rw[e];exact hR.now hS h<|b_ _;exact IC hu pins s σ H x y v u Q I rx ry {p,q,h1.dt hS r1,h2.dt hS r2,c1,c2,dp,hR.now hS h<|b_ _}
noncomputable def cn(kvs:List<|Key×D)(k:Key):Option D:=(kvs.find? λkv=>decide<|kv.1=k).map (·.2)
noncomputable def dput(kvs:List<|Key×D)(k:Key)(v:D):List (Key×D):=if (kvs.any λkv=>decide<|kv.1=k)=true then kvs.map (λkv=>if kv.1=k then (kv.1,v) else kv) else kvs++[(k,v)]
noncomputable def AA(kvs:List<|Key×D)(k:Key):List (Key×D):=kvs.filter λkv=>decide<|kv.1≠k
theorem bB.val(h:bB K H ks vs)(k:Key):(∀d,cn ks k=some d->∃v,fQ vs k=some v/\Rv K H d v)/\(cn ks k=none->fQ vs k=none):=by induction h with|nil=>(exact{λd e=>(by cases e),λ_=>rfl})|@cons a b l m r t ih=>obtain⟨k',d⟩:=a;obtain⟨k'',v⟩:=b;obtain⟨e0,r⟩:=r;dsimp only at e0;subst e0;unfold cn fQ;simp only[yb];by_cases q:k'=k;rw[zu q];exact{λd' e=>{v,rfl,(by cases e;exact r)},λe=>(by cases e)};rw[zx q];exact ih
theorem bB.any(h:bB K H ks vs)(k:Key):(ks.any λkv=>decide<|kv.1=k)=(vs.any λkv=>decide<|kv.1=k):=by induction h with|nil=>rfl|cons r t ih=>rw[yT,yT,ih,r.1]
theorem bB.len(h:bB K H ks vs):vs.length=ks.length:=(yX h).symm
theorem bB.app:∀{ks ls:List (κ×D)}{vs ws:List (κ×V)},bB K H ks vs->bB K H ls ws->bB K H (ks++ls) (vs++ws)|_,_,_,_,.nil,h=>h|_,_,_,_,.cons r t,h=>.cons r<|bB.app t h
theorem bB.Qp(h:bB K H ks vs)(k:Key)(rd:Rv K H d v):bB K H (ks.map λkv=>if kv.1=k then (kv.1,d) else kv) (vs.map λkv=>if kv.1=k then (kv.1,v) else kv):=by induction h with|nil=>exact .nil|@cons a b l m r t ih=>refine .cons ?_ ih;dsimp only;by_cases q:b.1=k;rw[if_pos q,if_pos<|r.1.trans q];exact⟨r.1,rd⟩;rw[if_neg q,if_neg λz=>q<|r.1.symm.trans z];exact r
theorem bB.put(h:bB K H ks vs)(k:Key)(rd:Rv K H d v):bB K H (dput ks k d) (putK vs k v):=by unfold dput putK;rw[h.any k];split;exact h.Qp k rd;exact h.app<|.cons ⟨rfl,rd⟩ .nil
theorem bB.drop(h:bB K H ks vs)(k:Key):bB K H (AA ks k) (pz vs k):=by unfold AA pz;induction h with|nil=>exact .nil|@cons a b l m r t ih=>rw[yw,yw,r.1];by_cases q:b.1=k;rw[if_neg<|by simp[q],if_neg<|by simp[q]];exact ih;rw[if_pos<|by simp[q],if_pos<|by simp[q]];exact .cons r ih
noncomputable def CY:D->Option Key|.int i=>some (.inl i)|.str z=>some (.inr z)|_=>none
theorem nZ(h:CY d=some k)(r:Rv K H d v):v=kV k:=by cases d with|int i=>(cases h;exact r.int)|str i=>(cases h;exact r.str)|_=>cases h
noncomputable def jd:D->Bool|.au=>true|.bl _=>true|.int _=>true|.str _=>true|_=>false
noncomputable def kh:D->V|.au=>.au|.bl b=>.bl b|.int i=>.int i|.str z=>.str z|.ref a=>.ref a|.ty n=>.ty n|_=>.au
theorem rM(h:jd d=true)(r:Rv K H d v):v=kh d/\gH v=true:=by cases d with|au=>(cases r.au;exact⟨rfl,rfl⟩)|bl b=>(cases r.bl;exact⟨rfl,rfl⟩)|int b=>(cases r.int;exact⟨rfl,rfl⟩)|str b=>(cases r.str;exact⟨rfl,rfl⟩)|_=>cases h
theorem mn:∀{ds:List D}{vs:List V},ds.all jd=true->RvAll K H ds vs->vs=ds.map kh/\vs.all gH=true|[],vs,_,r=>by rw[r.nil];exact⟨rfl,rfl⟩|d::ds,vs,h,r=>by obtain⟨y,ys,rfl,r1,r2⟩:=r.cons;rw[List.all_cons,zA]at h;obtain⟨e1,f1⟩:=rM h.1 r1;obtain⟨e2,f2⟩:=mn h.2 r2;refine{by rw[e1,e2];rfl,?_};rw[List.all_cons,f1,f2];rfl
def inD(neg:Bool):tO:=λx y S R=>match y with|.str j=>(∃i,x=.str i/\R (.bl<|if neg then !(!(Builtin.Str.occurrences j i 0 j.length 1).isEmpty) else !(Builtin.Str.occurrences j i 0 j.length 1).isEmpty) S)|.kt ds=>(jd x=true/\ds.all jd=true/\R (.bl<|if neg then !wa (kh x) (ds.map kh) else wa (kh x) (ds.map kh)) S)|.tup ds=>(jd x=true/\ds.all jd=true/\R (.bl<|if neg then !wa (kh x) (ds.map kh) else wa (kh x) (ds.map kh)) S)|.ref a=>((∃ds,S a=some (.lst ds)/\jd x=true/\ds.all jd=true/\R (.bl<|if neg then !wa (kh x) (ds.map kh) else wa (kh x) (ds.map kh)) S)\/∃kvs k,S a=some (.cj kvs)/\CY x=some k/\R (.bl<|if neg then !(cn kvs k).isSome else (cn kvs k).isSome) S)|_=>False
theorem wu(hS:Rs K S H)(e:S a=some (.cj kvs)):∃o,qh H a (kV k) o/\o.isSome=(cn kvs k).isSome/\∀d,cn kvs k=some d->∃v,o=some v/\Rv K H d v:=by obtain⟨vs,e1,t⟩:=hS.cj e;refine{_,qh.k e1,?_,λd h=>(t.val k).1 d h};cases q:cn kvs k with|none=>rw[(t.val k).2 q];rfl|some d=>obtain⟨v,e2,_⟩:=(t.val k).1 d q;rw[e2];rfl
theorem rN:nY K (compareOp .In) (inD false):=by rintro X hK hu pins s σ H x y v u Q I rx ry ⟨d,e,S,R,r1,r2,hS,h,hR⟩;subst hK;cases e with|str j=>(obtain⟨i,rfl,h⟩:=h;exact FP pins s σ H x y v u Q I rx ry {i,j,r1.str,r2.str,hR.now hS h<|b_ _})|tup ds=>(obtain⟨f1,f2,h⟩:=h;obtain⟨a,xs,rfl,q,t⟩:=r2.tup;obtain⟨e1,g1⟩:=rM f1 r1;obtain⟨e2,g2⟩:=mn f2 t;subst e1 e2;exact nU pins s σ H _ _ v u Q I rx ry {a,_,rfl,.inr<|.of q,g1,g2,hR.now hS h<|b_ _})|kt ds=>(obtain⟨f1,f2,h⟩:=h;obtain⟨a,xs,rfl,q,t⟩:=r2.kt;obtain⟨e1,g1⟩:=rM f1 r1;obtain⟨e2,g2⟩:=mn f2 t;subst e1 e2;exact nU pins s σ H _ _ v u Q I rx ry {a,_,rfl,.inr<|.inr q,g1,g2,hR.now hS h<|b_ _})|ref a=>(cases r2.ref;rcases h with⟨ds,e,f1,f2,h⟩|⟨kvs,k,e,hk,h⟩;obtain⟨xs,e1,t⟩:=hS.lst e;obtain⟨e2,g1⟩:=rM f1 r1;obtain⟨e3,g2⟩:=mn f2 t;subst e2 e3;exact nU pins s σ H _ _ v u Q I rx ry {a,_,rfl,.inl<|.of e1,g1,g2,hR.now hS h<|b_ _};cases nZ hk r1;cases ry;obtain⟨o,g,e1,_⟩:=wu (k:=k) hS e;refine ZG (by lia) I g rx λs' I'=>{.bl o.isSome,H,I',rfl,?_};rw[e1];exact hR.now hS h<|b_ _)|_=>exact h.elim
def IxD(K:Frag)(r:tO):Prop:=∀X:Cx,X.K=K->X.A.units+64<cLine->UT X (Lr K r)
inductive Yd(ds:List D)(i:Int)(S:ak)(R:KD):Prop where
 |mk (d:D)(h:iW ds i=some d)(r:R d S)
inductive AtL(a:Addr)(i:Int)(S:ak)(R:KD):Prop where
 |mk (ds:List D)(d:D)(e:S a=some (.lst ds))(h:iW ds i=some d)(r:R d S)
def ixD:tO:=λx y S R=>match x,y with|.tup ds,.int i=>Yd ds i S R|.kt ds,.int i=>Yd ds i S R|.k8 ds,.int i=>Yd ds i S R|.str z,.int i=>∃c,z.length<=sizeLine/\iW z.cps.toList i=some c/\R (.str ⟨#[c]⟩) S|.ref a,.int i=>AtL a i S R|.ref a,.str z=>∃kvs d,S a=some (.cj kvs)/\cn kvs (.inr z)=some d/\R d S|_,_=>False
theorem RvAll.at{H:Hp}{ds:List D}{xs:List V}{i:Int}{d:D}(h:RvAll K H ds xs)(e:iW ds i=some d):∃v,iW xs i=some v/\Rv K H d v:=by unfold iW at e⊢;rw[h.len];cases q:FZ ds.length i with|none=>(rw[q]at e;cases e)|some j=>rw[q]at e;exact h.get e
theorem aas:IxD K ixD:=by rintro X hK hu value slice pins s σ H x y v u Q I rx ry ⟨d,e,S,R,r1,r2,hS,h,hR⟩ hs;subst hK;cases d with|tup ds=>(cases e with|int i=>(obtain⟨d,e,h⟩:=h;obtain⟨a,xs,rfl,q,t⟩:=r1.tup;obtain⟨z,e1,r⟩:=t.at e;exact HY value slice pins s σ H _ _ v u Q I rx ry {a,xs,i,z,rfl,r2.int,.of q,e1,hR.now hS h r} hs)|_=>exact h.elim)|kt ds=>(cases e with|int i=>(obtain⟨d,e,h⟩:=h;obtain⟨a,xs,rfl,q,t⟩:=r1.kt;obtain⟨z,e1,r⟩:=t.at e;exact HY value slice pins s σ H _ _ v u Q I rx ry {a,xs,i,z,rfl,r2.int,.inr q,e1,hR.now hS h r} hs)|_=>exact h.elim)|k8 ds=>(cases e with|int i=>(obtain⟨d,e,h⟩:=h;obtain⟨a,xs,rfl,q,t⟩:=r1.k8;obtain⟨z,e1,r⟩:=t.at e;exact Em value slice pins s σ H _ _ v u Q I rx ry {a,xs,i,z,rfl,r2.int,q.sq,e1,hR.now hS h r} hs)|_=>exact h.elim)|str w=>(cases e with|int i=>(obtain⟨c,e0,e,h⟩:=h;exact Qe value slice pins s σ H _ _ v u Q I rx ry {w,i,c,r1.str,r2.int,e0,e,hR.now hS h<|cu _} hs)|_=>exact h.elim)|ref a=>(cases e with|int i=>(obtain⟨ds,d,e,e1,h⟩:=h;obtain⟨xs,e2,t⟩:=hS.lst e;obtain⟨z,e3,r⟩:=t.at e1;exact Em value slice pins s σ H _ _ v u Q I rx ry {a,xs,i,z,r1.ref,r2.int,.of e2,e3,hR.now hS h r} hs)|str w=>(obtain⟨kvs,d,e,e1,h⟩:=h;cases r1.ref;cases r2.str;cases rx;obtain⟨o,g,_,e2⟩:=wu (k:=.inr w) hS e;obtain⟨z,rfl,r⟩:=e2 d e1;exact tail_any (Ah I g) PySem.F.slot_dict_getitem.lookup (F6 (by lia) I g ry λw' s' I' l6=>{z,H,I',l6,hR.now hS h r}) hs)|_=>exact h.elim)|_=>exact h.elim
theorem ix(hu:X.A.units+64<cLine)(ha:DE K X a ta)(hb:DE K X b tb)(hs:autoParam (El b) qJ1)(hK:autoParam (X.K=K) qQJ):DE K X (.Subscript a b pos) (QX ixD ta tb):=⟨λy=>(UU (aas y.cx hK hu) (ha.of y) (hb.of y) hs).mono λ_ _ _ h=>h.op⟩
theorem bn(ha:DE K X a ta)(hb:DE K X b tb)(hu:X.A.units+64<cLine:=by assumption)(hs:autoParam (El b) qJ1)(hK:autoParam (X.K=K) qQJ):DE K X (.Subscript a b pos) (QX ixD ta tb):=ix  hu ha hb hs hK
end
section
variable{K:Frag}{X:Cx}
abbrev Od:=SD->ak->(Option Int->ak->Prop)->KX->Prop
def To(K:Frag)(E:St->XK)(t:Od):TO:=λτ H Q=>∃σ S R Z,g_ K H σ τ/\Rs K S H/\t σ S R Z/\(∀o S' H',R o S'->Rs K S' H'->Kp K H H'->Q o H')/\Ez K H Z (E τ)
structure DO(K:Frag)(X:Cx)(e:pp)(t:Od):Prop where
 of:∀{b:Bool}(y:Ev X b),PO y.cx e<|To K y.E t
theorem PO.mono{t t':TO}(h:PO X e t)(i:∀τ H Q,t' τ H Q->t τ H Q):PO X e t':=λpins s τ H Q I q=>h pins s τ H Q I<|i τ H Q q
def VG:Od:=λ_ S R _=>R none S
inductive VH(d:D)(S:ak)(R:Option Int->ak->Prop):Prop where
 |mk (i:Int)(h:d=.int i)(r:R (some i) S)
def VI(t:TD):Od:=λσ S R Z=>t σ S (λd S1=>VH d S1 R) Z
theorem o0:DO K X none VG:=⟨λy=>(LM (X:=y.cx)).mono <| by rintro τ H Q ⟨σ,S,R,Z,aB,hS,q,hR,hZ⟩;exact hR _ S H q hS<|.refl _⟩
theorem o1{t:TD}(h:DE K X e t):DO K X (some e) (VI t):=⟨λy=>(LN<|h.of y).mono <| by rintro τ H Q ⟨σ,S,R,Z,aB,hS,q,hR,hZ⟩;exact{σ,S,_,Z,aB,hS,q,by rintro d S1 x H1 ⟨i,e,r1⟩ v1 s1 k1;exact by subst e;exact{i,v1.int,hR _ S1 H1 r1 s1 k1},hZ}⟩
noncomputable def cq{α:Type}(xs:List α)(lo hi:re):List α:=(xs.drop<|HT.sIx xs.length 0 lo).take<|HT.sIx xs.length xs.length hi-HT.sIx xs.length 0 lo
theorem RvAll.cut{H:Hp}{ds:List D}{xs:List V}(h:RvAll K H ds xs)(lo hi:re):RvAll K H (cq ds lo hi) (FY xs lo hi):=by unfold cq FY;rw[h.len];exact(h.drop _).take _
def aat(te:TD):TD:=λσ S R Z=>te σ S (λx S1=>∃i,x=.int i/\R (.int (-i)) S1) Z
theorem Gu(he:DE K X e te):DE K X (.UnaryOp .USub e pos) (aat te):=⟨λy=>(UD P6<|he.of y).mono <| by rintro τ H Q ⟨σ,S,R,Z,aB,hS,q,hR,hZ⟩;exact{σ,S,_,Z,aB,hS,q,by rintro d S1 x H1 ⟨i,e,r1⟩ v1 s1 k1;exact by subst e;exact{i,v1.int,hR _ S1 _ H1 r1 (aN _) s1 k1},hZ}⟩
def tyD(T:String)(S:ak):D->Prop|.str _=>T ="str"|.ref a=>T ="list"/\∃ds,S a=some (.lst ds)|.k8 _=>T ="list"|_=>False
theorem Oe{H:Hp}{S:ak}{T:String}{d:D}{v:V}(h:tyD T S d)(hS:Rs K S H)(r:Rv K H d v):X6 K T v H:=by cases d with|str z=>rw[r.str];exact h|ref a=>(obtain⟨e,ds,h⟩:=h;obtain⟨xs,e1,_⟩:=hS.lst h;rw[r.ref];exact .inl {e,xs,.of e1})|k8 ds=>(obtain⟨a,xs,rfl,q,_⟩:=r.k8;exact .inl ⟨h,xs,q.sq⟩)|_=>exact h.elim
abbrev Gv:=D->List D->ak->KD->Prop
def Lm(K:Frag)(r:Gv):V->List V->Hp->VK->Prop:=λx xs H Q=>∃d ds S R,Rv K H d x/\RvAll K H ds xs/\Rs K S H/\r d ds S R/\Cn K H R Q
def Mw(K:Frag)(id:String)(r:Gv):Prop:=∀X:Cx,X.K=K->Te X id (Lm K r)
def dBM(T:String)(r:Gv)(to:TD)(t:iX):TD:=λσ S R Z=>to σ S (λx S1=>tyD T S1 x/\t σ S1 (λds S2=>r x ds S2 R) Z) Z
def aav(T:String)(r:Gv)(to:TD):TD:=λσ S R Z=>to σ S (λx S1=>tyD T S1 x/\r x [] S1 R) Z
theorem bm{o e:Expr}{es:mt}{T id:String}{name:Str}{r:Gv}{to:TD}{t:iX}{apos aP:Pos}(pa:PlainAttrs T)(slot:Slot T name id)(Qi:typeOf (.builtin id)=pure (.type "method_descriptor"))(hm:Mw K id r)(ho:DE K X o to)(ha:DA K X (e::es) t)(q9:autoParam (attributeBase o name X.env (eval o X.env)=eval o X.env) qQJ)(Qj:autoParam (((backTo aP<|starEach (e::es) X.env).all (λx=>!x.1)&&(backToKw aP<|keywordEach [] X.env).all (λx=>x.1.isSome)&&decide ((e::es).length+([]:rp).length+(if ([]:rp).isEmpty then 0 else 1)<30))=true) qQJ)(q_:autoParam ((apos.endLine==aP.line)=true) qQJ)(hs:autoParam (starEach (e::es) X.env=(false,eval e X.env)::starEach es X.env) qQJ)(Cu:autoParam ((backTo aP<|starEach es X.env).any (·.1)=false) qQJ)(hK:autoParam (X.K=K) qQJ): DE K X (.Call (.Attribute o name apos) (e::es) [] aP) (dBM T r to t):=by
 subst hK
 exact⟨λy=>(UX (X:=y.cx) pa slot Qi (hm _ rfl) (ho.of y) (ha.of y) q9 Qj q_ hs Cu).mono <| by rintro τ H Q ⟨σ,S,R,Z,aB,hS,q,hR,hZ⟩;exact
  ⟨σ,S,_,Z,aB,hS,q,by rintro d S1 x H1 ⟨h1,r1⟩ v1 s1 k1;exact⟨Oe h1 s1 v1,σ,S1,_,Z,aB.ts k1,s1,r1,λds S2 xs H2 r2 v2 s2 k2=>⟨d,ds,S2,R,Rv.ts k2 _ v1,v2,s2,r2,hR.kp<|k1.trans k2⟩,hZ.kp k1⟩,hZ⟩⟩
theorem bm0{o:Expr}{T id:String}{name:Str}{r:Gv}{to:TD}{apos aP:Pos}(pa:PlainAttrs T)(slot:Slot T name id)(Qi:typeOf (.builtin id)=pure (.type "method_descriptor"))(hm:Mw K id r)(ho:DE K X o to)(q9:autoParam (attributeBase o name X.env (eval o X.env)=eval o X.env) qQJ)(q_:autoParam ((apos.endLine==aP.line)=true) qQJ)(hK:autoParam (X.K=K) qQJ): DE K X (.Call (.Attribute o name apos) [] [] aP) (aav T r to):=by
 subst hK
 exact⟨λy=>(Qh (X:=y.cx) pa slot Qi (hm _ rfl) (ho.of y) q9 q_).mono <| by rintro τ H Q ⟨σ,S,R,Z,aB,hS,q,hR,hZ⟩;exact
  ⟨σ,S,_,Z,aB,hS,q,by rintro d S1 x H1 ⟨h1,r1⟩ v1 s1 k1;exact⟨Oe h1 s1 v1,d,[],S1,R,v1,bu,s1,r1,hR.kp k1⟩,hZ⟩⟩
theorem RvAll.one(h:RvAll K H [d] xs):∃v,xs=[v]/\Rv K H d v:=by obtain⟨y,ys,rfl,h1,h2⟩:=h.cons;rw[h2.nil];exact⟨y,rfl,h1⟩
inductive VJ(x:D)(ds:List D)(S:ak)(R:KD):Prop where
 |mk (a:Addr)(es:List D)(d:D)(e1:x=.ref a)(e2:ds=[d])(e3:S a=some (.lst es))(e4:es.length<sizeLine)(r:R .au<|S.set a<|.lst<|es++[d])
def Mx:Gv:=λx ds S R=>VJ x ds S R
theorem cL:Mw K "list.append" Mx:=by rintro X hK pins s σ H x xs v us Q I rx rs ⟨d,ds,S,R,r1,r2,hS,⟨a,es,y,e1,e2,e3,hl,h⟩,hR⟩;subst e1 e2;obtain⟨w0,rfl,q2⟩:=r2.one;obtain⟨zs,e4,t⟩:=hS.lst e3;exact F5 pins s σ H x _ v us Q I rx rs {a,zs,w0,r1.ref,rfl,e4,by rw[t.len];exact hl,hR.put hS e3 h gA<|t.app<|aT q2 bu}
def aax:Gv:=λx ds S R=>∃a es d,x=.ref a/\ds=[]/\S a=some (.lst es)/\es[es.length-1]?=some d/\R d (S.set a<|.lst es.dropLast)
theorem VL:Mw K "list.pop" aax:=by rintro X hK pins s σ H x xs v us Q I rx rs ⟨d,ds,S,R,r1,r2,hS,⟨a,es,y,e1,e2,e3,hl,h⟩,hR⟩;subst e1 e2;obtain⟨zs,e4,t⟩:=hS.lst e3;obtain⟨w,e5,r⟩:=t.get hl;exact Ql pins s σ H x _ v us Q I rx rs {a,zs,w,r1.ref,r2.nil,e4,by rw[t.len];exact e5,hR.put hS e3 h r t.dropLast}
def QZ:Gv:=λx ds S R=>∃a es i k d,x=.ref a/\ds=[.int i]/\S a=some (.lst es)/\-(2^63)<=i/\i<2^63/\seqIndex? i es.length=some k/\es[k]?=some d/\R d (S.set a<|.lst<|es.eraseIdx k)
theorem Mz:Mw K "list.pop" QZ:=by rintro X hK pins s σ H x xs v us Q I rx rs ⟨d,ds,S,R,r1,r2,hS,⟨a,es,i,k,y,e1,e2,e3,h1,h2,h3,h4,h⟩,hR⟩;subst e1 e2;obtain⟨w0,rfl,q2⟩:=r2.one;obtain⟨zs,e4,t⟩:=hS.lst e3;obtain⟨w,e5,r⟩:=t.get h4;exact Ib pins s σ H x _ v us Q I rx rs {a,zs,i,k,w,r1.ref,by rw[q2.int],e4,h1,h2,by rw[t.len];exact h3,e5,hR.put hS e3 h r<|t.erase k}
def MA:Gv:=λx ds S R=>∃(es:List D)(d:D)(j:Nat),ds=[d]/\u4 S x es/\jd d=true/\es.all jd=true/\(∃z,es[j]?=some z/\eqV (kh z) (kh d)=true)/\(∀m u,m<j->es[m]?=some u->eqV (kh u) (kh d)=false)/\R (.int j) S
theorem rO:Mw K "list.index" MA:=by rintro X hK pins s σ H x xs v us Q I rx rs ⟨d,ds,S,R,r1,r2,hS,⟨es,y,j,e2,e3,f1,f2,⟨z,e4,e5⟩,h4,h⟩,hR⟩;subst hK e2;obtain⟨w0,rfl,q2⟩:=r2.one;obtain⟨a,zs,rfl,q,t⟩:=e3.at hS r1;obtain⟨g1,g2⟩:=rM f1 q2;obtain⟨g3,g4⟩:=mn f2 t;subst g1 g3;refine Gr pins s σ H _ _ v us Q I rx rs {a,_,_,kh z,j,rfl,rfl,q,g2,g4,by rw[zm,e4];rfl,e5,λm u hm e=>?_,hR.now hS h<|aN _};rw[zm]at e;cases q2:es[m]? with|none=>(rw[q2]at e;cases e)|some u'=>rw[q2]at e;cases e;exact h4 m u' hm q2
def MB:Gv:=λx ds S R=>∃z y,x=.str z/\ds=[.str y]/\R (.bl<|PySem.Txt.startswith z y) S
theorem IQ:Mw K "str.startswith" MB:=by rintro X hK pins s σ H x xs v us Q I rx rs ⟨d,ds,S,R,r1,r2,hS,⟨z,y,e1,e2,h⟩,hR⟩;subst e1 e2;obtain⟨w0,rfl,q2⟩:=r2.one;exact uf pins s σ H _ _ v us Q I rx rs {z,y,r1.str,by rw[q2.str],hR.now hS h<|b_ _}
def VM(S:ak)(R:KD):D->Prop|.str z=>z.length<=sizeLine/\R (.int z.length) S|.tup es=>R (.int es.length) S|.kt es=>R (.int es.length) S|.k8 es=>R (.int es.length) S|.ref a=>(∃es,S a=some (.lst es)/\R (.int es.length) S)\/∃kvs,S a=some (.cj kvs)/\R (.int kvs.length) S|_=>False
inductive VN(ds:List D)(S:ak)(R:KD):Prop where
 |mk (x:D)(h:ds=[x])(r:VM S R x)
def aay:List D->ak->KD->Prop:=λds S R=>VN ds S R
theorem br:gI K (.builtin "len") aay:=by rintro X hK hc pins s σ H xs us Q I rx ⟨ds,S,R,r,hS,⟨x,e,h⟩,hR⟩;subst hK e;obtain⟨w,rfl,r'⟩:=r.one;cases x with|str z=>(cases r'.str;exact i6 pins s σ H _ us Q I rx {_,_,rfl,⟨h.1,rfl⟩,hR.now hS h.2<|aN _})|tup es=>(obtain⟨a,xs,rfl,q,t⟩:=r'.tup;exact i6 pins s σ H _ us Q I rx {_,_,rfl,.inr {xs,.of q,t.len.symm},hR.now hS h<|aN _})|kt es=>(obtain⟨a,xs,rfl,q,t⟩:=r'.kt;exact i6 pins s σ H _ us Q I rx {_,_,rfl,.inr {xs,.inr q,t.len.symm},hR.now hS h<|aN _})|k8 es=>(obtain⟨a,xs,rfl,q,t⟩:=r'.k8;exact i6 pins s σ H _ us Q I rx {_,_,rfl,.inl ⟨xs,q.sq,t.len.symm⟩,hR.now hS h<|aN _})|ref a=>(cases r'.ref;rcases h with⟨es,e,h⟩|⟨kvs,e,h⟩;obtain⟨xs,e1,t⟩:=hS.lst e;exact i6 pins s σ H _ us Q I rx {_,_,rfl,.inl {xs,.of e1,t.len.symm},hR.now hS h<|aN _};obtain⟨xs,e1,t⟩:=hS.cj e;exact Ga pins s σ H _ us Q I rx {a,xs,rfl,e1,by rw[t.len];exact hR.now hS h<|aN _})|_=>exact h.elim
def Q0(S:ak):D->Kd->Prop|.au,k=>k=.au|.bl _,k=>k=.bl|.int _,k=>k=.int|.str _,k=>k=.str|.ref a,k=>(k=.lst/\∃ds,S a=some (.lst ds))\/(k=.cj/\∃ds,S a=some (.cj ds))|.tup _,k=>k=.tup|_,_=>False
theorem VO(h:Q0 S d k)(hS:Rs K S H)(r:Rv K H d v):rD H v k:=by cases d with|au=>(cases h;rw[r.au];exact .au)|bl b=>(cases h;rw[r.bl];exact .bl b)|int b=>(cases h;rw[r.int];exact .int b)|str b=>(cases h;rw[r.str];exact .str b)|tup b=>(cases h;obtain⟨a,xs,rfl,q,_⟩:=r.tup;exact .tup q)|ref a=>(rw[r.ref];rcases h with⟨rfl,ds,h⟩|⟨rfl,ds,h⟩;obtain⟨xs,e,_⟩:=hS.lst h;exact .lst e;obtain⟨xs,e,_⟩:=hS.cj h;exact .cj e)|_=>exact h.elim
inductive VP(ds:List D)(S:ak)(R:KD):Prop where
 |mk (x:D)(n:String)(k:Kd)(g:Kd->Bool)(e:ds=[x,.ty n])(a:we n=some g)(b:Q0 S x k)(r:R (.bl<|g k) S)
def aaz:List D->ak->KD->Prop:=λds S R=>VP ds S R
theorem RvAll.two(h:RvAll K H [d,e] xs):∃v u,xs=[v,u]/\Rv K H d v/\Rv K H e u:=by obtain⟨y,ys,rfl,h1,h2⟩:=h.cons;obtain⟨u,rfl,h3⟩:=h2.one;exact⟨y,u,rfl,h1,h3⟩
theorem c8:gI K (.builtin "isinstance") aaz:=by rintro X hK hc pins s σ H xs us Q I rx ⟨ds,S,R,r,hS,⟨x,n,k,g,e,h1,h2,h⟩,hR⟩;subst hK e;obtain⟨v,u,rfl,r1,r2⟩:=r.two;rw[r2.ty]at rx;exact IB pins s σ H _ us Q I rx {v,n,k,g,rfl,h1,VO h2 hS r1,hR.now hS h<|b_ _}
inductive VQ(ds:List D)(S:ak)(f:List Bool->Bool)(R:KD):Prop where
 |mk (x:D)(bs:ut)(e:ds=[x])(h:u4 S x<|bs.map D.bl)(r:R (.bl<|f bs) S)
def VR:List D->ak->KD->Prop:=λds S R=>VQ ds S (λbs=>bs.all id) R
theorem kF:gI K (.builtin "all") VR:=by rintro X hK hc pins s σ H xs us Q I rx ⟨ds,S,R,r,hS,⟨x,bs,e,h1,h⟩,hR⟩;subst hK e;obtain⟨v,rfl,r1⟩:=r.one;obtain⟨a,zs,rfl,q,t⟩:=h1.at hS r1;rw[t.bools]at q;exact ua hc pins s σ H _ us Q I rx {a,bs,rfl,q,hR.now hS h<|b_ _}
def aaA:List D->ak->KD->Prop:=λds S R=>∃(x:D)(bs:ut),ds=[x]/\u4 S x (bs.map D.bl)/\R (.bl<|bs.any id) S
theorem Of:gI K (.builtin "any") aaA:=by rintro X hK hc pins s σ H xs us Q I rx ⟨ds,S,R,r,hS,⟨x,bs,e,h1,h⟩,hR⟩;subst hK e;obtain⟨v,rfl,r1⟩:=r.one;obtain⟨a,zs,rfl,q,t⟩:=h1.at hS r1;rw[t.bools]at q;exact ub hc pins s σ H _ us Q I rx {a,bs,rfl,q,hR.now hS h<|b_ _}
def intD:List D->ak->KD->Prop:=λds S R=>(∃i,ds=[.int i]/\R (.int i) S)\/∃k,ds=[.bl k]/\R (.int<|if k then 1 else 0) S
theorem EC:gI K (.type "int") intD:=by rintro X hK hc pins s σ H xs us Q I rx ⟨ds,S,R,r,hS,h,hR⟩;rcases h with⟨i,rfl,h⟩|⟨k,rfl,h⟩;obtain⟨v,rfl,r1⟩:=r.one;exact uO pins s σ H _ us Q I rx<|.inl {i,by rw[r1.int],hR.now hS h<|aN _};obtain⟨v,rfl,r1⟩:=r.one;exact uO pins s σ H _ us Q I rx<|.inr {k,by rw[r1.bl],hR.now hS h<|aN _}
inductive VS(ds:List D)(S:ak)(R:KD):Prop where
 |mk (x:D)(es:List D)(e:ds=[x])(h:u4 S x es\/x=.tup es)(r:R (.tup es) S)
def Q1:List D->ak->KD->Prop:=λds S R=>VS ds S R
theorem eV:gI K (.type "tuple") Q1:=by rintro X hK hc pins s σ H xs us Q I rx ⟨ds,S,R,r,hS,⟨x,es,e,h1,h⟩,hR⟩;subst hK e;obtain⟨v,rfl,r1⟩:=r.one;rcases h1 with h1|rfl;obtain⟨a,zs,rfl,q,t⟩:=h1.at hS r1;exact kE pins s σ H _ us Q I rx {a,zs,rfl,.inl {q,λp hp=>hR.VD hS hp h t}};obtain⟨a,zs,rfl,q,t⟩:=r1.tup;exact kE pins s σ H _ us Q I rx {a,zs,rfl,.inr {.of q,hR.now hS h<|nX q t}}
def minD(f:Int->Int->Bool):List D->ak->KD->Prop:=λds S R=>∃i j,ds=[.int i,.int j]/\R (.int<|if f j i then j else i) S
theorem IS:gI K (.builtin "min") (minD λa b=>decide<|a<b):=by rintro X hK hc pins s σ H xs us Q I rx ⟨ds,S,R,r,hS,⟨i,j,e,h⟩,hR⟩;subst e;obtain⟨v,u,rfl,r1,r2⟩:=r.two;refine FT hc pins s σ H _ us Q I rx {i,j,by rw[r1.int,r2.int],?_};have:=hR.now hS h<|aN _;simpa using this
theorem Oh:gI K (.builtin "max") (minD λa b=>decide<|b<a):=by rintro X hK hc pins s σ H xs us Q I rx ⟨ds,S,R,r,hS,⟨i,j,e,h⟩,hR⟩;subst e;obtain⟨v,u,rfl,r1,r2⟩:=r.two;refine FR hc pins s σ H _ us Q I rx {i,j,by rw[r1.int,r2.int],?_};have:=hR.now hS h<|aN _;simpa using this
end
abbrev rP:=List D->ak->KD->KX->Prop
def tQ(K:Frag)(sp:rP):Sp:=λvs H Q e=>∃ds S R Z,RvAll K H ds vs/\Rs K S H/\sp ds S R Z/\Cn K H R Q/\Ez K H Z e
section
variable{K:Frag}{X:Cx}{k:Nat}{f C:Addr}{fd:FuncData}{ps:j4}{sp:Sp}{qg:List V}{ds:dL}{x m:Str}{p pos apos:Pos}{e o:Expr}{es:mt}{b:Bool}{y:Ev X b}
theorem wA(F:bT X.prog X.w X.K X.mg X.base (fR X.prog X.w X.mg) k f fd ps sp)(hr:bX k X.A)(hb:Binds X.K fd ps ds)(hd:Vals qg ds)(I:Inv y.cx p2 σ H s)(r:Vals vs us)(h:sp (vs++qg) H Q<|y.E σ):wpAny (model X.prog X.w) X.A (call (.ref f) us) (EP y.cx p2 σ Q) y.xe s:=by
 have r2:Vals (vs++qg) (us++ds):=r.append hd;have hl:(us++ds).length=ps.length:=by rw[<-r2.length];exact F.len _ _ _ _ h
 refine wpAny_call<|yW (F.run X.A X.stack s H {us,[]} (us++ds) (vs++qg) Q (y.E σ) hr I.UN (hb s us I.ph hl) r2 h) λres s' hq=>?_;cases res with|error e=>exact y.ok.call p2 σ H s e s' I hq|ok fl=>cases fl with|ret u=>exact I.after hq|next=>exact False.elim hq|brk=>exact False.elim hq|cont=>exact False.elim hq
theorem IT{t:TA}(F:bT X.prog X.w X.K X.mg X.base (fR X.prog X.w X.mg) k f fd ps sp)(hr:bX k X.A)(hg:Gl X x)(hm:X.mg x=some (.ref f))(hk:keepIn X.K (.ref f)=true)(hb:Binds X.K fd ps ds)(hd:Vals qg ds)(ha:PA y.cx (e::es) t)(t9:(x==("__debug__": Str))=false)(he:starEach (e::es) X.env=(false,eval e X.env)::starEach es X.env)(eO:(backTo pos<|starEach es X.env).any (·.1)=false): PE y.cx (.Call (.Name x p) (e::es) [] pos) (λσ H Q=>t σ H λvs H1=>sp (vs++qg) H1 Q<|y.E σ):=by intro p2 s σ H Q I h;refine wpAny_Call_Name_kw<|v7 I hg hm ?_ t9;refine callWith_K (h₀:=X.base) I.ok.mod.Ui hk (ba (ha pos p2 s σ H _ I h) λus s1 ⟨vs,H1,I1,r,q⟩=>{I1.ph,?_}) he eO;exact wA F hr hb hd I1 r q
theorem IU{pl:Sem Bool}{ta:TE}{t:TA}(he:PE y.cx o ta)(c:qG X.K C)(hm:Meth X.K C m f)(F:bT X.prog X.w X.K X.mg X.base (fR X.prog X.w X.mg) k f fd ps sp)(hr:bX k X.A)(hb:Binds X.K fd ps ds)(hd:Vals qg ds)(ha:PA y.cx (e::es) t)
  (z_:starEach (e::es) X.env=(false,eval e X.env)::starEach es X.env) (eO:(backTo pos<|starEach es X.env).any (·.1)=false)
  (ht:eval (.Call (.Attribute o m apos) (e::es) [] pos) X.env=(do
   let ov <-eval o X.env
   standAt apos.atName
   let (f,first) <-holding [ov] (getMethod ov m pl)
   callWith pos f first (backTo pos<|starEach (e::es) X.env) (backToKw pos<|keywordEach [] X.env))):
  PE y.cx (.Call (.Attribute o m apos) (e::es) [] pos) (λσ H Q=>ta σ H λx H1=>∃a dx fs,x=.ref a/\H1 a=some (.ins C dx fs)/\fs.lookup m=none/\t σ H1 λvs H2=>sp (x::(vs++qg)) H2 Q<|y.E σ):=by
 intro p2 s σ H Q I h
 refine methodCall_KW (pl:=pl) (ba (he p2 s σ H _ I h) λu s1 ⟨x,H1,I1,rx,a,dx,fs,ex,ea,l,q⟩=>?_) ht
 subst ex
 obtain rfl:u=Value.ref a:=rx
 refine q8 I1 ea c hm l ?_
 refine callWith_K (first:=[.ref a]) (h₀:=X.base) I.ok.mod.Ui hm.kp (ba (ha pos p2 s1 σ H1 _ I1 q) λus s2 ⟨vs,H2,I2,r,q2⟩=>{I2.ph,?_}) z_ eO
 exact wA (us:=.ref a::us) (vs:=.ref a::vs) F hr hb hd I2 (.cons rfl r) q2
theorem Gw(he:PE y.cx o ta)(c:qG X.K C)(hm:Meth X.K C m f)(F:bT X.prog X.w X.K X.mg X.base (fR X.prog X.w X.mg) k f fd ps sp)(hr:bX k X.A)(hb:Binds X.K fd ps ds)(hd:Vals qg ds)
  (ht:eval (.Call (.Attribute o m apos) [] [] pos) X.env=(do
   let ov <-eval o X.env
   standAt apos.atName
   let (f,first) <-holding [ov] (getMethod ov m pl)
   callWith pos f first (backTo pos<|starEach [] X.env) (backToKw pos<|keywordEach [] X.env))):
  PE y.cx (.Call (.Attribute o m apos) [] [] pos) (λσ H Q=>ta σ H λx H1=>∃a dx fs,x=.ref a/\H1 a=some (.ins C dx fs)/\fs.lookup m=none/\sp (x::qg) H1 Q (y.E σ)):=by
 intro p2 s σ H Q I h
 refine methodCall_KW (pl:=pl) (ba (he p2 s σ H _ I h) λu s1 ⟨x,H1,I1,rx,a,dx,fs,ex,ea,l,q⟩=>?_) ht
 subst ex
 obtain rfl:u=Value.ref a:=rx
 refine q8 I1 ea c hm l ?_
 exact PySem.W.callWith_K0 (first:=[.ref a]) I1.ph hm.kp<|wA (us:=[.ref a]) (vs:=[.ref a]) F hr hb hd I1 (.cons rfl .nil) q
theorem Gx(M:Mk X.K C f)(F:bT X.prog X.w X.K X.mg X.base (fR X.prog X.w X.mg) k f fd ps sp)(hr:bX (k+1) X.A)(hb:Binds X.K fd ps ds)(hd:Vals qg ds)(I:Inv y.cx p2 σ H s)(r:Vals vs us)(h:∀x dx,H x=none->H dx=none->dx≠x->sp (.ref x::(vs++qg)) (upd (upd H dx<|.own x) x<|.ins C dx []) (λv H2=>v=.au/\Q (.ref x) H2) (y.E σ)): wpAny (model X.prog X.w) X.A (call (.ref C) us) (EP y.cx p2 σ Q) y.xe s:=by
 have hq:=h (s.heap.objs.size+1) s.heap.objs.size (I.aG.fresh<|yV _) (I.aG.fresh<|zr _)<|zD<|Nat.lt_succ_self _;have I2:=Inv.made (C:=C) I;have r2:Vals (V.ref (s.heap.objs.size+1)::(vs++qg)) (Value.ref (s.heap.objs.size+1)::(us++ds)):=.cons rfl<|r.append hd;have hl:(Value.ref (s.heap.objs.size+1)::us++ds).length=ps.length:=by have e:=r2.length;rw[F.len _ _ _ _ hq]at e;exact e.symm
 refine wpAny_call<|HX (f:=f) I.ph M.makes M.init (beq_iff_eq.mp M.fn)<|yW (F.run _ X.stack _ _ {Value.ref (s.heap.objs.size+1)::us,[]} (Value.ref (s.heap.objs.size+1)::(us++ds)) _ _ (y.E σ) (hr.make C us []) (I2.UN.make C us []) (hb _ (Value.ref (s.heap.objs.size+1)::us) I2.ph hl) r2 hq) λr s' Hw=>?_;cases r with|error e=>exact y.ok.call p2 σ _ _ e s' I2 Hw|ok fl=>cases fl with|ret u=>(obtain⟨v,H',I3,rv,ev,q3⟩:=I2.after Hw;subst ev;exact{rv,{V.ref<|s.heap.objs.size+1,H',I3,rfl,q3}})|next=>exact False.elim Hw|brk=>exact False.elim Hw|cont=>exact False.elim Hw
theorem IV{t:TA}(M:Mk X.K C f)(F:bT X.prog X.w X.K X.mg X.base (fR X.prog X.w X.mg) k f fd ps sp)(hr:bX (k+1) X.A)(hg:Gl X x)(hm:X.mg x=some (.ref C))(hb:Binds X.K fd ps ds)(hd:Vals qg ds)(ha:PA y.cx (e::es) t)(t9:(x==("__debug__": Str))=false)(he:starEach (e::es) X.env=(false,eval e X.env)::starEach es X.env)(eO:(backTo pos<|starEach es X.env).any (·.1)=false): PE y.cx (.Call (.Name x p) (e::es) [] pos) (λσ H Q=>t σ H λvs H1=>∀x dx,H1 x=none->H1 dx=none->dx≠x->sp (.ref x::(vs++qg)) (upd (upd H1 dx<|.own x) x<|.ins C dx []) (λv H2=>v=.au/\Q (.ref x) H2) (y.E σ)):=by intro p2 s σ H Q I h;refine wpAny_Call_Name_kw<|v7 I hg hm ?_ t9;refine callWith_K (h₀:=X.base) I.ok.mod.Ui M.kp (ba (ha pos p2 s σ H _ I h) λus s1 ⟨vs,H1,I1,r,q⟩=>{I1.ph,?_}) he eO;exact Gx M F hr hb hd I1 r q
end
section
variable{K:Frag}{X:Cx}{k:Nat}{f C:Addr}{fd:FuncData}{ps:j4}{sp:rP}{AB:List D}{qg:List V}{ds:dL}{x m:Str}{p pos apos:Pos}{e o:Expr}{es:mt}
structure Tv(K:Frag)(AB:List D)(qg:List V)(ds:dL):Prop where
 v:Vals qg ds
 d:∀H,RvAll K H AB qg
theorem d0:Tv K [] [] []:={.nil,λ_=>bu}
theorem d1:Tv K [.au] [.au] [.none]:={.cons rfl .nil,λ_=>aT gA bu}
def Oi(sp:rP)(AB:List D)(t:iX):TD:=λσ S R Z=>t σ S (λds S1=>sp (ds++AB) S1 R Z) Z
theorem cf{t:iX}(F:bT X.prog X.w K X.mg X.base (fR X.prog X.w X.mg) k f fd ps<|tQ K sp)(hr:bX k X.A)(hm:X.mg x=some (.ref f))(hk:keepIn K (.ref f)=true)(hb:Binds K fd ps ds)(hd:Tv K AB qg ds)(ha:DA K X (e::es) t)(hg:autoParam (Gl X x) qQJ)(t9:autoParam ((x==("__debug__": Str))=false) qQZ)(he:autoParam (starEach (e::es) X.env=(false,eval e X.env)::starEach es X.env) qQJ)(eO:autoParam ((backTo pos<|starEach es X.env).any (·.1)=false) qQJ)(hK:autoParam (X.K=K) qQJ): DE K X (.Call (.Name x p) (e::es) [] pos) (Oi sp AB t):=by
 subst hK
 exact⟨λy=>(IT F hr hg hm hk hb hd.v (ha.of y) t9 he eO).mono <| by rintro τ H Q ⟨σ,S,R,Z,aB,hS,q,hR,hZ⟩;exact
  ⟨σ,S,_,Z,aB,hS,q,λes S1 xs H1 r1 v1 s1 k1=>⟨es++AB,S1,R,Z,v1.app<|hd.d _,s1,r1,hR.kp k1,hZ.kp k1⟩,hZ⟩⟩
inductive MeR(C:Addr)(m:Str)(x:D)(S:ak)(p:Prop):Prop where
 |mk (a:Addr)(fs:List<|Str×D)(e1:x=.ref a)(e2:S a=some (.ins C fs))(e3:fs.lookup m=none)(r:p)
def ED(C:Addr)(m:Str)(sp:rP)(AB:List D)(ta:TD)(t:iX):TD:=λσ S R Z=>ta σ S (λx S1=>MeR C m x S1<|t σ S1 (λds S2=>sp (x::(ds++AB)) S2 R Z) Z) Z
theorem cme{t:iX}(he:DE K X o ta)(c:qG K C)(hm:Meth K C m f)(F:bT X.prog X.w K X.mg X.base (fR X.prog X.w X.mg) k f fd ps<|tQ K sp)(hr:bX k X.A)(hb:Binds K fd ps ds)(hd:Tv K AB qg ds)(ha:DA K X (e::es) t)
  (z_:autoParam (starEach (e::es) X.env=(false,eval e X.env)::starEach es X.env) qQJ) (eO:autoParam ((backTo pos<|starEach es X.env).any (·.1)=false) qQJ)
  (ht:autoParam (eval (.Call (.Attribute o m apos) (e::es) [] pos) X.env=(do
   let ov <-eval o X.env
   standAt apos.atName
   let (f,first) <-holding [ov] (getMethod ov m pl)
   callWith pos f first (backTo pos<|starEach (e::es) X.env) (backToKw pos<|keywordEach [] X.env))) qQJ) (hK:autoParam (X.K=K) qQJ):
  DE K X (.Call (.Attribute o m apos) (e::es) [] pos) (ED C m sp AB ta t):=by
 subst hK
 exact⟨λy=>(IU (he.of y) c hm F hr hb hd.v (ha.of y) z_ eO ht).mono <| by rintro τ H Q ⟨σ,S,R,Z,aB,hS,q,hR,hZ⟩;exact
  ⟨σ,S,_,Z,aB,hS,q,by
   rintro d S1 x H1 ⟨a,fs,e1,e2,e3,r1⟩ v1 s1 k1
   subst e1
   obtain⟨dx,vs,e4,t4⟩:=s1.ins e2
   exact{a,dx,vs,v1.ref,e4,(t4.look m).2 e3,σ,S1,_,Z,aB.ts k1,s1,r1,λes S2 xs H2 r2 v2 s2 k2=>{_,S2,R,Z,aT (Rv.ts k2 _ v1)<|v2.app<|hd.d _,s2,r2,hR.kp<|k1.trans k2,hZ.kp<|k1.trans k2},hZ.kp k1},hZ⟩⟩
theorem VT(he:DE K X o ta)(c:qG K C)(hm:Meth K C m f)(F:bT X.prog X.w K X.mg X.base (fR X.prog X.w X.mg) k f fd ps<|tQ K sp)(hr:bX k X.A)(hb:Binds K fd ps ds)(hd:Tv K AB qg ds)
  (ht:autoParam (eval (.Call (.Attribute o m apos) [] [] pos) X.env=(do
   let ov <-eval o X.env
   standAt apos.atName
   let (f,first) <-holding [ov] (getMethod ov m pl)
   callWith pos f first (backTo pos<|starEach [] X.env) (backToKw pos<|keywordEach [] X.env))) qQJ) (hK:autoParam (X.K=K) qQJ):
  DE K X (.Call (.Attribute o m apos) [] [] pos) (ED C m sp AB ta Mv):=by
 subst hK
 exact⟨λy=>(Gw (he.of y) c hm F hr hb hd.v ht).mono <| by rintro τ H Q ⟨σ,S,R,Z,aB,hS,q,hR,hZ⟩;exact
  ⟨σ,S,_,Z,aB,hS,q,by
   rintro d S1 x H1 ⟨a,fs,e1,e2,e3,r1⟩ v1 s1 k1
   subst e1
   obtain⟨dx,vs,e4,t4⟩:=s1.ins e2
   exact{a,dx,vs,v1.ref,e4,(t4.look m).2 e3,_,S1,R,Z,aT v1<|hd.d _,s1,r1,hR.kp k1,hZ.kp k1},hZ⟩⟩
def VU(C:Addr)(sp:rP)(AB:List D)(t:iX):TD:=λσ S R Z=>t σ S (λds S1=>∀x,S1 x=none->sp (.ref x::(ds++AB)) (S1.set x<|.ins C []) (λd S2=>d=.au/\R (.ref x) S2) Z) Z
theorem mk{t:iX}(M:Mk K C f)(F:bT X.prog X.w K X.mg X.base (fR X.prog X.w X.mg) k f fd ps<|tQ K sp)(hr:bX (k+1) X.A)(hm:X.mg x=some (.ref C))(hb:Binds K fd ps ds)(hd:Tv K AB qg ds)(ha:DA K X (e::es) t)(hg:autoParam (Gl X x) qQJ)(t9:autoParam ((x==("__debug__": Str))=false) qQZ)(he:autoParam (starEach (e::es) X.env=(false,eval e X.env)::starEach es X.env) qQJ)(eO:autoParam ((backTo pos<|starEach es X.env).any (·.1)=false) qQJ)(hK:autoParam (X.K=K) qQJ): DE K X (.Call (.Name x p) (e::es) [] pos) (VU C sp AB t):=by
 subst hK
 exact⟨λy=>(IV M F hr hg hm hb hd.v (ha.of y) t9 he eO).mono <| by rintro τ H Q ⟨σ,S,R,Z,aB,hS,q,hR,hZ⟩;exact
  ⟨σ,S,_,Z,aB,hS,q,λes S1 xs H1 r1 v1 s1 k1 x dx hx hdx ne=>by
   have MC:upd H1 dx (.own x) x=none:=by rw[aw ne.symm];exact hx
   have k2:Kp X.K H1 (upd (upd H1 dx<|.own x) x<|.ins C dx []):=(Kp.new hdx).trans<|Kp.new MC
   exact{_,_,_,Z,aT (ia x)<|RvAll.ts k2 _<|v1.app<|hd.d _,(s1.grow hdx).new (c:=.ins C []) MC {dx,[],aD,.nil},r1 x<|s1.fresh hx,by rintro d S2 v H2 ⟨e,r2⟩ v2 s2 k3;exact by subst e;exact{v2.au,hR _ _ _ _ r2 (ia x) s2<|(k1.trans k2).trans k3},(hZ.kp k1).kp k2},hZ⟩⟩
inductive FlR(C:Addr)(f:Str)(x:D)(S:ak)(R:KD):Prop where
 |mk (a:Addr)(fs:List<|Str×D)(d:D)(e1:x=.ref a)(e2:S a=some (.ins C fs))(e3:fs.lookup f=some d)(r:R d S)
def aaC(C:Addr)(f:Str)(ta:TD):TD:=λσ S R Z=>ta σ S (λx S1=>FlR C f x S1 R) Z
theorem fl{f:Str}{ta:TD}(c:qG K C)(n:i7 K C f)(he:DE K X e ta)(hb:autoParam (attributeBase e f X.env (eval e X.env)=eval e X.env) qQJ)(hK:autoParam (X.K=K) qQJ):DE K X (.Attribute e f pos) (aaC C f ta):=by
 subst hK
 exact⟨λy=>(P9 (X:=y.cx) (he.of y) hb).mono <| by rintro τ H Q ⟨σ,S,R,Z,aB,hS,q,hR,hZ⟩;exact
  ⟨σ,S,_,Z,aB,hS,q,by
   rintro d S1 x H1 ⟨a,fs,y,e1,e2,e3,r1⟩ v1 s1 k1
   subst e1
   obtain⟨dx,vs,e4,t4⟩:=s1.ins e2
   obtain⟨v,e5,r5⟩:=(t4.look f).1 y e3
   exact{a,C,dx,vs,v,v1.ref,e4,c,n,e5,(hR.kp k1).now s1 r1 r5},hZ⟩⟩
end
structure u5 where
 nx:SD->ak->Prop
 rt:KD
 bk:SD->ak->Prop:=λ_ _=>False
 ct:SD->ak->Prop:=λ_ _=>False
abbrev mq:=u5->SD->ak->(SD->KX)->Prop
def Oj(K:Frag)(H:Hp)(R:SD->ak->Prop)(Q:St->Hp->Prop):Prop:=∀σ S τ H',R σ S->g_ K H' σ τ->Rs K S H'->Kp K H H'->Q τ H'
structure Ye(K:Frag)(H:Hp)(De:u5)(Dv:Ends):Prop where
 nx:Oj K H De.nx Dv.nx
 rt:Cn K H De.rt Dv.rt
 bk:Oj K H De.bk Dv.bk
 ct:Oj K H De.ct Dv.ct
def AD(K:Frag)(H:Hp)(Z:SD->KX)(E:St->XK):Prop:=∀σ τ C S H',Z σ C S->g_ K H' σ τ->Rs K S H'->Kp K H H'->E τ (.ref C) none H'
section
variable{K:Frag}{H H1:Hp}{De:u5}{Dv:Ends}{Z:SD->KX}{E:St->XK}{σ:SD}{τ:St}{S:ak}
theorem Oj.kp(h:Oj K H R Q)(k:Kp K H H1):Oj K H1 R Q:=λσ S τ H' r a b c=>h σ S τ H' r a b<|k.trans c
theorem Ye.kp(h:Ye K H De Dv)(k:Kp K H H1):Ye K H1 De Dv:={h.nx.kp k,h.rt.kp k,h.bk.kp k,h.ct.kp k}
theorem AD.kp(h:AD K H Z E)(k:Kp K H H1):AD K H1 Z E:=λσ τ C S H' r a b c=>h σ τ C S H' r a b<|k.trans c
theorem AD.at(h:AD K H Z E)(r:g_ K H σ τ):Ez K H (Z σ) (E τ):=λC S H' z s k=>h σ τ C S H' z (r.ts k) s k
theorem AD.on(h:AD K H Z E)(k:Kp K H H1)(r:g_ K H1 σ τ):Ez K H1 (Z σ) (E τ):=(h.kp k).at r
end
def Tl(K:Frag)(E:St->XK)(t:mq):TS:=λDv τ H=>∃σ S De Z,g_ K H σ τ/\Rs K S H/\t De σ S Z/\Ye K H De Dv/\AD K H Z E
structure DS(K:Frag)(X:Cx)(b:Bool)(st:Stmt)(t:mq):Prop where
 of:∀y:Ev X b,PS y.cx st<|Tl K y.E t
structure Hx(K:Frag)(X:Cx)(b:Bool)(st:pc)(t:mq):Prop where
 of:∀y:Ev X b,Ec y.cx st<|Tl K y.E t
theorem PS.mono{t t':TS}(h:PS X e t)(i:∀D τ H,t' D τ H->t D τ H):PS X e t':=λpins s τ H D I q=>h pins s τ H D I<|i D τ H q
theorem Ec.mono{t t':TS}(h:Ec X e t)(i:∀D τ H,t' D τ H->t D τ H):Ec X e t':=λpins s τ H D I q=>h pins s τ H D I<|i D τ H q
section
variable{K:Frag}{X:Cx}{b:Bool}{pos:Pos}
def VW:mq:=λDe σ S _=>De.nx σ S
def aaD(t u:mq):mq:=λDe σ S Z=>t {De with nx:=λaA S'=>u De aA S' Z} σ S Z
theorem s0:Hx K X b [] VW:=⟨λy=>(Lq (X:=y.cx)).mono <| by rintro D τ H ⟨σ,S,De,Z,aB,hS,q,hD,hZ⟩;exact hD.nx _ _ _ _ q aB hS<|.refl _⟩
theorem sc{st:Stmt}{r:pc}{t u:mq}(h1:DS K X b st t)(h2:Hx K X b r u):Hx K X b (st::r) (aaD t u):=
 ⟨λy=>(HK (h1.of y)<|h2.of y).mono <| by rintro D τ H ⟨σ,S,De,Z,aB,hS,q,hD,hZ⟩;exact
  ⟨σ,S,_,Z,aB,hS,q,⟨λy0 S1 τ1 H1 r1 a b c=>⟨y0,S1,De,Z,a,b,r1,hD.kp c,hZ.kp c⟩,hD.rt,hD.bk,hD.ct⟩,hZ⟩⟩
theorem s1{st:Stmt}{t:mq}(h:DS K X b st t):Hx K X b [st] t:=⟨λy=>Ls<|h.of y⟩
def VX(t:TD):mq:=λDe σ S Z=>t σ S (λ_ S1=>De.nx σ S1)<|Z σ
theorem se{t:TD}(h:DE K X e t)(hs:autoParam (swapsWith e none pos.line X.env=pure false) qQJ):DS K X b (.Expr e pos) (VX t):=⟨λy=>(Lu (X:=y.cx) (h.of y) hs).mono <| by rintro D τ H ⟨σ,S,De,Z,aB,hS,q,hD,hZ⟩;exact{σ,S,_,_,aB,hS,q,λd S1 v H1 r1 _ s1 k1=>hD.nx _ _ _ _ r1 (aB.ts k1) s1 k1,hZ.at aB}⟩
def aaF(t:TD):mq:=λDe σ S Z=>t σ S De.rt<|Z σ
theorem sr{t:TD}(h:DE K X e t):DS K X b (.Return (some e) pos) (aaF t):=⟨λy=>(PD<|h.of y).mono <| by rintro D τ H ⟨σ,S,De,Z,aB,hS,q,hD,hZ⟩;exact{σ,S,_,_,aB,hS,q,hD.rt,hZ.at aB}⟩
def dIf(c:lV)(t u:mq):mq:=λDe σ S Z=>c σ S (λb S1=>if b=true then t De σ S1 Z else u De σ S1 Z)<|Z σ
theorem si{t u:mq}(hc:DT K X c tc)(ha:Hx K X b a t)(hb:Hx K X b a' u):DS K X b (.If c a a' pos) (dIf tc t u):=
 ⟨λy=>(Uv (hc.of y) (ha.of y)<|hb.of y).mono <| by rintro D τ H ⟨σ,S,De,Z,aB,hS,q,hD,hZ⟩;exact
  ⟨σ,S,_,_,aB,hS,q,λc S1 H1 r1 s1 k1=>by
   cases c with
   |true=>rw[if_pos rfl]at r1⊢;exact{σ,S1,De,Z,aB.ts k1,s1,r1,hD.kp k1,hZ.kp k1}
   |false=>rw[if_neg zd]at r1⊢;exact{σ,S1,De,Z,aB.ts k1,s1,r1,hD.kp k1,hZ.kp k1},hZ.at aB⟩⟩
abbrev AE:=D->SD->ak->(SD->ak->Prop)->Prop
def Tg(K:Frag)(g:AE):TG:=λv τ H Q=>∃d σ S R,Rv K H d v/\g_ K H σ τ/\Rs K S H/\g d σ S R/\Oj K H R Q
structure DG(K:Frag)(X:Cx)(e:Expr)(g:AE):Prop where
 of:∀Y:Cx,Y.K=X.K->Y.N=X.N->Y.env=X.env->Y.fn=X.fn->Y.calm=X.calm->PG Y e (Tg K g)
theorem PG.mono{t t':TG}(h:PG X e t)(i:∀v τ H Q,t' v τ H Q->t v τ H Q):PG X e t':=λpins s τ H v u Q I r q=>h pins s τ H v u Q I r<|i v τ H Q q
def Tw(i:Nat):AE:=λd σ S R=>R (σ.set i<|some d) S
theorem gn(hN:X.N.Nodup)(hi:autoParam (X.N[i]?=some x) qQJ)(hx:autoParam (Loc X.env.scope x) qJ3)(hf:autoParam (X.fn x=true\/X.env.scope.names.lookup x=some .local) qJQ):DG K X (.Name x pos) (Tw i):=⟨λY _ e2 e3 e4 _=>(qD (X:=Y) (by rw[e2];exact hN) (by rw[e2];exact hi) (by rw[e3];exact hx)<|by rw[e3,e4];exact hf).mono <| by rintro v τ H Q ⟨d,σ,S,R,rv,aB,hS,q,hR⟩;exact hR _ S _ H q (aB.set i rv) hS<|.refl _⟩
abbrev Gy:=List D->SD->ak->(SD->ak->Prop)->Prop
def Tgs(K:Frag)(g:Gy):NU:=λvs τ H Q=>∃ds σ S R,RvAll K H ds vs/\g_ K H σ τ/\Rs K S H/\g ds σ S R/\Oj K H R Q
structure Yf(K:Frag)(X:Cx)(es:mt)(g:Gy):Prop where
 of:∀Y:Cx,Y.K=X.K->Y.N=X.N->Y.env=X.env->Y.fn=X.fn->Y.calm=X.calm->NV Y es (Tgs K g)
theorem NV.mono{t t':NU}(h:NV X e t)(i:∀v τ H Q,t' v τ H Q->t v τ H Q):NV X e t':=λpins s τ H v u Q I r q=>h pins s τ H v u Q I r<|i v τ H Q q
def Ol:Gy:=λds σ S R=>ds=[]/\R σ S
def CZ(g:AE)(u:Gy):Gy:=λds σ S R=>∃d r,ds=d::r/\g d σ S λy0 S1=>u r y0 S1 R
theorem g0:Yf K X [] Ol:=⟨λY _ _ _ _ _=>(Ef (X:=Y)).mono <| by rintro vs τ H Q ⟨ds,σ,S,R,rv,aB,hS,⟨e,q⟩,hR⟩;exact by subst e;exact{rv.nil,hR _ _ _ _ q aB hS<|.refl _}⟩
theorem gc(h1:DG K X e g)(h2:Yf K X es u)(hs:autoParam (∀env:Env,(assignEach (e::es) env).map (·.2)=assign e env::(assignEach es env).map (·.2)) qQ0):Yf K X (e::es) (CZ g u):=⟨λY a b c d f=>(qW (h1.of Y a b c d f) (h2.of Y a b c d f)<|hs _).mono <| by rintro vs τ H Q ⟨ds,σ,S,R,rv,aB,hS,⟨d,r,e,q⟩,hR⟩;subst e;obtain⟨y,ys,e1,r1,r2⟩:=rv.cons;exact{y,ys,e1,d,σ,S,_,r1,aB,hS,q,λy0 S1 τ1 H1 q1 a b c=>{r,y0,S1,R,RvAll.ts c _ r2,a,b,q1,hR.kp c}}⟩
def Om(n:Nat)(g:Gy):AE:=λd σ S R=>∃ds,d=.tup ds/\ds.length=n/\g ds σ S R
theorem gt(h:Yf K X es g)(hn:autoParam (∀env:Env,(assignEach es env).length=n) qQ0)(z_:autoParam (∀env:Env,(assignEach es env).findIdx? (·.1)=none) qQ0)(hK:autoParam (X.K=K) qQJ)(hc:autoParam (X.calm=true) qQJ):DG K X (.Tuple es j pos) (Om n g):=⟨λY a b c d f=>(HL (X:=Y) (by rw[f];exact hc) (h.of Y a b c d f) (hn _)<|z_ _).mono <| by rintro v τ H Q ⟨d,σ,S,R,rv,aB,hS,⟨ds,e,hl,q⟩,hR⟩;subst e;obtain⟨p,xs,e1,e2,t⟩:=rv.tup;exact{p,xs,e1,.of e2,by rw[t.len];exact hl,ds,σ,S,R,t,aB,hS,q,hR}⟩
def Q2(i:Nat)(t:TD):mq:=λDe σ S Z=>t σ S (λd S1=>De.nx (σ.set i<|some d) S1)<|Z σ
theorem ck{t:TD}(hN:X.N.Nodup)(h:DE K X e t)(hi:autoParam (X.N[i]?=some x) qQJ)(hx:autoParam (Loc X.env.scope x) qJ3)(hs:autoParam (swapsWith e (some<|.Name x pos') pos.line X.env=pure false) qQJ)(hf:autoParam (X.fn x=true\/X.env.scope.names.lookup x=some .local) qJQ):DS K X b (.Assign [.Name x pos'] e pos) (Q2 i t):=⟨λy=>(PK (X:=y.cx) (i:=i) hN hi hx (h.of y) hs hf).mono <| by rintro D τ H ⟨σ,S,De,Z,aB,hS,q,hD,hZ⟩;exact{σ,S,_,_,aB,hS,q,λd S1 v H1 r1 v1 s1 k1=>hD.nx _ _ _ _ r1 ((aB.ts k1).set i v1) s1 k1,hZ.at aB}⟩
def aaG(t:TD)(g:AE):mq:=λDe σ S Z=>t σ S (λd S1=>g d σ S1 De.nx)<|Z σ
theorem sa{t:TD}(h:DE K X e t)(hg:DG K X tg g)(hs:autoParam (swapsWithSole [tg] e pos.line X.env=pure false) qQJ)(hw:autoParam (swappedStores [tg] e X.env=pure none) qQJ)(h1:autoParam ((assignEach [tg] X.env).map (·.2)=[assign tg X.env]) qQJ): DS K X b (.Assign [tg] e pos) (aaG t g):=⟨λy=>(HM (X:=y.cx) (h.of y) (hg.of _ rfl rfl rfl rfl rfl) hs hw h1).mono <| by rintro D τ H ⟨σ,S,De,Z,aB,hS,q,hD,hZ⟩;exact{σ,S,_,_,aB,hS,q,λd S1 v H1 r1 v1 s1 k1=>{d,σ,S1,_,v1,aB.ts k1,s1,r1,hD.nx.kp k1},hZ.at aB}⟩
def aaH(td ty tv:TD):mq:=λDe σ S Z=>tv σ S (λv S1=>td σ S1 (λx S2=>ty σ S2 (λy S3=>∃a kvs k,x=.ref a/\S3 a=some (.cj kvs)/\CY y=some k/\kvs.length<sizeLine/\De.nx σ (S3.set a<|.cj<|dput kvs k v))<|Z σ)<|Z σ)<|Z σ
theorem sd{o i value:Expr}{td ty tv:TD}{pos':Pos}(hu:X.A.units+64<cLine)(ho:DE K X o td)(hi:DE K X i ty)(hv:DE K X value tv)(hs:autoParam (swapsWith value (some<|.Subscript o i pos') pos.line X.env=pure false) qQJ):DS K X b (.Assign [.Subscript o i pos'] value pos) (aaH td ty tv):=
 ⟨λy=>(LS (X:=y.cx) (by show X.A.units+1<cLine;lia) (ho.of y) (hi.of y) (hv.of y) hs).mono <| by rintro D τ H ⟨σ,S,De,Z,aB,hS,q,hD,hZ⟩;exact
  ⟨σ,S,_,_,aB,hS,q,λv S1 vv H1 r1 v1 s1 k1=>⟨σ,S1,_,_,aB.ts k1,s1,r1,λx S2 xv H2 r2 v2 s2 k2=>⟨σ,S2,_,_,aB.ts<|k1.trans k2,s2,r2,by
   rintro y S3 yv H3 ⟨a,kvs,k,e1,e2,e3,hl,r3⟩ v3 s3 k3
   subst e1
   obtain⟨vs,e4,t⟩:=s3.cj e2
   have kk:=s3.fm (o:=.dK<|putK vs k vv) e2
   refine{a,_,(Rv.ts k3 _ v2).ref,by rw[nZ e3 v3];exact Ih.k e4<|by rw[t.len];exact hl,?_}
   exact hD.nx _ _ _ _ r3 (aB.ts<|((k1.trans k2).trans k3).trans kk) (s3.put (c:=.cj _) e2 {_,aD,(t.put k<|Rv.ts (k2.trans k3) _ v1).ts kk})<|((k1.trans k2).trans k3).trans kk,hZ.on (k1.trans k2)<|aB.ts<|k1.trans k2⟩,hZ.on k1<|aB.ts k1⟩,hZ.at aB⟩⟩
end
section
variable{X:Cx}{pins:io}{σ:St}{H:Hp}{s:Shared}{A:Around}{E:li}{a:Addr}{kvs:List (Key×V)}{k:Key}{u:Value}
theorem Q3(I:Inv X pins σ H s)(e:H a=some (.dK kvs))(ry:RelV (kV k) u)(rz:RelV z r)(hl:kvs.length<sizeLine)(h1:∀v w' s',fQ kvs k=some v->Inv X pins σ H s'->RelV v w'->Q w' s')(h2:fQ kvs k=none->∀s',Inv X pins σ (upd H a<|.dK<|putK kvs k z) s'->Q r s'): wpAny (model X.prog X.w) A (call (.builtin "dict.setdefault") [.ref a,u,r]) Q E s:=by
 obtain⟨zz,hd,vs,rel,dd⟩:=rj I.aG e;have hp:=i8 kvs k z;refine call_meetsIn PySem.F.slot_dict_setdefault dd.typeIs PySem.F.entry_dict_setdefault (PySem.F.args_dict_setdefault_3 _ _ _) (PySem.kt_meets_setdefault (aE X.prog X.w) a (iC ry) hd r) {vs,dd,by rw[<-rel.length];exact zz,λw' hw=>?_,λhn h' Eo hs=>?_};cases q:fQ kvs k with|none=>(have:=fj.none_of (o:=valueAt vs k) (by rw[<-q];exact rel.val k);rw[this]at hw;cases hw)|some v=>obtain⟨w2,VY,rw2⟩:=fj.some_of (v:=v) (o:=valueAt vs k) (by rw[<-q];exact rel.val k);rw[VY]at hw;cases hw;exact h1 v _ _ q (I.tok _) rw2
 cases q:fQ kvs k with|some v=>(obtain⟨w2,VY,rw2⟩:=fj.some_of (v:=v) (o:=valueAt vs k) (by rw[<-q];exact rel.val k);rw[VY]at hn;cases hn)|none=>have he:∃q,h'.get? a=some q:=(by obtain⟨q,_,_,hq,_⟩:=Eo;exact⟨q,hq⟩);exact h2 q _<|l9 I (by rw[e];exact True.intro) hs he<|rl (by lia) hd (rel.put k rz) Eo
end
section
variable{X:Cx}{o e f:Expr}{apos aP:Pos}{td ty tx:TE}
def VZ(td ty tx:TE):TE:=λσ H Q=>td σ H λx H1=>∃a,x=.ref a/\Qt H1 a/\ty σ H1 λy H2=>tx σ H2 λz H3=>∃kvs k,H3 a=some (.dK kvs)/\y=kV k/\kvs.length<sizeLine/\(∀v,fQ kvs k=some v->Q v H3)/\(fQ kvs k=none->Q z (upd H3 a<|.dK<|putK kvs k z))
theorem IW(ho:PE X o td)(he:PE X e ty)(hf:PE X f tx)(m:M2 X o "setdefault" apos e f aP):PE X (.Call (.Attribute o "setdefault" apos) [e,f] [] aP) (VZ td ty tx):=by intro pins s σ H Q I h;refine wpAny_Call_method m.base m.Ep m.line PySem.F.plainAttrs_dict PySem.F.slot_dict_setdefault PySem.F.type_dict_setdefault<|ba (ho pins s σ H _ I h) ?_;rintro u s1 ⟨x,H1,I1,rx,a,ex,d,q1⟩;subst ex;obtain rfl:u=Value.ref a:=rx;obtain⟨t1,t2,_⟩:=rn I1 d;refine{t1,t2,?_};rw[m.trees];refine yu rfl<|Calls.evalArgs_plain<|yC<|ba (he pins s1 σ H1 _ I1 q1) λiv s2 ⟨y,H2,I2,ry,q2⟩=>yC<|ba (hf pins s2 σ H2 _ I2 q2) λfv s3 ⟨z,H3,I3,rz,kvs,k,ea,ey,hl,q3,q4⟩=>Calls.spliced_nil ?_;subst ey;exact Q3 I3 ea ry rz hl (λv w' s4 l I4 l6=>{v,H3,I4,l6,q3 v l}) λl s4 I4=>{z,_,I4,rz,q4 l}
end
section
variable{K:Frag}{X:Cx}{b:Bool}{o e f:Expr}{apos aP pos:Pos}{td ty tx:TD}
theorem rQ(hS:Rs K S H)(e:S a=some (.cj kvs)):Qt H a:=by obtain⟨vs,e1,_⟩:=hS.cj e;exact .inl {vs,.inl e1}
def V0(td ty:TD):TD:=λσ S R Z=>td σ S (λx S1=>∃a kvs,x=.ref a/\S1 a=some (.cj kvs)/\ty σ S1 (λy S2=>∃kvs k,S2 a=some (.cj kvs)/\CY y=some k/\R ((cn kvs k).getD .au) S2) Z) Z
theorem IX(hS:Rs K S H)(e:S a=some (.cj kvs))(r:Rv K H d v):∃o,qh H a (kV k) o/\Rv K H ((cn kvs k).getD d) (o.getD v):=by obtain⟨o,g,h1,h2⟩:=wu (k:=k) hS e;refine{o,g,?_};cases q:cn kvs k with|none=>(rw[q]at h1;cases o with|none=>exact r|some _=>cases h1)|some d'=>obtain⟨v',rfl,r'⟩:=h2 d' q;exact r'
theorem mg1(hu:X.A.units+64<cLine)(ho:DE K X o td)(he:DE K X e ty)(m:autoParam (M1 X o "get" apos e aP) qQ2):DE K X (.Call (.Attribute o "get" apos) [e] [] aP) (V0 td ty):=
 ⟨λy=>(Im (X:=y.cx) (by show X.A.units+1<cLine;lia) (ho.of y) (he.of y) ⟨m.base,m.Ep,m.line,m.trees⟩).mono <| by rintro τ H Q ⟨σ,S,R,Z,aB,hS,q,hR,hZ⟩;exact
  ⟨σ,S,_,Z,aB,hS,q,by
   rintro x S1 xv H1 ⟨a,kvs,e1,e2,r1⟩ v1 s1 k1
   subst e1
   exact⟨a,v1.ref,rQ s1 e2,σ,S1,_,Z,aB.ts k1,s1,r1,by
    rintro y S2 yv H2 ⟨kvs,k,e3,e4,r2⟩ v2 s2 k2
    obtain⟨o,g,r⟩:=IX (k:=k) s2 e3 gA
    exact{o,by rw[nZ e4 v2];exact g,(hR.kp<|k1.trans k2).now s2 r2 r},hZ.kp k1⟩,hZ⟩⟩
theorem bv(ho:DE K X o td)(he:DE K X e ty)(hu:X.A.units+64<cLine:=by assumption)(m:autoParam (M1 X o "get" apos e aP) qQ2):DE K X (.Call (.Attribute o "get" apos) [e] [] aP) (V0 td ty):=mg1  hu ho he m
def V1(td ty tx:TD):TD:=λσ S R Z=>td σ S (λx S1=>∃a kvs,x=.ref a/\S1 a=some (.cj kvs)/\ty σ S1 (λy S2=>tx σ S2 (λz S3=>∃kvs k,S3 a=some (.cj kvs)/\CY y=some k/\R ((cn kvs k).getD z) S3) Z) Z) Z
theorem mg2(hu:X.A.units+64<cLine)(ho:DE K X o td)(he:DE K X e ty)(hf:DE K X f tx)(m:autoParam (M2 X o "get" apos e f aP) qQ2):DE K X (.Call (.Attribute o "get" apos) [e,f] [] aP) (V1 td ty tx):=
 ⟨λy=>(Io (X:=y.cx) (by show X.A.units+1<cLine;lia) (ho.of y) (he.of y) (hf.of y) ⟨m.base,m.Ep,m.line,m.trees⟩).mono <| by rintro τ H Q ⟨σ,S,R,Z,aB,hS,q,hR,hZ⟩;exact
  ⟨σ,S,_,Z,aB,hS,q,by
   rintro x S1 xv H1 ⟨a,kvs,e1,e2,r1⟩ v1 s1 k1
   subst e1
   exact⟨a,v1.ref,rQ s1 e2,σ,S1,_,Z,aB.ts k1,s1,r1,λy S2 yv H2 r2 v2 s2 k2=>⟨σ,S2,_,Z,aB.ts<|k1.trans k2,s2,r2,by
    rintro z S3 zv H3 ⟨kvs,k,e3,e4,r3⟩ v3 s3 k3
    obtain⟨o,g,r⟩:=IX (k:=k) s3 e3 v3
    exact{o,by rw[nZ e4 v2];exact g,(hR.kp<|(k1.trans k2).trans k3).now s3 r3 r},hZ.kp<|k1.trans k2⟩,hZ.kp k1⟩,hZ⟩⟩
theorem ca(ho:DE K X o td)(he:DE K X e ty)(hf:DE K X f tx)(hu:X.A.units+64<cLine:=by assumption)(m:autoParam (M2 X o "get" apos e f aP) qQ2):DE K X (.Call (.Attribute o "get" apos) [e,f] [] aP) (V1 td ty tx):=mg2  hu ho he hf m
def V2(td ty:TD):TD:=λσ S R Z=>td σ S (λx S1=>∃a kvs,x=.ref a/\S1 a=some (.cj kvs)/\ty σ S1 (λy S2=>∃kvs k d,S2 a=some (.cj kvs)/\CY y=some k/\cn kvs k=some d/\R d (S2.set a<|.cj<|AA kvs k)) Z) Z
theorem mp1(ho:DE K X o td)(he:DE K X e ty)(m:autoParam (M1 X o "pop" apos e aP) qQ2):DE K X (.Call (.Attribute o "pop" apos) [e] [] aP) (V2 td ty):=
 ⟨λy=>(Iq (X:=y.cx) (ho.of y) (he.of y) ⟨m.base,m.Ep,m.line,m.trees⟩).mono <| by rintro τ H Q ⟨σ,S,R,Z,aB,hS,q,hR,hZ⟩;exact
  ⟨σ,S,_,Z,aB,hS,q,by
   rintro x S1 xv H1 ⟨a,kvs,e1,e2,r1⟩ v1 s1 k1
   subst e1
   exact⟨a,v1.ref,rQ s1 e2,σ,S1,_,Z,aB.ts k1,s1,r1,by
    rintro y S2 yv H2 ⟨kvs,k,d,e3,e4,e5,r2⟩ v2 s2 k2
    obtain⟨vs,e6,t⟩:=s2.cj e3
    obtain⟨v,e7,r7⟩:=(t.val k).1 d e5
    have kk:=s2.fm (o:=.dK<|pz vs k) e3
    exact{vs,k,v,e6,nZ e4 v2,e7,hR _ _ _ _ r2 (Rv.ts kk _ r7) (s2.put (c:=.cj _) e3 {_,aD,(t.drop k).ts kk})<|(k1.trans k2).trans kk},hZ.kp k1⟩,hZ⟩⟩
def V3(td ty tx:TD):TD:=λσ S R Z=>td σ S (λx S1=>∃a kvs,x=.ref a/\S1 a=some (.cj kvs)/\ty σ S1 (λy S2=>tx σ S2 (λz S3=>∃kvs k,S3 a=some (.cj kvs)/\CY y=some k/\kvs.length<sizeLine/\(∀d,cn kvs k=some d->R d S3)/\(cn kvs k=none->R z (S3.set a<|.cj<|dput kvs k z))) Z) Z) Z
theorem ms2(ho:DE K X o td)(he:DE K X e ty)(hf:DE K X f tx)(m:autoParam (M2 X o "setdefault" apos e f aP) qQ2):DE K X (.Call (.Attribute o "setdefault" apos) [e,f] [] aP) (V3 td ty tx):=
 ⟨λy=>(IW (X:=y.cx) (ho.of y) (he.of y) (hf.of y) ⟨m.base,m.Ep,m.line,m.trees⟩).mono <| by rintro τ H Q ⟨σ,S,R,Z,aB,hS,q,hR,hZ⟩;exact
  ⟨σ,S,_,Z,aB,hS,q,by
   rintro x S1 xv H1 ⟨a,kvs,e1,e2,r1⟩ v1 s1 k1
   subst e1
   exact⟨a,v1.ref,rQ s1 e2,σ,S1,_,Z,aB.ts k1,s1,r1,λy S2 yv H2 r2 v2 s2 k2=>⟨σ,S2,_,Z,aB.ts<|k1.trans k2,s2,r2,by
    rintro z S3 zv H3 ⟨kvs,k,e3,e4,hl,r3,r4⟩ v3 s3 k3
    obtain⟨vs,e6,t⟩:=s3.cj e3
    have kk:=s3.fm (o:=.dK<|putK vs k zv) e3
    have hR3:=hR.kp<|(k1.trans k2).trans k3
    refine{vs,k,e6,nZ e4<|Rv.ts k3 _ v2,by rw[t.len];exact hl,λv hv=>?_,λhn=>?_}
    ·cases q:cn kvs k with
     |none=>rw[(t.val k).2 q]at hv;cases hv
     |some d =>
      obtain⟨v',e7,r7⟩:=(t.val k).1 d q
      rw[e7]at hv;cases hv
      exact hR3.now s3 (r3 d q) r7
    ·cases q:cn kvs k with
     |some d=>obtain⟨v',e7,r7⟩:=(t.val k).1 d q;rw[e7]at hn;cases hn
     |none=>exact hR3 _ _ _ _ (r4 q) (Rv.ts kk _ v3) (s3.put (c:=.cj _) e3 {_,aD,(t.put k v3).ts kk}) kk,hZ.kp<|k1.trans k2⟩,hZ.kp k1⟩,hZ⟩⟩
noncomputable def C3(f:Str)(d:D):List (Str×D)->List (Str×D)|[]=>[(f,d)]| (g,x)::r=>if g=f then (g,d)::r else (g,x)::C3 f d r
theorem bB.C3{H:Hp}{f:Str}{d:D}{v:V}(rd:Rv K H d v):∀{ks:List (Str×D)}{vs:List (Str×V)},bB K H ks vs->bB K H (C3 f d ks) (putF f v vs)|_,_,.nil=>.cons ⟨rfl,rd⟩ .nil| (g,x)::r,(g',y)::r',.cons h t=>by obtain⟨e,h⟩:=h;dsimp only at e;subst e;show bB K H (if g=f then (g,d)::r else (g,x)::L2.C3 f d r) (if g=f then (g,v)::r' else (g,y)::putF f v r');by_cases q:g=f;rw[if_pos q,if_pos q];exact .cons ⟨rfl,rd⟩ t;rw[if_neg q,if_neg q];exact .cons ⟨rfl,h⟩<|bB.C3 rd t
def V4(C:Addr)(f:Str)(ta tv:TD):mq:=λDe σ S Z=>tv σ S (λy S1=>ta σ S1 (λx S2=>∃a fs,x=.ref a/\S2 a=some (.ins C fs)/\fs.length<1000/\De.nx σ (S2.set a<|.ins C<|C3 f y fs))<|Z σ)<|Z σ
theorem sf{C:Addr}{f:Str}{value:Expr}{ta tv:TD}{pos':Pos}(c:qG K C)(n:i7 K C f)(ha:DE K X o ta)(hv:DE K X value tv)(hs:autoParam (swapsWith value (some<|.Attribute o f pos') pos.line X.env=pure false) qQJ)(hK:autoParam (X.K=K) qQJ): DS K X b (.Assign [.Attribute o f pos'] value pos) (V4 C f ta tv):=by
 subst hK
 exact⟨λy=>(P_ (X:=y.cx) (ha.of y) (hv.of y) hs).mono <| by rintro D τ H ⟨σ,S,De,Z,aB,hS,q,hD,hZ⟩;exact
  ⟨σ,S,_,_,aB,hS,q,λy S1 yv H1 r1 v1 s1 k1=>⟨σ,S1,_,_,aB.ts k1,s1,r1,by
   rintro x S2 xv H2 ⟨a,fs,e1,e2,hl,r2⟩ v2 s2 k2
   subst e1
   obtain⟨dx,vs,e4,t4⟩:=s2.ins e2
   have kk:=s2.fm (o:=.ins C dx<|putF f yv vs) e2
   exact{a,C,dx,vs,v2.ref,e4,c,n,by rw[t4.len];exact hl,hD.nx _ _ _ _ r2 (aB.ts<|(k1.trans k2).trans kk) (s2.put (c:=.ins C _) e2 {dx,_,aD,(bB.C3 (Rv.ts k2 _ v1) t4).ts kk})<|(k1.trans k2).trans kk},hZ.on k1<|aB.ts k1⟩,hZ.at aB⟩⟩
end
structure lW where
 xs:List D
 ok:ak->Prop
def V5(K:Frag)(H0:Hp)(J:It)(I:lW):Prop:=∀i S H,Kp K H0 H->Rs K S H->I.ok S->(∀d,I.xs[i]?=some d->J.go i H/\∀x H',J.Ux i H x H'->Rv K H' d x/\Kp K H H'/\Rs K S H')/\(I.xs.length<=i->J.stop i H)
abbrev AF:=SD->ak->(lW->ak->Prop)->KX->Prop
def Ti(K:Frag)(E:St->XK)(t:AF):TI:=λτ H R=>∃σ S RI Z,g_ K H σ τ/\Rs K S H/\t σ S RI Z/\(∀I S' J H',RI I S'->V5 K H' J I->Rs K S' H'->Kp K H H'->R J H')/\Ez K H Z (E τ)
structure DI(K:Frag)(X:Cx)(tg it:Expr)(t:AF):Prop where
 of:∀{b:Bool}(y:Ev X b),PI y.cx tg it<|Ti K y.E t
theorem PI.mono{t t':TI}(h:PI X tg it t)(i:∀τ H R,t' τ H R->t τ H R):PI X tg it t':=λpins s τ H R I q=>h pins s τ H R I<|i τ H R q
section
variable{K:Frag}{X:Cx}{tg l:Expr}
def aaI(t:TD):AF:=λσ S R Z=>t σ S (λx S1=>∃ds,u4 S1 x ds/\R {ds,λS=>u4 S x ds} S1) Z
theorem il{t:TD}(h:DE K X l t)(hK:autoParam (X.K=K) qQJ):DI K X tg l (aaI t):=by subst hK;exact⟨λy=>(Lx (X:=y.cx)<|h.of y).mono <| by rintro τ H R ⟨σ,S,RI,Z,aB,hS,q,hR,hZ⟩;exact{σ,S,_,Z,aB,hS,q,by rintro x S1 v H1 ⟨ds,h1,r1⟩ v1 s1 k1;obtain⟨a,xs,rfl,hq,t⟩:=h1.at s1 v1;refine{a,rfl,⟨xs,hq⟩,hR _ S1 _ H1 r1 (λi S2 H2 k2 s2 Yg=>?_) s1 k1};obtain⟨a',Q4,e',Hw,t'⟩:=u4.at Yg s2<|Rv.ts k2 _ v1;cases e';refine{λd hd=>?_,λhl=>{Q4,Hw,by rw[t'.len];exact hl}};obtain⟨v,e1,r⟩:=t'.get hd;refine{⟨Q4,v,Hw,e1⟩,λx' H' ⟨e2,e3⟩=>?_};subst e2;have:=e3 Q4 Hw;rw[e1]at this;cases this;exact{r,.refl _,s2},hZ}⟩
def V6(t:TD):AF:=λσ S R Z=>t σ S (λx S1=>∃ds,(x=.tup ds\/x=.kt ds)/\R {ds,λ_=>True} S1) Z
theorem Q5{H:Hp}{x:D}{ds:List D}{v:V}(h:x=.tup ds\/x=.kt ds)(r:Rv K H x v):∃a xs,v=.ref a/\(∀H',Kp K H H'->gu K H' a xs)/\RvAll K H ds xs:=by rcases h with rfl|rfl;obtain⟨a,xs,rfl,q,t⟩:=r.tup;exact{a,xs,rfl,λH' k=>.of<|k.t _ _ q,t};obtain⟨a,xs,rfl,q,t⟩:=r.kt;exact{a,xs,rfl,λH' k=>.inr q,t}
theorem EF{t:TD}(h:DE K X l t)(hK:autoParam (X.K=K) qQJ):DI K X tg l (V6 t):=by subst hK;exact⟨λy=>(PR (X:=y.cx)<|h.of y).mono <| by rintro τ H R ⟨σ,S,RI,Z,aB,hS,q,hR,hZ⟩;exact{σ,S,_,Z,aB,hS,q,by rintro x S1 v H1 ⟨ds,h1,r1⟩ v1 s1 k1;obtain⟨a,xs,rfl,hq,t⟩:=Q5 h1 v1;refine{a,rfl,{xs,hq _<|.refl _},hR _ S1 _ H1 r1 (λi S2 H2 k2 s2 _=>?_) s1 k1};have Tx:=hq H2 k2;refine{λd hd=>?_,λhl=>{xs,Tx,by rw[t.len];exact hl}};obtain⟨v,e1,r⟩:=(RvAll.ts k2 _ t).get hd;refine{⟨xs,v,Tx,e1⟩,λx' H' ⟨e2,e3⟩=>?_};subst e2;have:=e3 xs Tx;rw[e1]at this;cases this;exact{r,.refl _,s2},hZ}⟩
noncomputable def dS(lo:Int)(n:Nat):List D:=(List.range n).map λi=>D.int<|lo+(i:Nat)
theorem cE{lo:Int}{n:Nat} : (dS lo n).length=n:=by unfold dS;rw[zb,List.length_range]
theorem c9{lo:Int}{n i:Nat}{d:D}(h:(dS lo n)[i]?=some d):i<n/\d=.int (lo+i):=by unfold dS at h;rw[zm]at h;by_cases q:i<n;rw[List.getElem?_range q]at h;exact{q,(zT h).symm};rw[List.getElem?_eq_none<|by rw[List.length_range];omega]at h;cases h
theorem Q6{H0:Hp}{lo:Int}{n:Nat} : V5 K H0 (X3 lo n) {dS lo n,λ_=>True}:=λi S H k s _=>{λd hd=>by obtain⟨h1,rfl⟩:=c9 hd;exact{h1,by rintro x H' ⟨e1,e2⟩;exact by subst e1 e2;exact{aN _,.refl _,s}},λhl=>by rw[cE]at hl;exact hl}
def aaJ(t:iX):AF:=λσ S R Z=>t σ S (λds S1=>∃j:Int,ds=[.int j]/\-(2^62)<=j/\j<2^62/\R {dS 0 j.toNat,λ_=>True} S1) Z
theorem Oo{t:iX}(hm:X.mg "range"= none)(ha:DA K X [a] t)(hg:autoParam (Gl X "range") qQJ)(hs:autoParam (starEach [a] X.env=[(false,eval a X.env)]) qQJ):DI K X tg (.Call (.Name "range" p) [a] [] pos) (aaJ t):=⟨λy=>(FK (X:=y.cx) hg hm (ha.of y) hs).mono <| by rintro τ H R ⟨σ,S,RI,Z,aB,hS,q,hR,hZ⟩;exact{σ,S,_,Z,aB,hS,q,by rintro ds S1 vs H1 ⟨j,e,h1,h2,r1⟩ v1 s1 k1;subst e;obtain⟨v,rfl,r⟩:=v1.one;exact{j,by rw[r.int],h1,h2,hR _ S1 _ H1 r1 Q6 s1 k1},hZ}⟩
end
section
variable{K:Frag}{X:Cx}{tg iter:Expr}{pos:Pos}
def aaK(ti:AF)(g:AE)(tb:mq):mq:=λDe σ S Z=>ti σ S (λI S1=>∃P:Nat->SD->ak->Prop,P 0 σ S1/\(∀i σ S,P i σ S->I.ok S)/\(∀i d σ S,I.xs[i]?=some d->P i σ S->g d σ S λqE S2=>tb {De with nx:=P<|i+1,ct:=P<|i+1,bk:=De.nx} qE S2 Z)/\∀σ S,P I.xs.length σ S->De.nx σ S)<|Z σ
theorem Hy(hi:DI K X tg iter ti)(hg:DG K X tg g)(hb:Hx K X true body tb)(hs:autoParam (∀x,foldedSetIterable iter X.env x=pure x) qQ0)(hc:autoParam (X.calm=true) qQJ):DS K X true (.For tg iter body [] pos) (aaK ti g tb):=
 ⟨λy=>(PU (X:=y.cx) (y.ok.loop rfl) hc (hi.of y) (hg.of _ rfl rfl rfl rfl rfl) (hb.of y) hs).mono <| by rintro D τ H ⟨σ,S,De,Z,aB,hS,q,hD,hZ⟩;exact
  ⟨σ,S,_,_,aB,hS,q,by
   rintro I S1 J H1 ⟨P,p0,pok,pst,pend⟩ hJ s1 k1
   refine{λi m τ H=>m=I.xs.length-i/\i<=I.xs.length/\∃σ S,g_ K H σ τ/\Rs K S H/\P i σ S/\Kp K H1 H,!{zY _,σ,S1,aB.ts k1,s1,p0,.refl _},?_}
   rintro i m τ2 H2 ⟨rfl,V7,qE,S2,a2,s2,p2,k2⟩
   have ok:=hJ i S2 H2 k2 s2<|pok _ _ _ p2
   by_cases eI:i<I.xs.length
   ·obtain⟨go,yl⟩:=ok.1 _ (zg eI)
    refine .inr {go,λTs H'=>i+1<=I.xs.length/\∃σ S,g_ K H' σ Ts/\Rs K S H'/\P (i+1) σ S/\Kp K H1 H',λaA H' h'=>{_,by omega,rfl,h'},λx H' hy=>?_}
    obtain⟨rx,k3,s3⟩:=yl x H' hy
    refine{_,qE,S2,_,rx,a2.ts k3,s3,pst i _ qE S2 (zg eI) p2,λYh S4 τ4 H4 r4 a4 s4 k4=>?_}
    have kk:=(k2.trans k3).trans k4
    exact{Yh,S4,_,Z,a4,s4,r4,{λQ7 S5 τ5 H5 r5 a5 s5 k5=>{eI,Q7,S5,a5,s5,r5,kk.trans k5},hD.rt.kp<|k1.trans kk,(hD.nx.kp<|k1.trans kk),λQ7 S5 τ5 H5 r5 a5 s5 k5=>{eI,Q7,S5,a5,s5,r5,kk.trans k5}},hZ.kp<|k1.trans kk}
   ·have e:i=I.xs.length:=by omega
    subst e
    exact .inl {ok.2<|zr _,hD.nx _ _ _ _ (pend _ _ p2) a2 s2<|k1.trans k2},hZ.at aB⟩⟩
end
noncomputable def mr(σ:SD)(src:List<|Option Nat):SD:=src.map λo=>match o with|some j=>(σ[j]?).join|none=>none
theorem g_.pick{K:Frag}{H:Hp}{σ:SD}{τ:St}(h:g_ K H σ τ):∀src:ul,g_ K H (mr σ src) (pick τ src)|[]=>.nil|o::r=>.cons (λd e=>by cases o with|none=>(cases e)|some j=>dsimp only at e⊢;cases q:σ[j]? with|none=>(rw[q]at e;cases e)|some o'=>rw[q]at e;obtain rfl:o'=some d:=e;obtain⟨v,e1,r1⟩:=h.get q;exact{v,by rw[e1];rfl,r1})<|g_.pick h r
def Zf:KX:=λ_ _=>False
def AG(σ:SD)(src:List<|Option Nat)(g:AE)(tc:lV)(te:TD)(R:KD)(I:lW)(S1:ak):Prop:=∃P:Nat->List D->ak->Prop,P 0 [] S1/\(∀i out S,P i out S->I.ok S)/\(∀i d out S,I.xs[i]?=some d->P i out S->out.length<sizeLine/\g d (mr σ src) S λfP S3=>tc fP S3 (λb S4=>if b=true then te fP S4 (λv S5=>P (i+1) (out++[v]) S5) Zf else P (i+1) out S4) Zf)/\∀out S2,P I.xs.length out S2->∀p,S2 p=none->R (.ref p) (S2.set p<|.lst out)
def u6(ti:AF)(src:List<|Option Nat)(g:AE)(tc:lV)(te:TD):TD:=λσ S R Z=>ti σ S (λI S1=>AG σ src g tc te R I S1) Z
theorem Ez.f{K:Frag}{H:Hp}{e:XK} : Ez K H Zf e:=λ_ _ _ z=>z.elim
theorem T.comp{K:Frag}{E E':St->XK}{ti:AF}{src:List<|Option Nat}{g:TG}{gd:AE}{tc:lV}{te:TD}{τ:St}{H:Hp}{Q:VK}(hg:∀v τ H Q,Tg K gd v τ H Q->g v τ H Q)(h:T K E (u6 ti src gd tc te) τ H Q):Iu (Ti K E ti) src g (Tt K E' tc) (T K E' te) τ H Q:=by
 obtain⟨σ,S,R,Z,aB,hS,q,hR,hZ⟩:=h;refine{σ,S,_,Z,aB,hS,q,λI S1 J H1 ⟨P,p0,pok,pst,pend⟩ hJ s1 k1=>?_,hZ};refine{λi m out H=>m=I.xs.length-i/\i<=I.xs.length/\∃ds S,RvAll K H ds out/\Rs K S H/\P i ds S/\Kp K H1 H,!{zY _,[],S1,bu,s1,p0,.refl _},?_};rintro i m out H2 ⟨rfl,V7,ds,S2,v2,s2,p2,k2⟩;have ok:=hJ i S2 H2 k2 s2<|pok _ _ _ p2;by_cases eI:i<I.xs.length;obtain⟨go,yl⟩:=ok.1 _<|zg eI;obtain⟨hz,st⟩:=pst i _ ds S2 (zg eI) p2;refine .inr {go,by rw[v2.len];exact hz,λx H' hy=>?_};obtain⟨rx,k3,s3⟩:=yl x H' hy;refine hg _ _ _ _ {_,_,S2,_,rx,(((aB.ts k1).ts k2).ts k3).pick src,s3,st,λYh S4 τ4 H4 r4 a4 s4 k4=>?_};refine{Yh,S4,_,Zf,a4,s4,r4,λc S5 H5 r5 s5 k5=>?_,.f};cases c with|true=>rw[if_pos rfl]at r5⊢;exact{Yh,S5,_,Zf,a4.ts k5,s5,r5,λd S6 v H6 r6 v6 s6 k6=>{_,by omega,rfl,eI,ds++[d],S6,(RvAll.ts (((k3.trans k4).trans k5).trans k6) _ v2).app<|aT v6 bu,s6,r6,(((k2.trans k3).trans k4).trans k5).trans k6},.f}|false=>rw[if_neg zd]at r5⊢;exact{_,by omega,rfl,eI,ds,S5,RvAll.ts ((k3.trans k4).trans k5) _ v2,s5,r5,((k2.trans k3).trans k4).trans k5}
 have e:i=I.xs.length:=by omega
 subst e;exact .inl {ok.2<|zr _,λp hp=>(hR.kp<|k1.trans k2).new s2 hp (pend _ _ p2 p) v2}
noncomputable def Ev.none(X:Cx)(h:X.xe=λ_ _=>False):Ev X false:={X.pn,X.xe,λ_=>E0,{by rintro p2 τ H s e s' _ ⟨_,_,_,_,_,_,_,_,_,z⟩;exact z.elim,λe=>(by cases e),λe=>(by cases e)}}
section
variable{K:Frag}{X:Cx}{b:Bool}{N:j4}{src:ul}{scope:Scope}{tg iter elt:Expr}{ifs:mt}{pos:Pos}{ti:AF}{g:TG}{gd:AE}{tc:lV}{te:TD}
structure Tz(K:Frag)(X:Cx)(ifs:mt)(t:lV):Prop where
 of:∀{b:Bool}(y:Ev X b),Tf y.cx ifs<|Tt K y.E t
def mw:lV:=λ_ S R _=>R true S
theorem pC:Tz K X [] mw:=⟨λy pins s τ H Q I ⟨σ,S,R,Z,aB,hS,q,hR,hZ⟩=>LZ pins s τ H Q I<|hR true S H q hS<|.refl _⟩
theorem if1{t:lV}(h:DT K X c t):Tz K X [c] t:=⟨λy=>L3<|h.of y⟩
theorem TB(S:bf X N src scope)(hit:DI K X tg iter ti)(hg:∀C s H ex pn,PG (fW X N scope C s H ex pn) tg g)(hx:Cy g src)(hgd:∀v τ H Q,Tg K gd v τ H Q->g v τ H Q)(hi:∀C s H ex pn,Tz K (fW X N scope C s H ex pn) ifs tc)(he:∀C s H ex pn,DE K (fW X N scope C s H ex pn) elt te)(hs:autoParam (∀x,foldedSetIterable iter X.env x=pure x) qQ0)(hc:autoParam (X.calm=true) qQJ):DE K X (.ListComp elt [{tg,iter,ifs,0}] scope pos) (u6 ti src gd tc te):=⟨λy=>(L5 (X:=y.cx) (tc:=Tt K (λ_=>E0) tc) (te:=T K (λ_=>E0) te) ⟨S.kind,S.gy,S.loc,S.BY,S.len,S.src⟩ hc (hit.of y) hg hx (λC s H ex pn=>(hi C s H ex pn).of<|.none _ rfl) (λC s H ex pn=>(he C s H ex pn).of<|.none _ rfl) hs).mono λ_ _ _ h=>h.comp hgd⟩
theorem stc(hN:X.N.Nodup)(S:bf X N src scope)(hit:DI K X tg iter ti)(hg:∀C s H ex pn,PG (fW X N scope C s H ex pn) tg g)(hx:Cy g src)(hgd:∀v τ H Q,Tg K gd v τ H Q->g v τ H Q)(hi:∀C s H ex pn,Tz K (fW X N scope C s H ex pn) ifs tc)(he:∀C s H ex pn,DE K (fW X N scope C s H ex pn) elt te)(Ve:autoParam (X.N[i]?=some x) qQJ)(Aq:autoParam (X.env.scope.names.lookup x=some .local) qQJ)(Vf:autoParam (swapsWith (.ListComp elt [{tg,iter,ifs,0}] scope pos) (some<|.Name x pos') Gg.line X.env=pure true) qQJ)(hs:autoParam (∀x,foldedSetIterable iter X.env x=pure x) qQ0)(hc:autoParam (X.calm=true) qQJ):DS K X b (.Assign [.Name x pos'] (.ListComp elt [{tg,iter,ifs,0}] scope pos) Gg) (Q2 i<|u6 ti src gd tc te):=⟨λy=>(Cz (X:=y.cx) (i:=i) (tc:=Tt K (λ_=>E0) tc) (te:=T K (λ_=>E0) te) hN Ve Aq ⟨S.kind,S.gy,S.loc,S.BY,S.len,S.src⟩ hc (hit.of y) hg hx (λC s H ex pn=>(hi C s H ex pn).of<|.none _ rfl) (λC s H ex pn=>(he C s H ex pn).of<|.none _ rfl) Vf hs).mono <| by rintro D τ H ⟨σ,S,De,Z,aB,hS,q,hD,hZ⟩;exact T.comp hgd {σ,S,_,_,aB,hS,q,λd S1 v H1 r1 v1 s1 k1=>hD.nx _ _ _ _ r1 ((aB.ts k1).set i v1) s1 k1,hZ.at aB}⟩
theorem EG:∀v τ H Q,Tg K (Tw i) v τ H Q->iB i v τ H Q:=by rintro v τ H Q ⟨d,σ,S,R,rv,aB,hS,q,hR⟩;exact hR _ S _ H q (aB.set i rv) hS<|.refl _
end
structure wB(K:Frag)(x qual:Str)(st:Stmt)(f:Addr)(fd:FuncData):Prop where
 ex:∃(oc:Value)(od:pi)(dV kV doc pm:Value)(an:pi)(fV ct:Value)(Qd:sK),
  fd=fnOf x qual (bL st) (bA st) (aj st) dV kV doc pm an fV ct/\K.lookup f=some {oc,od,.func fd,Qd}/\codeIn K fV qual=true
noncomputable def je(N:j4)(ds:List D):SD:=ds.map some++List.replicate (N.length-ds.length) none
section
variable{i:Nat}{P:Program}{w:World}{K:Frag}{mg:Str->Option Value}{base:Heap}
theorem wB.okD{x qual:Str}{st:Stmt}{f:Addr}{fd:FuncData}{N ps:j4}{k:Nat}{sp:rP}(F:wB K x qual st f fd)(S:fU N ps<|aj st)(len:∀ds S R Z,sp ds S R Z->ds.length=ps.length)(l7:∀(fV:Value)(A:Around)(outer:jp)(s:Shared)(H:Hp)(E:XK)(ds:List D)(S:ak)(R:KD)(Z:KX),bX k (A.deeper<|envOfC qual (aj st) s.heap.objs.size f fV)->sp ds S R Z->∃t,Hx K (j_ (fR P w mg) P w K mg base N qual (aj st) f fV A outer s H E) true (bA st) t/\t {nx:=λ_ S'=>R .au S',rt:=R} (je N ds) S λ_=>Z):bT P w K mg base (fR P w mg) (k+1) f fd ps (tQ K sp):=by
 obtain⟨oc,od,dV,kV,doc,pm,an,fV,ct,Qd,rfl,lk,tN⟩:=F.ex;have eO:ps.length<=N.length:=by have:=congrArg List.length S.pre;rw[yp]at this;lia
 refine N2 lk tN S (by rintro vs H Q E ⟨ds,S',R,Z,v,_,h,_⟩;exact by rw[v.len];exact len _ _ _ _ h) λA outer s H vs Q E hr ⟨ds,S',R,Z,v,hS,h,hR,hZ⟩=>?_;obtain⟨t,ht,q⟩:=l7 fV A outer s H E ds S' R Z hr h;have L:cW (j_ (fR P w mg) P w K mg base N qual (aj st) f fV A outer s H E) E:=u0;let y:Ev (j_ (fR P w mg) P w K mg base N qual (aj st) f fV A outer s H E) true:={_,(j_ (fR P w mg) P w K mg base N qual (aj st) f fV A outer s H E).xe,λ_=>E,{λp2 τ H1 s1 e s' I h=>N9 L p2 τ H1 s1 e s' I h,λ_ p2 τ H1 s1 h' a cls args I hx he=>pB L I hx he,λ_=>PassesOwn.leaving}};refine{Tl K (λ_=>E) t,ht.of y,je N ds,S',_,λ_=>Z,?_,hS,q,{λσ S1 τ H1 r a b c=>hR.kp c |>.now b r gA,hR,λ_ _ _ _ z=>z.elim,λ_ _ _ _ z=>z.elim},λσ τ C S1 H1 z a b c=>hZ C S1 H1 z b c};unfold je start;refine(rJ v).app ?_;rw[v.len];exact rH _ _<|by rw[List.length_replicate]
theorem bT.Q8(F:bT P w K mg base (fR P w mg) k f fd ps<|tQ K sp)(h:∀ds S R Z,X5 ds S R Z->sp ds S R Z):bT P w K mg base (fR P w mg) k f fd ps (tQ K X5):=F.imp <| by rintro vs H Q E ⟨ds,S,R,Z,a,b,c,d⟩;exact{ds,S,R,Z,a,b,h _ _ _ _ c,d}
theorem bT.calm(F:bT P w K mg base (fR P w mg) k f fd ps sp):bT P w K mg base X7 k f fd ps λvs H Q _=>sp vs H Q E0:=by refine{λvs H Q E h=>F.len vs H Q E0 h,λA outer s H args us vs Q E hr e0 hb r h=>yW (F.run A outer s H args us vs Q E0 hr e0 hb r h) λres s' q=>?_};cases res with|error e=>(obtain⟨_,_,_,_,_,_,_,_,_,z⟩:=q;exact z.elim)|ok fl=>cases fl<;>exact q
noncomputable def u5.less(De:u5)(i:Nat):u5:={nx:=λσ S=>De.nx (σ.set i none) S,rt:=De.rt,bk:=λσ S=>De.bk (σ.set i none) S,ct:=λσ S=>De.ct (σ.set i none) S}
end
theorem u7{P:Program}{w:World} : ∀{ss:j4}{vs:dL},vs.length=ss.length->(∀(j:Nat)(v:Value),vs[j]?=some v->∃x,ss[j]?=some x/\keyIs (.inr x) v=true)->StrsAre vs ss|[],[],_,_=>.nil|[],_::_,h,_=>by simp at h|_::_,[],h,_=>by simp at h|x::ss,v::vs,h,k=>by obtain⟨x',e,q⟩:=k 0 v rfl;cases e;rcases bE q with⟨i,t,e,_⟩|⟨y,t,e,rfl⟩;cases e;cases e;exact .cons x t<|u7 (P:=P) (w:=w) (by simpa using h) λj v e=>k (j+1) v<|by simpa using e
theorem u9:∀{vs:dL}{ss:j4},StrsAre vs ss->Vals (ss.map V.str) vs|_,_,.nil=>.nil|_,_,.cons y t h=>.cons ⟨t,rfl⟩<|u9 h
theorem KV.aaP{κ:Type}{kvs:List<|κ×V}{vs:List<|κ×Value}(h:KV kvs vs):vs.map (·.1)=kvs.map (·.1):=by unfold KV at h;induction h with|nil=>rfl|cons r t ih=>rw[zt,zt,ih,r.1]
theorem IY{prog:Program}{w:World}{A:Around}{E:li}{s:Shared}{T:String}{r d:Addr}{n:Nat}{P:Nat->Value->Prop}{OK:Heap->Prop}{R:List Value->Shared->Prop}(K:PySem.W.KdlSrc prog w T r d n P OK)(hh:A.handled=none)(aG:OK s.heap)(hn:n<=sizeLine)(h:∀(h':Heap) (tk:Nat) (acc:ii),(∀b o,s.heap.get? b=some o->h'.get? b=some o)->s.heap.objs.size<=h'.objs.size->ItemsOf P acc n->R acc.toList {s with heap:=h',toks:=tk}): wpAny (model prog w) A (collect<|.ref r) R E s:=by have eI:=K.there _ aG;unfold collect;refine zc<|wpAny_runValue<|yS entry_proto_collect' ?_;rw[Around.under_plainId PySem.F.plain_proto_collect _];show wpAny _ A.in1 (newList [] >>=λl=>again<|.builtin "list.__iadd__" {[l,.ref r],[]}) _ _ s;refine zc<|yG ?_;refine zy {plainId_quiet PySem.F.plain_list_iadd _,yS entry_list_iadd' ?_};rw[Around.under_plainId PySem.F.plain_list_iadd _];have V8:(s.heap.push {cls:=.type "list",data:=.seq ([]:dL).toArray}).get? s.heap.objs.size=some {cls:=.type "list",data:=.seq #[]}:=zk _ rfl;show wpAny _ A.in1 (Builtin.List.listExtendWith (.ref s.heap.objs.size) (.ref r)<|.ref s.heap.objs.size) _ _ _;have key:=PySem.W.kdl_extend (A:=A) (s:={s with heap:=s.heap.push {cls:=.type "list",data:=.seq ([]:dL).toArray}}) (R:=λ(q:Result) (s':Shared)=>∃(h':Heap) (tk:Nat) (AH:ii) (c':Nat),q=.ok (.ret<|.ref s.heap.objs.size)/\s'={s with heap:=h',toks:=tk}/\(∀b o,s.heap.get? b=some o->h'.get? b=some o)/\h'.get? s.heap.objs.size=some {cls:=.type "list",dict:=none,data:=.seq AH c',slots:=#[]}/\ItemsOf P AH n) K hh (K.keep _ _ aG λb _ o e=>za _ e) s.heap.objs.size (yr eI.1) (yr eI.2) (.ref s.heap.objs.size) 0 V8 (λh' tk AH c' hk qI rB=>{h',tk,AH,c',rfl,rfl,λb o e=>hk b o (zD<|zw e)<|za _ e,qI,rB}) hn;refine yx key (λfin s' x=>?_) λe s' x=>?_;{cases fin with|done f=>(obtain⟨h',tk,AH,c',e,rfl,hk,qI,rB⟩:=x;cases e;show wpAny _ A (load s.heap.objs.size >>=_) _ _ _;exact zc<|wpAny_load qI<|zy<|h h' tk AH hk (yN<|zw qI) rB)|again c₁=>refine{x.1,yW x.2 λq bG y=>?_};obtain⟨h',tk,AH,c',rfl,rfl,hk,qI,rB⟩:=y;show wpAny _ A (load s.heap.objs.size >>=_) _ _ _;exact zc<|wpAny_load qI<|zy<|h h' tk AH hk (yN<|zw qI) rB};obtain⟨_,_,_,_,e',_⟩:=x;cases e'
theorem wC{X:Cx}(hc:X.calm=true):ee X (.builtin "sorted") (λxs H Q=>∃(a:Addr)(kvs:List (Key×V))(ss:j4),xs=[.ref a]/\H a=some (.dK kvs)/\kvs.map (·.1)=ss.map Sum.inr/\kvs.length<64/\∀EH,EH.Perm ss->sortedS EH=true->∀l,H l=none->Q (.ref l) (upd H l<|.lst<|EH.map V.str)):=by
 intro pins s σ H xs us Q I r h;obtain⟨a,kvs,ss,rfl,e,hk,hl,q⟩:=h;obtain⟨u,rfl,ru⟩:=vals1 r;cases ru;obtain⟨z,hd,vs,rel,dd⟩:=rj I.aG e;obtain⟨ep,Yi⟩:=dd.dictAt;have hlen:vs.length<64:=by rw[<-rel.length];exact hl
 have hh:=I.ok.hd hc;refine PySem.Calls.call_function_entry kind_sorted plain_sorted entry_sorted (args_sorted1 _) ?_;unfold Builtin.«sorted»;refine zc (m:=checkCount "sorted" 1 1 _)<|zy ?_;refine zc<|IY (A:=X.A.in1) (PySem.W.kdl_dict (knd:=aE X.prog X.w) (kvs:=vs) (ep:=ep) hd) hh Yi (by rw[yf];omega) λh' tk acc Oq hB rB=>?_;have N3:acc.toList.length=vs.length:=by rw[yd];exact rB.1
 refine zc<|wpAny_newList ?_ (by rw[N3,yf];omega);have hS:StrsAre acc.toList ss:=by have hkv:=rel.aaP;refine u7 (P:=X.prog) (w:=X.w) (by rw[N3,<-rel.length];have:=congrArg List.length hk;simpa using this) λj v ev=>?_;obtain⟨k,x,e1,e2⟩:=rB.2 j v (by rw[<-Array.getElem?_toList];exact ev);have e3:(vs.map (·.1))[j]?=some k:=(by rw[zm,e1];rfl);rw[hkv,hk,zm]at e3;cases q2:ss[j]? with|none=>(rw[q2]at e3;cases e3)|some y=>rw[q2]at e3;cases e3;exact⟨y,rfl,e2⟩
 have Hs:(h'.push<|seqObj "list" acc.toList.toArray 0).get? h'.objs.size=some (seqObj "list" acc.toList.toArray 0):=zk _ rfl;show wpAny _ _ _ _ _ {s with heap:=h'.push<|seqObj "list" acc.toList.toArray 0,toks:=tk};refine zc<|yO<|yP slot_list_sort {_,Hs,rfl} entry_list_sort (list_sort_treeK (s:={s with heap:=h'.push<|seqObj "list" acc.toList.toArray 0,toks:=tk}) strKind_oneLt Hs hS.keysOf (λn6 n8 rest e=>keyKind_strs<|by rw[<-e];exact hS) (by rw[N3];exact hlen) λeG hp hs=>!⟨?_⟩)<|args_list_sort _;refine zy !⟨?_⟩;obtain⟨EH,h1,h2,h3⟩:=sorted_out_str hS hp hs;obtain⟨e1,he1⟩:=sortedHeap_at (vs:=acc.toList) (n:=0) (out:=(arrOf eG).map (·.2)) Hs;have V9:EH.length<=sizeLine:=by rw[h2.length_eq,yf];have:=congrArg List.length hk;rw[zb,zb]at this;omega
 refine{.ref h'.objs.size,_,I.laid (a:=h'.objs.size) (o:=.lst<|EH.map V.str) (λb u hb=>?_) hB {by rw[zb];exact V9,_,e1,u9 h1,he1},rfl,q EH h2 h3 _<|I.aG.fresh hB};have eI:=zw<|Oq b u hb;rw[sortedHeap_old (zD eI)<|by rw[yc];exact Nat.lt_succ_of_lt eI,za _<|Oq b u hb]
section
variable{K:Frag}
def MD:List D->ak->KD->Prop:=λds S R=>∃(a:Addr)(kvs:List (Key×D))(ss:j4),ds=[.ref a]/\S a=some (.cj kvs)/\kvs.map (·.1)=ss.map Sum.inr/\kvs.length<64/\∀EH,EH.Perm ss->sortedS EH=true->∀p,S p=none->R (.ref p) (S.set p<|.lst<|EH.map D.str)
theorem bB.keys{κ:Type}{H:Hp}{ks:List<|κ×D}{vs:List<|κ×V}(h:bB K H ks vs):vs.map (·.1)=ks.map (·.1):=by unfold bB at h;induction h with|nil=>rfl|cons r t ih=>rw[zt,zt,ih,r.1]
theorem AI:gI K (.builtin "sorted") MD:=by rintro X hK hc pins s σ H xs us Q I rx ⟨ds,S,R,r,hS,⟨a,kvs,ss,e,e1,hk,hl,h⟩,hR⟩;subst e;obtain⟨v,rfl,r1⟩:=r.one;obtain⟨vs,e2,t⟩:=hS.cj e1;exact wC hc pins s σ H _ us Q I rx {a,vs,ss,by rw[r1.ref],e2,by rw[t.keys];exact hk,by rw[t.len];exact hl,λEH p1 p2 l hl=>hR.new hS hl (h EH p1 p2 l)<|wq EH}
end
def Ot(K:Frag)(a:Addr)(n:Nat):It:={λi H=>∃xs x,iQ K H a xs/\xs.length=n/\i<n/\xs[n-1-i]?=some x,λi H x H'=>H'=H/\∀xs,iQ K H a xs->xs.length=n->xs[n-1-i]?=some x,λi _=>n<=i}
theorem IZ{P:Program}{w:World}{K:Frag}{tg:Expr}(a it:Addr)(n:Nat):Turn P w K tg (Ot K a n) [it] it (λi h=>i<=n/\h.IsRevIter it a ((n:Int)-1-(i:Int))) where
 mem:=by simp
 obj:=λi h st b hb=>by
  have e:b=it:=by simpa using hb
  subst e
  obtain⟨_,o,e,c,d⟩:=st
  exact{o,e,λv z=>by rw[d]at z;cases z}
 keep:=λi h h' st k=>{st.1,st.2.at λo e=>k it (by simp) o e}
 item:=by
  intro X hP hw hK hc i pins s σ H E I hf st hg
  subst hP hw hK
  obtain⟨xs,x,hq,hn,hi,hx⟩:=hg
  obtain⟨ax,rv,p,hz⟩:=I.list hq
  obtain⟨u,hu,ru⟩:=rv.get hx
  obtain⟨f0,f1,f2,f3,f4,f5⟩:=hf it<|by simp
  have e:(n:Int)-1-(i:Int)=((n-1-i:Nat):Int):=by lia
  have hit:=st.2
  rw[e]at hit
  refine wpAny_pyNext_rev_item hit p.isList (x:=u) (by simpa using hu) λh' eG sb=>?_
  have I1:Inv X pins σ H {s with heap:=h'}:=I.turned (t':=s.toks) (λb o hb e=>(sb.2 b hb).trans e) f0 f1 f3 f4 f5
  obtain⟨o,e1,c,d⟩:=id eG
  refine{u,rfl,uN (s:={s with heap:=h'}) e1 c d (by decide) {x,H,I1,ru,{rfl,λys hy _=>by rw[I.y_ hy hq];exact hx},{hi,?_},λb hb=>(hf b hb).1}}
  have e2:(n:Int)-1-((i+1:Nat):Int)=((n-1-i:Nat):Int)-1:=by lia
  rw[e2];exact eG
 done:=by
  intro X hP hw hK hc i pins s σ H E I hf st hg
  subst hP hw hK
  obtain⟨f0,f1,f2,f3,f4,f5⟩:=hf it<|by simp
  have hg:n<=i:=hg
  have e:(n:Int)-1-(i:Int) = -1:=by have:=st.1;lia
  have hit:=st.2
  rw[e]at hit
  exact wpAny_pyNext_rev_end (I.ok.hd hc) hit λh' eb=>{rfl,I.turned (t':=s.toks) (λb o hb e=>eb b o hb e) f0 f1 f3 f4 f5}
 self:=λ_ _ _ _ _ st h=>wpAny_pyIter_revIter st.2 h
def aaQ(K:Frag)(ta:TA):TI:=λσ H R=>ta σ H λvs H1=>∃a xs,vs=[.ref a]/\iQ K H1 a xs/\R (Ot K a xs.length) H1
theorem Q9{X:Cx}{tg a:Expr}{ta:TA}{p pos:Pos}(hg:Gl X "reversed")(hm:X.mg "reversed"= none)(ha:PA X [a] ta)(hs:starEach [a] X.env=[(false,eval a X.env)]):PI X tg (.Call (.Name "reversed" p) [a] [] pos) (aaQ X.K ta):=by
 intro pins s σ H R I h;refine Call_<|gs I hg hm boot_reversed<|PyProof.Rows.callWith_type1 (ba (ha pos pins s σ H _ I h) λus s1 ⟨vs,H1,I1,r1,q1⟩=>?_) hs rfl;obtain⟨l,xs,e,q,hR⟩:=q1;subst e;obtain⟨u,rfl,ru⟩:=vals1 r1;cases ru;obtain⟨ax,rv,pl,hz⟩:=I1.list q;have hn:ax.toArray.size=xs.length:=by rw[zo,rv.length]
 refine call_reversed_list pl.isList ?_;rw[hn];have st:(s1.heap.push<|revObj l<|(xs.length:Int)-1).IsRevIter s1.heap.objs.size l ((xs.length:Int)-1-((0:Nat):Int)):={_,zk _ rfl,rfl,by show Data.fields _=Data.fields _;simp};have I2:Inv X pins σ H1 {s1 with heap:=s1.heap.push<|revObj l<|(xs.length:Int)-1}:=I1.kept (t':=s1.toks) λb o e=>za _ e;refine wpAny_pyIter_revIter st {_,_,_,_,H1,rfl,I2,IZ l s1.heap.objs.size xs.length,{zY _,st},λb hb=>?_,hR};have hb:b=s1.heap.objs.size:=by simpa using hb
 subst hb;exact I1.qf (zr _)<|I1.aG.fresh<|zr _
section
variable{K:Frag}{X:Cx}{tg:Expr}
def V_(t:iX):AF:=λσ S R Z=>t σ S (λds S1=>∃x es,ds=[x]/\u4 S1 x es/\R {es.reverse,λS=>u4 S x es} S1) Z
theorem irv{t:iX}(hm:X.mg "reversed"= none)(ha:DA K X [a] t)(hg:autoParam (Gl X "reversed") qQJ)(hs:autoParam (starEach [a] X.env=[(false,eval a X.env)]) qQJ)(hK:autoParam (X.K=K) qQJ):DI K X tg (.Call (.Name "reversed" p) [a] [] pos) (V_ t):=by subst hK;exact⟨λy=>(Q9 (X:=y.cx) hg hm (ha.of y) hs).mono <| by rintro τ H R ⟨σ,S,RI,Z,aB,hS,q,hR,hZ⟩;exact{σ,S,_,Z,aB,hS,q,by rintro ds S1 vs H1 ⟨x,es,e,h1,r1⟩ v1 s1 k1;subst e;obtain⟨v,rfl,r⟩:=v1.one;obtain⟨a,xs,rfl,hq,t⟩:=h1.at s1 r;refine{a,xs,rfl,hq,hR _ S1 _ H1 r1 (λi S2 H2 k2 s2 Yg=>?_) s1 k1};obtain⟨a',Q4,e',Hw,t'⟩:=u4.at Yg s2<|Rv.ts k2 _ r;cases e';have hl:xs.length=es.length:=t.len;have hl':Q4.length=es.length:=t'.len;refine{λd hd=>?_,λh=>by rw[yI]at h;show xs.length<=i;lia};have hi:i<es.length:=(by have:=(ze.mp hd).1;rwa [yI]at this);rw[List.getElem?_reverse hi]at hd;obtain⟨v,e1,r⟩:=t'.get hd;rw[<-hl]at e1;refine{{Q4,v,Hw,by lia,by lia,e1},λx' H' ⟨e2,e3⟩=>?_};subst e2;have:=e3 Q4 Hw (by lia);rw[e1]at this;cases this;exact{r,.refl _,s2},hZ}⟩
noncomputable def ic(xs ys:List D):List D:=List.zipWith (λa b=>D.tup [a,b]) xs ys
def Wa(t:iX):AF:=λσ S R Z=>t σ S (λds S1=>∃xs ys,ds=[.tup xs,.tup ys]/\xs.length=ys.length/\R {ic xs ys,λ_=>True} S1) Z
theorem mx:∀v τ H Q,Tg K (Om 2<|CZ (Tw i)<|CZ (Tw j) Ol) v τ H Q->Lw K 2 (qU (iB i)<|qU (iB j) Lv) v τ H Q:=by rintro v τ H Q ⟨d,σ,S,R,rv,aB,hS,⟨ds,e,hl,a,r,e1,b,r',e2,e3,q⟩,hR⟩;subst e e1 e2 e3;obtain⟨p,xs,rfl,hp,t⟩:=rv.tup;obtain⟨v1,v2,rfl,r1,r2⟩:=t.two;exact{p,_,rfl,.of hp,rfl,v1,[v2],rfl,v2,[],rfl,rfl,hR _ S _ H q ((aB.set i r1).set j r2) hS<|.refl _}
end
section
variable{K:Frag}{X:Cx}{b:Bool}{pos:Pos}
def Wb(tl ti tv:TD):mq:=λDe σ S Z=>tv σ S (λv S1=>tl σ S1 (λx S2=>ti σ S2 (λy S3=>∃a es i j,x=.ref a/\y=.int i/\S3 a=some (.lst es)/\FZ es.length i=some j/\De.nx σ (S3.set a<|.lst<|es.set j v))<|Z σ)<|Z σ)<|Z σ
theorem sls{o i value:Expr}{tl ti tv:TD}{pos':Pos}(ho:DE K X o tl)(hi:DE K X i ti)(hv:DE K X value tv)
  (ha:autoParam (∀v,assign (.Subscript o i pos') X.env v=(do
   let ov <-holding [v] (eval o X.env)
   let iv <-holding [v,ov] (eval i X.env)
   standAt pos'
   holding [v,ov,iv] (setItem ov iv v)
   release [v,ov,iv] [])) qQ0)
  (hs:autoParam (swapsWithSole [.Subscript o i pos'] value pos.line X.env=pure false) qQJ) (hw:autoParam (swappedStores [.Subscript o i pos'] value X.env=pure none) qQJ) (h1:autoParam ((assignEach [.Subscript o i pos'] X.env).map (·.2)=[assign (.Subscript o i pos') X.env]) qQJ):
  DS K X b (.Assign [.Subscript o i pos'] value pos) (Wb tl ti tv):=
 ⟨λy=>(HM (X:=y.cx) (hv.of y) (PH (ho.of y) (hi.of y) set_list ha) hs hw h1).mono <| by rintro D τ H ⟨σ,S,De,Z,aB,hS,q,hD,hZ⟩;exact
  ⟨σ,S,_,_,aB,hS,q,λv S1 vv H1 r1 v1 s1 k1=>⟨σ,S1,_,_,aB.ts k1,s1,r1,λx S2 xv H2 r2 v2 s2 k2=>⟨σ,S2,_,_,aB.ts<|k1.trans k2,s2,r2,by
   rintro y S3 yv H3 ⟨a,es,i,j,e1,e2,e3,e4,r3⟩ v3 s3 k3
   subst e1 e2
   obtain⟨xs,e5,t⟩:=s3.lst e3
   have kk:=s3.fm (o:=.lst<|xs.set j vv) e3
   refine{a,xs,i,j,(Rv.ts k3 _ v2).ref,v3.int,e5,by rw[t.len];exact e4,?_}
   exact hD.nx _ _ _ _ r3 (aB.ts<|((k1.trans k2).trans k3).trans kk) (s3.put (c:=.lst _) e3 {_,aD,RvAll.ts kk _<|t.set j<|Rv.ts (k2.trans k3) _ v1})<|((k1.trans k2).trans k3).trans kk,hZ.on (k1.trans k2)<|aB.ts<|k1.trans k2⟩,hZ.on k1<|aB.ts k1⟩,hZ.at aB⟩⟩
noncomputable def fq(z:Str):List D:=z.cps.toList.map λc=>D.str ⟨#[c]⟩
def Ou(t:TD):AF:=λσ S R Z=>t σ S (λx S1=>∃z,x=.str z/\R {fq z,λ_=>True} S1) Z
theorem Q_{t:TD}(h:DE K X l t):DI K X tg l (Ou t):=⟨λy=>(QB (X:=y.cx)<|h.of y).mono <| by rintro τ H R ⟨σ,S,RI,Z,aB,hS,q,hR,hZ⟩;exact⟨σ,S,_,Z,aB,hS,q,by
 rintro x S1 v H1 ⟨z,e,r1⟩ v1 s1 k1;subst e;refine{z,v1.str,hR _ S1 _ H1 r1 (λi S2 H2 k2 s2 _=>{λd hd=>?_,λhl=>?_}) s1 k1};unfold fq at hd;rw[zm,Array.getElem?_toList]at hd;cases q:z.cps[i]? with|none=>(rw[q]at hd;cases hd)|some c=>rw[q]at hd;cases hd;refine{(Array.getElem?_eq_some_iff.mp q).1,λx' H' ⟨e1,c',e2,e3⟩=>?_};rw[q]at e2;cases e2;subst e1 e3;exact{cu _,.refl _,s2}
 unfold fq at hl;rw[zb,yd]at hl;exact hl,hZ⟩⟩
def ME(t:TD):TD:=λσ S R Z=>t σ S (λx S1=>∃ss:j4,u4 S1 x (ss.map D.str)/\ss.length<4000/\R (.int (ja ss).length) S1) Z
theorem lse{t:TD}(h:DE K X e t)(hm:X.mg "len"= none)(hm':X.mg "set"= none)(hp:autoParam (isPlain e=true) qQJ)(hg:autoParam (Gl X "len") qQJ)(hg':autoParam (Gl X "set") qQJ)(he:autoParam (starEach [e] X.env=[(false,eval e X.env)]) qQJ)(he2:autoParam (starEach [Expr.Call (.Name "set" p') [e] [] pos'] X.env=[(false,eval (.Call (.Name "set" p') [e] [] pos') X.env)]) qQJ)(hK:autoParam (X.K=K) qQJ)(hc:autoParam (X.calm=true) qQJ): DE K X (.Call (.Name "len" p) [.Call (.Name "set" p') [e] [] pos'] [] pos) (ME t):=by subst hK;refine⟨λy=>(Ad (X:=y.cx) (Gj (X:=y.cx) rfl rfl) hg hm aK (ZV (uT (X:=y.cx) (Gi (X:=y.cx) rfl rfl rfl hc) hg' hm' QF (ZV (h.of y) Cp hp) (by decide) (by decide) he rfl) Cp rfl) (by decide) (by decide) he2 rfl).mono λτ H Q ⟨σ,S,R,Z,aB,hS,q,hR,hZ⟩=>?_⟩;refine{σ,S,_,Z,aB,hS,q,λx S1 v H1 ⟨ss,h1,hl,r1⟩ v1 s1 k1=>?_,hZ};obtain⟨a,xs,rfl,hq,t⟩:=h1.at s1 v1;rw[t.strs]at hq;exact{a,ss,rfl,hq,hl,λl hl=>{l,ss,rfl,aD,hR _ _ _ _ r1 (aN _) (s1.grow hl)<|k1.trans<|.new hl}}
end
theorem fe:bootBuiltins "sorted"= some (.builtin "sorted"):=by trivial
def Sub(S S':ak):Prop:=∀b c,S b=some c->S' b=some c
theorem Sub.refl(S:ak):Sub S S:=λ_ _ h=>h
theorem Sub.trans(a:Sub S S1)(b:Sub S1 S2):Sub S S2:=λp c h=>b p c<|a p c h
theorem Sub.new(h:S p=none):Sub S (S.set p c):=λb c' hb=>by rw[ae<|fk hb h];exact hb
theorem Rs.sub{K:Frag}{S S':ak}{H:Hp}(h:Rs K S' H)(s:Sub S S'):Rs K S H:=λa c e=>h a c<|s a c e
inductive Fo(S':ak)(p:ak->Prop):Prop where
 |mk (S:ak)(h:Sub S S')(r:p S):Fo S' p
theorem fo(h:p S):Fo S p:={S,.refl S,h}
section
variable{P:Program}{w:World}{K:Frag}{mg:Str->Option Value}{base:Heap}
theorem wB.ok{x qual:Str}{st:Stmt}{f:Addr}{fd:FuncData}{N ps:j4}{k:Nat}{sp:rP}(F:wB K x qual st f fd)(S:fU N ps<|aj st)(len:∀ds S R Z,sp ds S R Z->ds.length=ps.length)(l7:∀(fV:Value)(A:Around)(outer:jp)(s:Shared)(H:Hp)(E:XK)(ds:List D)(S:ak)(R:KD)(Z:KX),bX k (A.deeper<|envOfC qual (aj st) s.heap.objs.size f fV)->sp ds S R Z->∃t,Hx K (j_ (fR P w mg) P w K mg base N qual (aj st) f fV A outer s H E) true (bA st) t/\t {nx:=λ_ S'=>Fo S'<|R .au,rt:=λd S'=>Fo S'<|R d} (je N ds) S λ_ C S'=>Fo S'<|Z C):bT P w K mg base (fR P w mg) (k+1) f fd ps (tQ K sp):=by
 have F2:bT P w K mg base (fR P w mg) (k+1) f fd ps (tQ K λds S R' Z'=>∃R Z,sp ds S R Z/\R'=(λd S'=>Fo S'<|R d)/\Z'=λC S'=>Fo S'<|Z C):=by refine F.okD S (by rintro ds S R Z ⟨R0,Z0,h,_⟩;exact len _ _ _ _ h) λfV A outer s H E ds S R Z hr ⟨R0,Z0,h,e1,e2⟩=>?_;subst e1 e2;exact l7 fV A outer s H E ds S R0 Z0 hr h
 refine F2.imp <| by rintro vs H Q E ⟨ds,S,R,Z,v,hS,h,hR,hZ⟩;exact{ds,S,_,_,v,hS,⟨R,Z,h,rfl,rfl⟩,by rintro d S' u H' ⟨S2,sb,r⟩ rv rs kp;exact hR d S2 u H' r rv (rs.sub sb) kp,by rintro C S' H' ⟨S2,sb,r⟩ rs kp;exact hZ C S2 H' r (rs.sub sb) kp}
end
section
variable{K:Frag}{X:Cx}{b:Bool}
def Wc(t:mq):mq:=λDe σ S Z=>∃P:SD->ak->Prop,t {De with nx:=λaA S'=>Fo S'<|P aA} σ S Z/\∀aA S',P aA S'->De.nx aA S'
theorem ql{st:Stmt}{t:mq}(h:DS K X b st t):DS K X b st (Wc t):=⟨λy=>(h.of y).mono <| by rintro D τ H ⟨σ,S,De,Z,aB,hS,⟨P,q,hP⟩,hD,hZ⟩;exact{σ,S,_,Z,aB,hS,q,{by rintro y0 S1 τ1 H1 ⟨S2,sb,r1⟩ a b c;exact hD.nx _ _ _ _ (hP _ _ r1) a (b.sub sb) c,hD.rt,hD.bk,hD.ct},hZ}⟩
def dFo(t:TD):TD:=λσ S R Z=>t σ S (λd S'=>Fo S'<|R d) Z
theorem wD{t:TD}(h:DE K X e t):DE K X e (dFo t):=⟨λy=>(h.of y).mono <| by rintro τ H Q ⟨σ,S,R,Z,aB,hS,q,hR,hZ⟩;exact{σ,S,_,Z,aB,hS,q,by rintro d S' v H' ⟨S2,sb,r⟩ rv rs kp;exact hR d S2 v H' r rv (rs.sub sb) kp,hZ}⟩
theorem cg1(nd:N.Nodup)(h0:autoParam (N[0]?=some a) qQJ)(hx:autoParam (∀C s H ex pn,Loc (fW X N scope C s H ex pn).env.scope a/\(fW X N scope C s H ex pn).env.scope.names.lookup a=some .local) qJX): ∀C s H ex pn,PG (fW X N scope C s H ex pn) (.Name a p) (iB 0):=λC s H ex pn=>qD (i:=0) nd h0 (hx C s H ex pn).1<|.inr (hx C s H ex pn).2
theorem We(nd:N.Nodup)(h0:autoParam (N[0]?=some a) qQJ)(h1:autoParam (N[1]?=some c) qQJ)(hx:autoParam (∀C s H ex pn,Loc (fW X N scope C s H ex pn).env.scope a/\(fW X N scope C s H ex pn).env.scope.names.lookup a=some .local) qJX)(hy:autoParam (∀C s H ex pn,Loc (fW X N scope C s H ex pn).env.scope c/\(fW X N scope C s H ex pn).env.scope.names.lookup c=some .local) qJX)(hl:∀env:Env,(assignEach [.Name a p,.Name c p'] env).length=2/\(assignEach [.Name a p,.Name c p'] env).findIdx? (·.1)=none/\(assignEach [.Name a p,.Name c p'] env).map (·.2)=assign (.Name a p) env::(assignEach [.Name c p'] env).map (·.2)/\(assignEach [.Name c p'] env).map (·.2)=assign (.Name c p') env::(assignEach [] env).map (·.2):=by intro _;exact⟨rfl,rfl,rfl,rfl⟩)(hK:autoParam (X.K=K) qQJ)(hc:autoParam (X.calm=true) qQJ): ∀C s H ex pn,PG (fW X N scope C s H ex pn) (.Tuple [.Name a p,.Name c p'] j p2) (Lw K 2<|qU (iB 0)<|qU (iB 1) Lv):=λC s H ex pn=>by subst hK;have e:=hl (fW X N scope C s H ex pn).env;exact HL (X:=fW X N scope C s H ex pn) hc (qW (qD (i:=0) nd h0 (hx C s H ex pn).1<|.inr (hx C s H ex pn).2) (qW (qD (i:=1) nd h1 (hy C s H ex pn).1<|.inr (hy C s H ex pn).2) Ef e.2.2.2) e.2.2.1) e.1 e.2.1
end
theorem rR:∀{ss:j4}{ax:dL},Vals (ss.map V.str) ax->StrsAre ax ss|[],_,.nil=>.nil|z::ss,_,.cons r t=>by obtain⟨tk,rfl⟩:=r;exact .cons z tk<|rR t
section
variable{K:Frag}
def Rb:Gv:=λx ds S R=>∃a es,x=.ref a/\ds=[]/\S a=some (.lst es)/\R .au (S.set a<|.lst [])
theorem EI:Mw K "list.clear" Rb:=by rintro X hK pins s σ H x xs v us Q I rx rs ⟨d,ds,S,R,r1,r2,hS,⟨a,es,e1,e2,e3,h⟩,hR⟩;subst e1 e2;obtain⟨zs,e4,t⟩:=hS.lst e3;exact Ie pins s σ H x _ v us Q I rx rs {a,zs,r1.ref,r2.nil,e4,hR.put hS e3 h gA bu}
end
end L2
namespace HT
open PySem PySem.Spec PyProof.Rows
end HT
namespace L2
open PySem PySem.Spec PyProof.Rows
section
variable{K:Frag}
theorem I0(r:Rv K H d v):∀n:Nat,RvAll K H (List.replicate n d) (List.replicate n v)|0=>bu|n+1=>aT r<|I0 r n
end
inductive I9(S:ak):List D->List PyData->Prop where
 |nil:I9 S [] []
 |cons {d:D}{p:PyData}{ds:v0}{ps:u8} : Dl S d p->I9 S ds ps->I9 S (d::ds) (p::ps)
section
variable{K:Frag}
noncomputable def I_(p:Str×D):D:=.tup [.str p.1,p.2]
noncomputable def rS(l:wl):wf:=l.foldl (λc p=>dput c (.inr p.1) p.2) []
theorem EJ:∀{kvs:wl}{ys:cr},RvAll K H (kvs.map I_) ys->∃kv:ge,Prs H ys kv/\∀c c',bB K H c c'->bB K H (kvs.foldl (λc p=>dput c (.inr p.1) p.2) c) (kv.foldl (λc p=>putK c (.inr p.1) p.2) c')|[],ys,h=>(by rw[h.nil];exact{[],{rfl,λi x p e=>(by cases i<;>cases e)},λc c' h=>h})|p::kvs,ys,h=>by obtain⟨y,ys,rfl,r1,r2⟩:=h.cons;obtain⟨b,zs,rfl,hb,tz⟩:=Rv.tup<|show Rv K H (.tup [.str p.1,p.2]) y from r1;obtain⟨v,u,rfl,rv,ru⟩:=tz.two;have ev:=rv.str;subst ev;obtain⟨kv,⟨hl,hp⟩,hf⟩:=EJ r2;refine{(p.1,u)::kv,{by rw[zQ,zQ,hl],λi x q e1 e2=>?_},λc c' h=>hf _ _<|h.put (.inr p.1) ru};cases i with|zero=>(cases e1;cases e2;exact⟨b,rfl,hb⟩)|succ i=>exact hp i x q e1 e2
def Wf:List D->ak->KD->Prop:=λds S R=>∃kvs:wl,ds=[.tup<|kvs.map I_]/\∀p,S p=none->R (.ref p) (S.set p<|.cj<|rS kvs)
theorem Rf:gI K (.type "dict") Wf:=by rintro X hK hc pins s σ H xs us Q I rx ⟨ds,S,R,r,hS,⟨kvs,e,h⟩,hR⟩;subst hK e;obtain⟨v,rfl,r1⟩:=r.one;obtain⟨a,ys,rfl,q,t⟩:=r1.tup;obtain⟨kv,hp,hf⟩:=EJ t;refine CF hc pins s σ H _ us Q I rx {a,ys,kv,rfl,q,hp,λl hl=>?_};have kn:Kp X.K H (upd H l<|.dK<|Et kv):=.new hl;exact hR _ _ _ _ (h l<|hS.fresh hl) (ia l) (hS.new (c:=.cj<|rS kvs) hl {_,aD,(hf [] [] .nil).ts kn}) kn
theorem AJ(kvs:wf)(k k':Key)(d:D):cn (dput kvs k d) k'=if k'=k then some d else cn kvs k':=by
 unfold dput;by_cases hk:(kvs.any λkv=>decide<|kv.1=k)=true;rw[if_pos hk];unfold cn;induction kvs with|nil=>(cases hk)|cons r kvs ih=>rw[zt,yb,yb];by_cases e:r.1=k;rw[if_pos e];by_cases e2:k'=k;rw[if_pos e2,show decide (r.1=k')=true from zu (e.trans e2.symm)];rfl;rw[if_neg e2,show decide (r.1=k')=false from zx λq=>e2<|q.symm.trans e];by_cases dw:(kvs.any λkv=>decide<|kv.1=k)=true;have:=ih dw;rw[if_neg e2]at this;exact this;have em:kvs.map (λkv=>if kv.1=k then (kv.1,d) else kv)=kvs:=(by(conv=>rhs;rw[<-List.map_id kvs]);refine zV λx hx=>?_;rw[if_neg λq=>dw<|List.any_eq_true.mpr {x,hx,zu q}];rfl);rw[em];rw[if_neg e];have dw:(kvs.any λkv=>decide<|kv.1=k)=true:=(by rw[yT,zx e,Bool.false_or]at hk;exact hk);by_cases e3:r.1=k';rw[zu e3,if_neg λq=>e<|e3.trans q];rw[zx e3];exact ih dw
 rw[if_neg hk];unfold cn;rw[List.find?_append];have hn:∀x∈kvs,x.1≠k:=λx hx q=>hk<|List.any_eq_true.mpr {x,hx,zu q};by_cases e:k'=k;subst e;rw[if_pos rfl,List.find?_eq_none.mpr λx hx=>by simp[hn x hx]];simp;rw[if_neg e];have:([(k,d)].find? λkv=>decide<|kv.1=k')=none:=by rw[yb,show decide (k=k')=false from zx λq=>e q.symm];rfl
 rw[this,Option.or_none]
theorem Gz(l:wl)(z:Str):(cn (rS l)<|.inr z).isSome=l.any λp=>decide (p.1=z):=by
 have all:∀(l:wl)(c:wf),(cn (l.foldl (λc p=>dput c (.inr p.1) p.2) c)<|.inr z).isSome=((cn c<|.inr z).isSome||l.any λp=>decide<|p.1=z):=by intro l;induction l with|nil=>intro c;simp|cons p l ih=>intro c;rw[yL,ih,AJ,yT];by_cases e:p.1=z;rw[if_pos<|by rw[e],zu e];simp;rw[if_neg λq=>e (yM q).symm,zx e];simp
 exact(all l []).trans<|by rfl
def Wh(a:Addr)(kvs:ge):tO:=λx y S R=>∃z,x=.str z/\y=.ref a/\R (.bl (kvs.lookup z).isSome) S
theorem cmk{X:Cx}{a b:Expr}{ta tb:TD}{pos:Pos}{w:World}{ad:Addr}{kvs:ge}(d:Hv w K ad kvs)(ha:DE K X a ta)(hb:DE K X b tb)(hw:autoParam (X.w=w) qQJ)(hm:autoParam (behindInMarks .In b=false) qQ4)(hK:autoParam (X.K=K) qQJ): DE K X (.Compare a [.In] [b] pos) (QX (Wh ad kvs) ta tb):=by refine⟨λy=>(Ej (X:=y.cx) (r:=Lr K<|Wh ad kvs) ?_ (ha.of y) (hb.of y) hm).mono λ_ _ _ h=>h.op⟩;rintro pins s σ H x y' v u Q I rx ry ⟨d',e,S,R,r1,r2,hS,⟨z,e1,e2,h⟩,hR⟩;subst e1 e2;exact IH (X:=y.cx) hw hK pins s σ H x y' v u Q I rx ry {z,ad,kvs,r1.str,r2.ref,d,hR.now hS h<|b_ _}
end
structure Wi(k:Nat)(A:Around):Prop where
 dp:A.depth+3*k+5<recursionLimit
 un:A.units+16*k+200<cLine
structure FnH(P:Program)(w:World)(K:Frag)(mg:Str->Option Value)(base:Heap)(k:Nat)(f:Addr)(fd:FuncData)(ps:j4)(sp:rP):Prop where
 len:∀ds S R Z,sp ds S R Z->ds.length=ps.length
 run:∀(A:Around)(outer:jp)(s:Shared)(H:Hp)(args:Args)(us:dL)(vs:cr)(Q:VK),Wi k A->Ab P w K mg base A outer s H->BindsTo s fd args (ps.zip us)->Vals vs us->tQ K sp vs H Q E0 ->
  codeAny (model P w) A (.call (.ref f) args) (CR (fR P w mg) outer P w H s Q E0) s
def PEg(pre:Nat)(X:Cx)(e:Expr)(t:TE):Prop:=∀(pins:io)(s:Shared)(σ:St)(H:Hp)(Q:VK),Inv X pins σ H s->pre<=s.toks->t σ H Q->wpAny (model X.prog X.w) X.A (eval e X.env) (λu s'=>EP X pins σ Q u s'/\1<=s'.toks) X.xe s
structure DEg(pre:Nat)(K:Frag)(X:Cx)(e:Expr)(t:TD):Prop where
 of:∀{b:Bool}(y:Ev X b),PEg pre y.cx e<|T K y.E t
theorem aaS{a b:Str}(h:a.cps.toList=b.cps.toList):a=b:=by obtain⟨⟨x⟩⟩:=a;obtain⟨⟨y⟩⟩:=b;cases h;rfl
end L2
namespace HT
open PySem PySem.Spec PyProof.Rows
end HT
namespace L2
open PySem PySem.Spec PyProof.Rows
section
variable{K:Frag}{X:Cx}
def Wj:Gv:=λx ds S R=>∃a es fs,x=.ref a/\ds=[.tup fs]/\S a=some (.lst es)/\es.length+fs.length<=sizeLine/\R .au (S.set a<|.lst<|es++fs)
theorem GA:Mw K "list.extend" Wj:=by rintro X hK pins s σ H x xs v us Q I rx rs ⟨d,ds,S,R,r1,r2,hS,⟨a,es,fs,e1,e2,e3,hl,h⟩,hR⟩;subst e1 e2;obtain⟨w0,rfl,q2⟩:=r2.one;obtain⟨zs,e5,t⟩:=hS.lst e3;obtain⟨p,ys,rfl,q,t2⟩:=q2.tup;exact CV pins s σ H x _ v us Q I rx rs {a,p,zs,ys,r1.ref,rfl,e5,q,by rw[t.len,t2.len];exact hl,hR.put hS e3 h gA<|t.app t2}
end
section
variable{K:Frag}{X:Cx}{E:XK}
structure DEx(K:Frag)(X:Cx)(E:XK)(e:Expr)(t:TD):Prop where
 of:∀(y:Ev X true),y.E=(λ_=>E)->cW y.cx E->PE y.cx e (T K y.E t)
structure DAx(K:Frag)(X:Cx)(E:XK)(es:mt)(t:iX):Prop where
 of:∀(y:Ev X true),y.E=(λ_=>E)->cW y.cx E->PA y.cx es (Ta K y.E t)
structure DSx(K:Frag)(X:Cx)(E:XK)(b:pc)(t:mq):Prop where
 of:∀(y:Ev X true),y.E=(λ_=>E)->cW y.cx E->Ec y.cx b (Tl K y.E t)
variable{N:j4}{src:ul}{scope:Scope}{tg iter elt:Expr}{ifs:mt}{ti:AF}{g:TG}{gd:AE}{tc:lV}{te:TD}
end
open PySem.Builtin PySem.Builtin.Str
structure M3(X:Cx)(o:Expr)(m:Str)(apos:Pos)(e f g:Expr)(aP:Pos):Prop where
 base:attributeBase o m X.env (eval o X.env)=eval o X.env
 Ep:((backTo aP<|starEach [e,f,g] X.env).all (λx=>!x.1)&&(backToKw aP<|keywordEach [] X.env).all (λx=>x.1.isSome)
  && decide (([e,f,g]:mt).length+([]:rp).length+(if ([]:rp).isEmpty then 0 else 1)<30))=true
 line:(apos.endLine==aP.line)=true
 trees:backTo aP (starEach [e,f,g] X.env)=[(false,eval e X.env),(false,eval f X.env),(false,eval g X.env)]
section
variable{X:Cx}{t:TE}
def PAg(pre:Nat)(X:Cx)(es:mt)(t:TA):Prop:=∀(pos:Pos)(pins:io)(s:Shared)(σ:St)(H:Hp)(Q:List V->Hp->Prop),Inv X pins σ H s->pre<=s.toks->t σ H Q->wpAny (model X.prog X.w) X.A (spliced<|backTo pos<|starEach es X.env) (AP X pins σ Q) X.xe s
end
section
variable{K:Frag}{X:Cx}
structure DAg(pre:Nat)(K:Frag)(X:Cx)(es:mt)(t:iX):Prop where
 of:∀{b:Bool}(y:Ev X b),PAg pre y.cx es<|Ta K y.E t
end
structure Gh(a₀:Array Keyed)(g:Nat->Nat)(xs:Array Keyed):Prop where
 at_:∀k,k<a₀.size->xs[k]?=a₀[g k]?
 lt:∀k,k<a₀.size->g k<a₀.size
 inj:∀i j,i<a₀.size->j<a₀.size->g i=g j->i=j
def Log(κ:KeyKind)(a₀:Array Keyed)(i j:Nat):Prop:=κ.klt (KK κ a₀ i) (KK κ a₀ j)\/(KK κ a₀ i=KK κ a₀ j/\i<j)
def C4(κ:KeyKind)(a₀:Array Keyed)(g:Nat->Nat)(k:Nat):Prop:=∀i j,i<j->j<k->Log κ a₀ (g i) (g j)
def Yj(κ:KeyKind)(a₀:Array Keyed)(g:Nat->Nat)(k:Nat):Prop:=∀i j,i<j->j<k->Log κ a₀ (g j) (g i)
def GB(g:Nat->Nat)(m n:Nat):Prop:=∀k,m<=k->k<n->g k=k
noncomputable def Ja(g:Nat->Nat)(i j k:Nat):Nat:=if i<=k/\k<j then g (i+j-1-k) else g k
noncomputable def MF(g:Nat->Nat)(src l k:Nat):Nat:=if k=l then g src else if l<k/\k<=src then g (k-1) else g k
section
variable{κ:KeyKind}{a₀ xs:Array Keyed}{g:Nat->Nat}
theorem Log.kle(h:Log κ a₀ i j):κ.kle (KK κ a₀ i) (KK κ a₀ j):=by rcases h with h|⟨h,_⟩;exact KeyOrd.kle_of_klt h;rw[h];exact KeyOrd.kle_refl _
theorem Ov(h:κ.kle (KK κ a₀ i)<|KK κ a₀ j)(hl:i<j):Log κ a₀ i j:=by cases q:κ.blt (KK κ a₀ i) (KK κ a₀ j) with|true=>exact .inl q|false=>exact .inr {KeyOrd.kle_antisymm h q,hl}
theorem Gh.low(h:Gh a₀ g xs)(t:GB g m a₀.size)(hm:m<=a₀.size)(hi:i<m):g i<m:=by refine Nat.lt_of_not_le λq=>?_;have h1:=h.lt i (by lia);have h2:=h.inj (g i) i h1 (by lia)<|t (g i) q h1;lia
theorem Gh.key(h:Gh a₀ g xs)(hk:k<a₀.size):KK κ xs k=KK κ a₀ (g k):=KK_congr<|h.at_ k hk
theorem Gh.mirror(h:Gh a₀ g xs)(hs:xs.size=a₀.size)(hj:j<=a₀.size):Gh a₀ (Ja g i j) (mirror xs i j<|(j-i)/2) where
 at_:=λk hk=>by
  rw[getElem?_mirror_all<|by lia]
  unfold Ja
  by_cases q:i<=k/\k<j
  ·rw[if_pos q,if_pos q];exact h.at_ _<|by lia
  ·rw[if_neg q,if_neg q];exact h.at_ _ hk
 lt:=λk hk=>by
  unfold Ja
  by_cases q:i<=k/\k<j
  ·rw[if_pos q];exact h.lt _<|by lia
  ·rw[if_neg q];exact h.lt _ hk
 inj:=λa b ha hb e=>by
  unfold Ja at e
  by_cases q:i<=a/\a<j<;>by_cases r:i<=b/\b<j
  ·rw[if_pos q,if_pos r]at e;have:=h.inj _ _ (by lia) (by lia) e;lia
  ·rw[if_pos q,if_neg r]at e;have:=h.inj _ _ (by lia) (by lia) e;lia
  ·rw[if_neg q,if_pos r]at e;have:=h.inj _ _ (by lia) (by lia) e;lia
  ·rw[if_neg q,if_neg r]at e;exact h.inj _ _ ha hb e
theorem Gh.bubble(h:Gh a₀ g xs)(hs:xs.size=a₀.size)(hl:l<=src)(hj:src<a₀.size):Gh a₀ (MF g src l) (bubble xs src<|src-l) where
 at_:=λk hk=>by
  rw[getElem?_bubble (by lia) _<|by lia,show src-(src-l)=l by lia]
  unfold MF
  by_cases q:k=l
  ·rw[if_pos q,if_pos q];exact h.at_ _ hj
  ·rw[if_neg q,if_neg q]
   by_cases r:l<k/\k<=src
   ·rw[if_pos r,if_pos r];exact h.at_ _<|by lia
   ·rw[if_neg r,if_neg r];exact h.at_ _ hk
 lt:=λk hk=>by
  unfold MF
  by_cases q:k=l
  ·rw[if_pos q];exact h.lt _ hj
  ·rw[if_neg q]
   by_cases r:l<k/\k<=src
   ·rw[if_pos r];exact h.lt _<|by lia
   ·rw[if_neg r];exact h.lt _ hk
 inj:=λa b ha hb e=>by
  unfold MF at e
  repeat' split at e
  all_goals (have:=h.inj _ _ (by lia) (by lia) e;lia)
theorem ie(h:i<=k/\k<j):Ja g i j k=g (i+j-1-k):=by unfold Ja;rw[if_pos h]
theorem fX(h:¬(i<=k/\k<j)):Ja g i j k=g k:=by unfold Ja;rw[if_neg h]
end
section
variable{prog:Program}{w:World}{A:Around}{E:li}{s:Shared}{a₀:Array Keyed}{κ:KeyKind}
theorem Ox{st:SortSt}{g:Nat->Nat}{a top:Nat}{Q:AscSt->SortSt->Prop}(hO:κ.OneLt)(h0:KeysOf κ a₀)(ht:top<=a₀.size)(h1:1<=a)(h2:a<=top)(B:SBase a₀ st)(G:Gh a₀ g<|arrOf st)(T:GB g a a₀.size)(U:C4 κ a₀ g a)(h:∀n,a<=n->n<=top->C4 κ a₀ g n->(n=top\/κ.klt (KK κ a₀<|g n) (KK κ a₀<|g<|n-1))->Q (none,n) st):wpS (model prog w) A E s (ascLoop a top) Q st:=by
 unfold ascLoop;refine wpS_forRange (I:=λx c t=>t=st/\c=(none,x)/\C4 κ a₀ g x) ?_ ?_ ⟨rfl,rfl,U⟩;rintro x c t Hz MC ⟨rfl,rfl,V⟩;dsimp only;refine wpS_bind<|wpS_ltKK hO B h0 (by lia) (by lia) ?_;rw[G.key<|by lia,G.key<|by lia];cases q:κ.blt (KK κ a₀<|g x) (KK κ a₀<|g<|x-1) with|true=>exact wpS_pure (h x Hz (by lia) V<|.inr q)|false=>refine wpS_pure {rfl,rfl,λi j i5 hj=>?_};rcases Nat.lt_or_ge j x with z|z;exact V i j i5 z;obtain rfl:j=x:=(by lia);have lw:=G.low (m:=j) (λk hk dw=>T k (by lia) dw) (by lia) i5;rw[T j Hz<|by lia]at q⊢;refine Ov ?_ lw;rcases Nat.lt_or_ge i (j-1) with y|y;exact KeyOrd.kle_trans (V i (j-1) y<|by lia).kle q;obtain rfl:i=j-1:=(by lia);exact q
 rintro c t ⟨rfl,rfl,V⟩;rw[show max a top=top by lia]at V⊢;exact h top h2 (zr _) V<|.inl rfl
theorem Jb{st:SortSt}{g:Nat->Nat}{n top:Nat}{Q:Option Nat->SortSt->Prop}(hO:κ.OneLt)(h0:KeysOf κ a₀)(ht:top<=a₀.size)(h1:1<=n)(h2:n<=top)(B:SBase a₀ st)(G:Gh a₀ g<|arrOf st)(T:GB g n a₀.size)(D:Yj κ a₀ g n)(h:∀m g' eG,SBase a₀ eG->Gh a₀ g' (arrOf eG)->GB g' m a₀.size->1<=m->m<=top->C4 κ a₀ g' m->Q (some m) eG):wpS (model prog w) A E s (tail3 n top) Q st:=by
 unfold tail3;refine wpS_bind<|wpS_reverse ?_;have B':SBase a₀ (setArr st<|mirror (arrOf st) 0 n<|(n-0)/2):=B.setArr<|mirror_perm _ _ _ _;have G':Gh a₀ (Ja g 0 n) (arrOf<|setArr st<|mirror (arrOf st) 0 n<|(n-0)/2):=G.mirror B.size (by lia);have T':GB (Ja g 0 n) n a₀.size:=λk hk dw=>by rw[fX<|by lia];exact T k hk dw
 refine wpS_bind<|Ox hO h0 ht h1 h2 B' G' T' (λi j i5 hj=>?_) λm hm1 TC V _=>wpS_pure<|h m _ _ B' G' (λk hk dw=>T' k (by lia) dw) (by lia) TC V;rw[ie<|by lia,ie<|by lia];exact D _ _ (by lia)<|by lia
structure K8(κ:KeyKind)(a₀:Array Keyed)(g:Nat->Nat)(x q:Nat):Prop where
 le:q+1<=x
 tl:GB g (x-(q+1)) a₀.size
 dn:∀i j,i<j->j<x->i<x-(q+1)->Log κ a₀ (g j) (g i)
 eq:∀i,x-(q+1)<=i->i<x->KK κ a₀ (g i)=KK κ a₀ (g<|x-1)
theorem K8.full(F:K8 κ a₀ g x q)(hx:x<=a₀.size):Yj κ a₀ (Ja g (x-(q+1)) x) x:=λi j i5 hj=>by have le:=F.le;by_cases hi:i<x-(q+1);rw[fX (k:=i)<|by lia];by_cases Yk:j<x-(q+1);rw[fX<|by lia];exact F.dn i j i5 hj hi;rw[ie<|by lia];exact F.dn i _ (by lia) (by lia) hi;rw[ie<|by lia,ie<|by lia];refine .inr {(F.eq _ (by lia)<|by lia).trans (F.eq _ (by lia)<|by lia).symm,?_};rw[F.tl _ (by lia)<|by lia,F.tl _ (by lia)<|by lia];lia
theorem K8.Oy(F:K8 κ a₀ g x 0):Yj κ a₀ g x:=λi j i5 hj=>F.dn i j i5 hj<|by lia
theorem K8.next(D:Yj κ a₀ g x)(T:GB g x a₀.size)(hx:x<a₀.size)(h1:1<=x)(hl:κ.klt (KK κ a₀<|g x)<|KK κ a₀<|g<|x-1):K8 κ a₀ g (x+1) 0 where
 le:=by lia
 tl:=λk hk dw=>T k (by lia) dw
 dn:=λi j i5 hj hi=>by
  by_cases Yk:j<x
  ·exact D i j i5 Yk
  ·obtain rfl:j=x:=by lia
   refine .inl ?_
   by_cases q:i=j-1
   ·rw[q];exact hl
   ·exact KeyOrd.klt_of_klt_of_kle hl (D i (j-1) (by lia)<|by lia).kle
 eq:=λi hi hj=>by rw[show i=x+1-1 by lia]
theorem Rh{st:SortSt}{g:Nat->Nat}{n top:Nat}{Q:DescSt->SortSt->Prop}(hO:κ.OneLt)(h0:KeysOf κ a₀)(ht:top<=a₀.size)(h1:1<=n)(h2:n<=top)(B:SBase a₀ st)(G:Gh a₀ g<|arrOf st)(F:K8 κ a₀ g n 0)(h:∀m q g' eG,SBase a₀ eG->Gh a₀ g' (arrOf eG)->n<=m->m<=top->K8 κ a₀ g' m q->Q (none,m,q) eG):wpS (model prog w) A E s (descLoop n top) Q st:=by
 unfold descLoop;refine wpS_forRange (I:=λx c t=>∃q g',c=(none,x,q)/\SBase a₀ t/\Gh a₀ g' (arrOf t)/\K8 κ a₀ g' x q) ?_ ?_ {0,g,rfl,B,G,F};rintro x c t Hz MC ⟨q,g',rfl,B',G',F'⟩;have le:=F'.le;dsimp only;refine wpS_bind<|wpS_ltKK hO B' h0 (by lia) (by lia) ?_;rw[G'.key<|by lia,G'.key<|by lia];cases hl:κ.blt (KK κ a₀<|g' x) (KK κ a₀<|g'<|x-1) with|true=>(simp only[if_true];by_cases hq:q>0;rw[if_pos hq];refine wpS_bind<|wpS_reverse<|wpS_pure {0,_,rfl,B'.setArr<|mirror_perm _ _ _ _,G'.mirror B'.size<|by lia,?_};refine .next (F'.full<|by lia) (λk hk dw=>?_) (by lia) (by lia) ?_;rw[fX<|by lia];exact F'.tl k (by lia) dw;rw[fX<|by lia,ie<|by lia,F'.eq (x-(q+1)+x-1-(x-1)) (by lia)<|by lia];exact hl;rw[if_neg hq];obtain rfl:q=0:=(by lia);exact wpS_pure {0,g',rfl,B',G',.next F'.Oy (λk hk dw=>F'.tl k (by lia) dw) (by lia) (by lia) hl})|false=>simp only[Bool.false_eq_true,if_false];refine wpS_bind<|wpS_ltKK hO B' h0 (by lia) (by lia) ?_;rw[G'.key<|by lia,G'.key<|by lia];cases hg:κ.blt (KK κ a₀<|g'<|x-1) (KK κ a₀<|g' x) with|true=>exact wpS_pure (h x q g' t B' G' Hz (by lia) F')|false=>have e:KK κ a₀ (g' x)=KK κ a₀ (g'<|x-1):=KeyOrd.kle_antisymm hg hl;refine wpS_pure {q+1,g',rfl,B',G',{by lia,λk hk dw=>F'.tl k (by lia) dw,λi j i5 hj hi=>?_,λi hi hj=>?_}};by_cases Yk:j<x;exact F'.dn i j i5 Yk (by lia);obtain rfl:j=x:=(by lia);have:=F'.dn i (j-1) (by lia) (by lia) (by lia);rcases this with z|⟨_,z⟩;exact .inl (by rw[e];exact z);rw[F'.tl (j-1) (by lia)<|by lia]at z;have:=G'.low (m:=j-(q+1)) F'.tl (by lia) (i:=i) (by lia);lia;rw[show x+1-1=x by lia];by_cases V7:i=x;rw[V7];rw[e];exact F'.eq i (by lia)<|by lia
 rintro c t ⟨q,g',rfl,B',G',F'⟩;rw[show max n top=top by lia]at F'⊢;exact h top q g' t B' G' h2 (zr _) F'
theorem Jc{st:SortSt}{g:Nat->Nat}{n top:Nat}{Q:Option Nat->SortSt->Prop}(hO:κ.OneLt)(h0:KeysOf κ a₀)(ht:top<=a₀.size)(h2:n+1<=top)(B:SBase a₀ st)(G:Gh a₀ g<|arrOf st)(F:K8 κ a₀ g (n+1) 0)(h:∀m g' eG,SBase a₀ eG->Gh a₀ g' (arrOf eG)->GB g' m a₀.size->1<=m->m<=top->C4 κ a₀ g' m->Q (some m) eG):wpS (model prog w) A E s (descPart n top) Q st:=by
 unfold descPart;refine wpS_bind<|wpS_lift<|yY {rfl,?_};refine wpS_bind<|Rh hO h0 ht (by lia) h2 B G F λm q g' eG B' G' hm1 TC F'=>?_;have le:=F'.le;dsimp only;by_cases hq:q>0;rw[if_pos hq];refine wpS_bind<|wpS_reverse<|Jb hO h0 ht (by lia) TC (B'.setArr<|mirror_perm _ _ _ _) (G'.mirror B'.size<|by lia) (λk hk dw=>?_) (F'.full<|by lia) h;rw[fX<|by lia];exact F'.tl k (by lia) dw;rw[if_neg hq];obtain rfl:q=0:=by lia
 exact Jb hO h0 ht (by lia) TC B' G' (λk hk dw=>F'.tl k (by lia) dw) F'.Oy h
theorem Wl{st:SortSt}{g:Nat->Nat}{top:Nat}{Q:Option Nat->SortSt->Prop}(hO:κ.OneLt)(h0:KeysOf κ a₀)(ht:top<=a₀.size)(h1:1<=top)(B:SBase a₀ st)(G:Gh a₀ g<|arrOf st)(T:GB g 0 a₀.size)(h:∀m g' eG,SBase a₀ eG->Gh a₀ g' (arrOf eG)->GB g' m a₀.size->1<=m->m<=top->C4 κ a₀ g' m->Q (some m) eG):wpS (model prog w) A E s (countRun' 0 top) Q st:=by
 rw[countRun0_eq];refine wpS_bind<|Ox hO h0 ht (zr 1) h1 B G (λk hk dw=>T k (by lia) dw) (λi j i5 hj=>by lia) λn Oz NZ U hor=>?_;dsimp only;have Tn:∀m,GB g m a₀.size:=λm k hk dw=>T k (by lia) dw;by_cases OA:n=top;rw[if_pos<|by simpa using OA];exact wpS_pure<|h n g st B G (Tn n) Oz NZ U;rw[if_neg<|by simpa using OA];have eI:=hor.resolve_left OA;by_cases Yl:n>1;rw[if_pos Yl];refine wpS_bind<|wpS_ltKK hO B h0 (by lia) (by lia) ?_;rw[G.key<|by lia,G.key<|by lia];cases hr:κ.blt (KK κ a₀<|g 0) (KK κ a₀<|g<|n-1) with|true=>exact wpS_pure (h n g st B G (Tn n) Oz NZ U)|false=>simp only[Bool.false_eq_true,if_false];have all:∀k,k<n->KK κ a₀ (g k)=KK κ a₀ (g<|n-1):=λk hk=>(by have a1:κ.kle (KK κ a₀<|g 0) (KK κ a₀<|g k):=(by by_cases z:k=0;rw[z];exact KeyOrd.kle_refl _;exact(U 0 k (by lia) hk).kle);have a2:κ.kle (KK κ a₀<|g k) (KK κ a₀<|g<|n-1):=(by by_cases z:k=n-1;rw[z];exact KeyOrd.kle_refl _;exact(U k (n-1) (by lia)<|by lia).kle);exact KeyOrd.kle_antisymm a2<|KeyOrd.kle_trans hr a1);refine wpS_bind<|wpS_reverse<|Jc hO h0 ht (by lia) (B.setArr<|mirror_perm _ _ _ _) (G.mirror B.size<|by lia) ?_ h;refine .next (λi j i5 hj=>?_) (λk hk dw=>by rw[fX<|by lia];exact T k (by lia) dw) (by lia) (by lia) ?_;rw[ie<|by lia,ie<|by lia];refine .inr {(all _<|by lia).trans (all _<|by lia).symm,?_};rw[T _ (by lia)<|by lia,T _ (by lia)<|by lia];lia;rw[fX<|by lia,ie<|by lia,all (0+n-1-(n-1))<|by lia];exact eI
 rw[if_neg Yl];obtain rfl:n=1:=by lia
 exact Jc hO h0 ht (by lia) B G (.next (λi j i5 hj=>by lia) (Tn 1) (by lia) (by lia) eI) h
theorem Wm{st:SortSt}{g:Nat->Nat}{n ok:Nat}{Q:Bool->SortSt->Prop}(hO:κ.OneLt)(h0:KeysOf κ a₀)(hn:n<=a₀.size)(aG:ok<=n)(B:SBase a₀ st)(G:Gh a₀ g<|arrOf st)(T:GB g ok a₀.size)(U:C4 κ a₀ g ok)(h:∀g' eG,SBase a₀ eG->Gh a₀ g' (arrOf eG)->C4 κ a₀ g' n->Q true eG):wpS (model prog w) A E s (binarySort' 0 n ok) Q st:=by
 rw[binarySort'_eq];simp only[Nat.zero_add];refine wpS_bind<|wpS_mono (wpS_forRange (I:=λk c t=>c=(none,())/\∃g',SBase a₀ t/\Gh a₀ g' (arrOf t)/\GB g' k a₀.size/\C4 κ a₀ g' (min k n)) (Q:=λc t=>c=(none,())/\∃g',SBase a₀ t/\Gh a₀ g' (arrOf t)/\C4 κ a₀ g' n) ?_ ?_ ?_) ?_;rintro k c t AK dw ⟨rfl,g',B',G',T',V⟩;rw[show min k n=k by lia]at V;have hk:k<a₀.size:=by lia
 refine wpS_bind<|wpS_mono (wpS_forRange (I:=λx c t2=>t2=t/\∃l r,c=(none,l,r)/\l<=r/\r<=k/\r-l<=k-x/\(∀i,i<l->κ.kle (KK κ a₀<|g' i) (KK κ a₀<|g' k))/\(∀i,r<=i->i<k->κ.klt (KK κ a₀<|g' k) (KK κ a₀<|g' i))) (Q:=λc t2=>t2=t/\∃l r,c=(none,l,r)/\l<=k/\(∀i,i<l->κ.kle (KK κ a₀<|g' i) (KK κ a₀<|g' k))/\(∀i,l<=i->i<k->κ.klt (KK κ a₀<|g' k) (KK κ a₀<|g' i))) ?_ ?_ ?_) ?_;rintro x c t2 _ hxk ⟨rfl,l,r,rfl,EK,hrk,hm,lo,hi⟩;dsimp only;by_cases Ym:l>=r;rw[if_pos Ym];obtain rfl:l=r:=by lia
 exact wpS_pure ⟨rfl,l,l,rfl,hrk,lo,hi⟩;rw[if_neg Ym];refine wpS_bind<|wpS_ltKK hO B' h0 hk (by lia) ?_;rw[G'.key hk,G'.key<|by lia];cases hl:κ.blt (KK κ a₀<|g' k) (KK κ a₀<|g'<|(l+r)/2) with|true=>refine wpS_pure {rfl,l,(l+r)/2,rfl,by lia,by lia,by lia,lo,λi a b=>?_};by_cases z:i=(l+r)/2;rw[z];exact hl;exact KeyOrd.klt_of_klt_of_kle hl (V _ _ (by lia) b).kle|false=>refine wpS_pure {rfl,(l+r)/2+1,r,rfl,by lia,by lia,by lia,λi a=>?_,hi};by_cases z:i=(l+r)/2;rw[z];exact hl;exact KeyOrd.kle_trans (V i ((l+r)/2) (by lia)<|by lia).kle hl
 rintro c t2 ⟨rfl,l,r,rfl,EK,hrk,hm,lo,hi⟩;obtain rfl:l=r:=by lia
 exact⟨rfl,l,l,rfl,hrk,lo,hi⟩;exact{rfl,0,k,rfl,by lia,by lia,by lia,λi hi=>by lia,λi a b=>by lia};rintro c t2 ⟨rfl,l,r,rfl,Wn,lo,hi⟩;show wpS _ _ _ _ (do moveDown' k l;pure (ForInStep.yield (none,()))) _ _;rw[moveDown'_eq];refine wpS_bind<|wpS_modify<|wpS_pure {rfl,_,B'.setArr<|bubble_perm _ _ _,G'.bubble B'.size Wn hk,λx Hz MC=>?_,?_};show MF g' k l x=x;unfold MF;rw[if_neg<|by lia,if_neg<|by lia];exact T' x (by lia) MC;rw[show min (k+1) n=k+1 by lia];have lw:∀i,i<k->g' i<k:=λi q=>G'.low T' (by lia) q;have ek:=T' k (zr _) hk;intro i j i5 hj;show Log κ a₀ (MF g' k l i) (MF g' k l j);unfold MF;by_cases i1:i=l;rw[if_pos i1,if_neg<|by lia,if_pos<|by lia];exact .inl<|hi _ (by lia) (by lia);rw[if_neg i1];by_cases j1:j=l;rw[if_pos j1,if_neg<|by lia];have h1:=lo i (by lia);have h2:=lw i (by lia);rw[ek]at h1⊢;exact Ov h1 h2;rw[if_neg j1];by_cases i2:l<i/\i<=k<;>by_cases j2:l<j/\j<=k;rw[if_pos i2,if_pos j2];exact V _ _ (by lia) (by lia);lia;rw[if_neg i2,if_pos j2];exact V _ _ (by lia) (by lia);rw[if_neg i2,if_neg j2];exact V _ _ (by lia) (by lia);rintro c t ⟨hc,g',B',G',T',V⟩;refine{hc,g',B',G',?_};rwa [show min (max (max ok 1) n) n=n by lia]at V;refine{rfl,g,B,G,λk hk dw=>T k (by lia) dw,λi j i5 hj=>?_};exact U i j i5 (by lia);rintro c t ⟨rfl,g',B',G',V⟩;exact wpS_pure<|h g' t B' G' V
def Ri(κ:KeyKind)(a₀:Array Keyed)(st:SortSt):Prop:=failedOf st=none/\pendingOf st=#[(0,a₀.size,0)]/\∃g,(arrOf st).size=a₀.size/\Gh a₀ g (arrOf st)/\C4 κ a₀ g a₀.size
theorem Rj{st:SortSt}{Q:Unit->SortSt->Prop}(hO:κ.OneLt)(h0:KeysOf κ a₀)(B:SBase a₀ st)(e0:arrOf st=a₀)(h2:2<=a₀.size)(HA:a₀.size<64)(h:∀eG g,failedOf eG=none->(arrOf eG).size=a₀.size->Gh a₀ g (arrOf eG)->C4 κ a₀ g a₀.size->Q () eG):wpS (model prog w) A E s sortRuns' Q st:=by
 have G:Gh a₀ (λk=>k) (arrOf st):={λk _=>by rw[e0],λk hk=>hk,λ_ _ _ _ e=>e};have fin:∀(t:SortSt)(g:Nat->Nat),SBase a₀ t->Gh a₀ g (arrOf t)->C4 κ a₀ g a₀.size->Ri κ a₀ (setPending t<|(pendingOf t).push (0,a₀.size,0)):=λt g B' G' U=>{B'.failed,by show(pendingOf t).push _=_;rw[B'.pend];rfl,g,B'.size,G',U};rw[sortRuns'_eq];refine wpS_bind<|wpS_get ?_;dsimp only;have hm:minRun' a₀.size a₀.size 0=a₀.size:=by obtain⟨f,hf⟩:∃f,a₀.size=f+1:={a₀.size-1,by lia};have:minRun' (f+1) a₀.size 0=a₀.size:=(by rw[minRun'_succ,if_pos HA];rfl);rwa [<-hf]at this
 simp only[B.size,hm];refine wpS_bind<|wpS_mono (wpS_forRange (I:=λx c t=>(x=0/\c=(none,0)/\t=st)\/(1<=x/\c=(none,a₀.size)/\Ri κ a₀ t)) (Q:=λc t=>c=(none,a₀.size)/\Ri κ a₀ t) ?_ ?_<|.inl ⟨rfl,rfl,rfl⟩) ?_;rintro x c t _ hx (⟨rfl,rfl,rfl⟩|⟨Hz,rfl,D⟩);dsimp only;rw[if_neg<|by lia];simp only[Nat.sub_zero,Nat.min_self,Nat.zero_add];refine wpS_bind<|Wl hO h0 (zr _) (by lia) B G (λ_ _ _=>rfl) λm g' t2 B2 G2 T2 hm1 TC U2=>?_;dsimp only;by_cases eI:m<a₀.size;rw[if_pos eI];refine wpS_bind<|wpS_lift<|yY {rfl,?_};refine wpS_bind<|Wm hO h0 (zr _) TC B2 G2 T2 U2 λg3 t3 B3 G3 U3=>?_;simp only[Bool.not_true,Bool.false_eq_true,if_false];refine wpS_bind<|wpS_get ?_;rw[show(pendingOf t3).back?=none by rw[B3.pend];rfl];dsimp only;exact wpS_bind<|wpS_modify<|wpS_pure<|.inr {by lia,rfl,fin t3 g3 B3 G3 U3};rw[if_neg eI];obtain rfl:m=a₀.size:=by lia
 refine wpS_bind<|wpS_get ?_;rw[show(pendingOf t2).back?=none by rw[B2.pend];rfl];dsimp only;exact wpS_bind<|wpS_modify<|wpS_pure<|.inr {by lia,rfl,fin t2 g' B2 G2 U2};dsimp only;rw[if_pos<|zr _];exact wpS_pure ⟨rfl,D⟩;rintro c t (⟨hx,_,_⟩|⟨_,hc,D⟩);lia;exact⟨hc,D⟩;rintro c t ⟨rfl,D⟩;dsimp only;obtain⟨d1,d2,g,d3,d4,d5⟩:=D;refine wpS_bind<|wpS_mono (wpS_forRange (I:=λ_ c t2=>t2=t/\c=(none,())) (Q:=λc t2=>t2=t/\c=(none,())) ?_ (λ_ _ z=>z) ⟨rfl,rfl⟩) ?_;rintro x c t2 _ _ ⟨rfl,rfl⟩;refine wpS_bind<|wpS_get ?_;rw[if_pos<|by rw[d2];exact zr 1];exact wpS_pure ⟨rfl,rfl⟩;rintro c t2 ⟨rfl,rfl⟩;exact wpS_pure<|h _ g d1 d3 d4 d5
end
noncomputable abbrev MG(X:Cx)(qual:Str)(scope:Scope)(L f:Addr)(cv:Value):Env:=envX qual scope L f cv<|clOf X.env.cells scope.names
noncomputable def TF(X:Cx)(N:j4)(qual:Str)(scope:Scope)(f:Addr)(cv:Value)(A:Around)(s:Shared)(H:Hp):Cx:={X with A:=A.deeper<|MG X qual scope s.heap.objs.size f cv,N:=N,dm:=s,v5:=H,env:=MG X qual scope s.heap.objs.size f cv,outer:=X.stack,stack:=MG X qual scope s.heap.objs.size f cv::X.stack,ex:=[],fn:=λ_=>false,calm:=true,pn:=[],xe:=λ_ _=>False}
noncomputable abbrev AL(X:Cx)(qual:Str)(params:Arguments)(body:Expr)(scope:Scope)(pm cv lX:Value):Obj:={cls:=.type "function",data:=.func<|kla_fn "<lambda>" qual params body scope (clOf X.env.cells scope.names) pm cv lX}
section
variable{X:Cx}{pins:io}{σ:St}{H:Hp}{s:Shared}{N:j4}{src:ul}{scope:Scope}{params:Arguments}{body:Expr}{qual p:Str}{pm cv lX u:Value}{f:Addr}{A:Around}{v:V}{te:TE}{Q:VK}
theorem MH(I:Inv X pins σ H s)(S:bf X N src scope)(MI:N[0]?=some p)(hp:scope.names.lookup p=some .local)(h0:src[0]?=some none)(y3:A.frames=some X.stack)(hh:A.handled=none)(r:RelV v u)(Rk:h₁.Ns s.heap.objs.size λx=>[(p,u)].reverse.lookup x)(old:∀b o,s.heap.get? b=some o->h₁.get? b=some o): Inv (TF X N qual scope f cv A s H) [] ((pick σ src).set 0<|some v) H {s with heap:=h₁,toks:=tk}:=by
 have iD:∀x c,(clOf X.env.cells scope.names).lookup x=some c->X.env.cells.lookup x=some c:=rq X.env.cells scope.names [] (by intro x c h;simp at h);have LI:∀b:Addr,b∉(TF X N qual scope f cv A s H).ex:=λb z=>absurd (show b∈([]:im) from z) (by simp);have BY:∀x,scope.names.lookup x=some .free->∃c,(clOf X.env.cells scope.names).lookup x=some c:=λx hl=>by have hm:=yh hl;obtain⟨c,LX⟩:=I.ok.has x<|S.BY _ hm rfl;exact{c,i9 X.env.cells scope.names [] x c (by intro x c h;simp at h) hm LX}
 refine{{I.ok.mod,S.kind,rfl,rfl,zr _,λx y c h1 h2=>I.ok.inj x y c (iD _ _ h1)<|iD _ _ h2,λx hk=>?_,λx c h=>(nomatch h),λ_=>hh,Around.frames_deeper y3,.inr ⟨rfl,rfl⟩,λb z=>absurd z<|LI b,I.bs,zI I.ok.Lo I.sz,λb _ _=>LI b,λb z=>absurd z<|LI b,I.stack,I.qC},rfl,I.bare,Un.kept old,{_,Rk,λi x w e1 e2 e3=>?_},λx c e=>?_,I.aG.fresh<|zr _,λx c e=>I.fT x c<|iD x c e,λq hq=>absurd (show q∈([]:io) from hq)<|by simp,I.aG.kept old,?_};have hk:scope.names.lookup x=some .cell\/scope.names.lookup x=some .free:=hk;rcases hk with hk|hk;exact absurd rfl<|S.gy _<|yh hk;exact BY x hk;have e1:N[i]?=some x:=e1;by_cases hi:i=0;subst hi;rw[MI]at e1;cases e1;have hl:0<(pick σ src).length:=by unfold pick;rw[zb];exact(ze.mp h0).1
 rw[List.getElem?_set_self hl]at e2;cases e2;exact{u,r,.inl {hp,by simp[zX]}};rw[List.getElem?_set_ne<|Ne.symm hi]at e2;unfold pick at e2;rw[zm]at e2;cases es:src[i]? with|none=>(rw[es]at e2;cases e2)|some o=>rw[es]at e2;cases o with|none=>(cases e2)|some j=>have e3:(σ[j]?).join=some w:=zT e2;have e4:σ[j]?=some (some w):=(by cases q:σ[j]? with|none=>(rw[q]at e3;cases e3)|some z=>rw[q]at e3;exact congrArg some e3);obtain⟨a1,a2,a3⟩:=S.src i j x es e1;obtain⟨m0,_,hl⟩:=I.loc;obtain⟨u',r',l⟩:=hl j x w a1 e4 a3;have hm:=yh a2;have hk:=S.BY _ hm rfl;rcases l with⟨k,_⟩|⟨_,c,LX,⟨o,ho,hd⟩⟩;rcases hk with hk|hk<;>(rw[k]at hk;cases hk);exact{u',r',.inr {.inr a2,c,i9 X.env.cells scope.names [] x c (by intro x c h;simp at h) hm LX,o,old _ _ ho,hd}}
 obtain⟨w,o,ho,hd⟩:=I.cell x c<|iD x c e;exact{w,o,old _ _ ho,hd};show((pick σ src).set 0<|some v).length=N.length;unfold pick;rw[List.length_set,zb,S.len]
theorem Jd(I:Inv X pins σ H s)(S:bf X N src scope)(MI:N[0]?=some p)(hp:scope.names.lookup p=some .local)(h0:src[0]?=some none)(y3:A.frames=some X.stack)(hh:A.handled=none)(Wo:A.depth<recursionLimit)(r:RelV v u)(ho:s.heap.get? f=some (AL X qual params body scope pm cv lX))(tN:s.heap.CodeRec cv qual)(MJ:scope.isCoroutine=false)(C5:scope.isGenerator=false)(hb:bindArgs (kla_fn "<lambda>" qual params body scope (clOf X.env.cells scope.names) pm cv lX) {[u],[]}=pure [(p,u)])(he:PE (TF X N qual scope f cv A s H) body te)(h:te ((pick σ src).set 0<|some v) H Q): codeAny (model X.prog X.w) A (.call (.ref f) {[u],[]}) (λq s'=>∃w,q=.ok (.ret w)/\CE X.stack X.prog X.w H s Q w s') s:=by refine PySem.W.kla_callFunE Wo ho rfl MJ C5 rfl tN ?_;show wpAny _ _ (bindArgs (kla_fn "<lambda>" qual params body scope (clOf X.env.cells scope.names) pm cv lX) {[u],[]}) _ _ _;rw[hb];refine zy<|wpAny_newFunctionEnv S.gy (λx hx=>?_) (λh₁ Rk Mc=>{I.nolimit.fresh _ Mc,?_}) S.kind;rw[zK.mp hx];exact hp;have old:∀b o,s.heap.get? b=some o->h₁.get? b=some o:=λb o e=>Mc.extBut b o (zD<|zw e)<|za _ e;show codeAny _ _ (.expr body<|MG X qual scope s.heap.objs.size f cv) _ _;refine PySem.W.kla_codeExpr<|yx (he [] _ _ H Q (MH I S MI hp h0 y3 hh r Rk old) h) (by rintro w s' ⟨x,H',J,rv,q⟩;exact⟨w,rfl,x,H',J.os,J.bare,J.base,J.aG,rv,q⟩) λ_ _ z=>z.elim
end
@[reducible] def intK:KeyKind where
 α:=Int
 blt a b:=decide<|a<b
 irrefl a:=by simp
 trans a b c h1 h2:=by simp only[zS]at *;lia
 negTrans a b c h:=by simp only[zS]at *;lia
 total a b h1 h2:=by simp only[yq]at *;lia
 keyOf v:=match v with|.int x _=>some x|_=>none
 dflt:=0
theorem Je:intK.OneLt:=by intro prog w A E s x y a b Q ha hb h;cases x<;>simp only[intK,reduceCtorEq,Option.some.injEq]at ha;cases y<;>simp only[intK,reduceCtorEq,Option.some.injEq]at hb;cases ha;cases hb;exact oneLt_int h
structure Yn(κ:KeyKind)(b:Bool)(key:Nat->κ.α)(n:Nat)(g:Nat->Nat):Prop where
 lt:∀k,k<n->g k<n
 inj:∀i j,i<n->j<n->g i=g j->i=j
 ord:∀i j,i<j->j<n->(if b=true then κ.klt (key<|g j) (key<|g i) else κ.klt (key<|g i) (key<|g j))\/(key (g i)=key (g j)/\g i<g j)
noncomputable def iF(κ:KeyKind)(us:dL)(j:Nat):κ.α:=(κ.keyOf<|us.getD j .none).getD κ.dflt
theorem Jf{us vs:dL}(hl:us.length=vs.length){j:Nat}(hj:j<vs.length):(us.toArray.zip vs.toArray)[j]?=some (us.getD j .none,vs.getD j .none):=by have e:(us.zip vs)[j]?=some (us.getD j .none,vs.getD j .none):=List.getElem?_zip_eq_some.mpr {by show us[j]?=some (us.getD j .none);rw[zB,zg<|by lia];rfl,by show vs[j]?=some (vs.getD j .none);rw[zB,zg hj];rfl};rw[<-Array.getElem?_toList,ksk_zip,List.toList_toArray];exact e
theorem wF{κ:KeyKind}{us vs:dL}(hl:us.length=vs.length){j:Nat}(hj:j<vs.length):KK κ (us.toArray.zip vs.toArray) j=iF κ us j:=by unfold KK iF;rw[Jf hl hj]
theorem AM{l m:dL}{n:Nat}(h1:l.length=n)(h2:m.length=n)(h:∀k,k<n->l[k]?=m[k]?):l=m:=by apply List.ext_getElem?;intro k;by_cases hk:k<n;exact h k hk;rw[List.getElem?_eq_none<|by lia,List.getElem?_eq_none<|by lia]
section
variable{prog:Program}{w:World}{A:Around}{E:li}{s:Shared}{a kS:Addr}{b:Bool}{us vs:dL}{e e1:Nat}{P:PySem.Fin->Shared->Prop}{κ:KeyKind}
theorem EL{st:SortSt}{keys:ii}(hk:s.heap.get? kS=some (seqObj "list" keys e))(ha:s.heap.get? a=some (seqObj "list" #[] e1))(Rl:kS≠a)(hz:keys.size<64)(Jg:(arrOf st).size<64)(Vl:failedOf st=none)(h:∀h' c,(∀b o,b≠a->b≠kS->s.heap.get? b=some o->h'.get? b=some o)->h'.get? a=some (seqObj "list" (if b then ((arrOf st).map (·.2)).reverse else (arrOf st).map (·.2)) c)->P (.done<|.ret .none) {s with heap:=h'}): wpAny (model prog w) A (ksk_tail a b e1 (.ref kS) st) P E s:=by
 have s1:=yH s.heap kS<|Obj.mapSeq λ_=>(#[]:ii);have na1:(s.heap.update kS<|Obj.mapSeq λ_=>(#[]:ii)).get? a=some (seqObj "list" #[] e1):=(s1.2 a Rl.symm).trans ha;have wG:∀o:ii,o=(if b then ((arrOf st).map (·.2)).reverse else (arrOf st).map (·.2))->o.size<64:=by rintro o rfl;cases b with|false=>rw[if_neg zd,Array.size_map];exact Jg|true=>rw[if_pos rfl,Array.size_reverse,Array.size_map];exact Jg
 generalize ho:(if b then ((arrOf st).map (·.2)).reverse else (arrOf st).map (·.2))=out at h wG;have wG:=wG out rfl;have s2:=yH (s.heap.update kS<|Obj.mapSeq λ_=>(#[]:ii)) a<|Obj.mapSeq λ_=>out;obtain⟨c2,LK⟩:∃c2,((s.heap.update kS<|Obj.mapSeq λ_=>(#[]:ii)).update a<|Obj.mapSeq λ_=>out).get? a=some (seqObj "list" out c2):={_,get?_update_seq na1 λ_=>out};unfold ksk_tail;try dsimp only
 refine zc<|listUpdate_at hk rfl ?_ (by rw[yf];lia)<|zY _;refine zc<|wpAny_letGo ?_;refine zc<|seqEpoch_at na1 rfl ?_;rw[ho];refine zc<|listUpdate_at na1 rfl ?_ (zY _)<|zI (yN wG) (by rw[yf];lia);rw[Vl];simp only[bne_self_eq_false,Bool.false_eq_true,if_false];exact zy<|h _ c2 (λb o h1 h2 q=>(s2.2 b h1).trans<|(s1.2 b h2).trans q) LK
theorem Jh{xs:Array Keyed}{g:Nat->Nat}(hl:us.length=vs.length)(hs:xs.size=vs.length)(G:Gh (if b=true then (us.toArray.zip vs.toArray).reverse else us.toArray.zip vs.toArray) g xs)(U:C4 κ (if b=true then (us.toArray.zip vs.toArray).reverse else us.toArray.zip vs.toArray) g vs.length): ∃g',Yn κ b (iF κ us) vs.length g'/\(if b then (xs.map (·.2)).reverse else xs.map (·.2)).toList=(List.range vs.length).map λk=>vs.getD (g' k) .none:=by
 have y4:(us.toArray.zip vs.toArray).size=vs.length:=by rw[Array.size_zip,zo,zo,hl,Nat.min_self]
 have zat:∀k,k<vs.length->(us.toArray.zip vs.toArray)[k]?=some (us.getD k .none,vs.getD k .none):=λk hk=>Jf hl hk;cases b with|false=>rw[if_neg zd]at G U;refine{g,{λk hk=>by have:=G.lt k (by rw[y4];exact hk);rwa [y4]at this,λi j hi hj=>G.inj i j (by rw[y4];exact hi)<|by rw[y4];exact hj,λi j i5 hj=>?_},?_};have h1:=G.lt i (by rw[y4];lia);have h2:=G.lt j (by rw[y4];lia);rw[y4]at h1 h2;have:=U i j i5 hj;unfold Log at this;rw[wF hl h1,wF hl h2]at this;rw[if_neg zd];exact this;rw[if_neg zd];refine AM (n:=vs.length) (by rw[yd,Array.size_map,hs]) (by simp) λk hk=>?_;have h1:=G.lt k (by rw[y4];lia);rw[y4]at h1;rw[Array.getElem?_toList,Array.getElem?_map,G.at_ k<|by rw[y4];exact hk,zat _ h1,zm,List.getElem?_range hk];rfl|true=>rw[if_pos rfl]at G U;have tR:(us.toArray.zip vs.toArray).reverse.size=vs.length:=(by rw[Array.size_reverse,y4]);have lt:∀k,k<vs.length->g k<vs.length:=λk hk=>(by have:=G.lt k (by rw[tR];exact hk);rwa [tR]at this);have rat:∀k,k<vs.length->(us.toArray.zip vs.toArray).reverse[k]?=(us.toArray.zip vs.toArray)[vs.length-1-k]?:=λk hk=>(by rw[Array.getElem?_reverse<|by rw[y4];exact hk,y4]);refine{λk=>vs.length-1-g (vs.length-1-k),{λk hk=>by have:=lt (vs.length-1-k) (by lia);lia,λi j hi hj e=>?_,λi j i5 hj=>?_},?_};have h1:=lt (vs.length-1-i) (by lia);have h2:=lt (vs.length-1-j) (by lia);have:=G.inj (vs.length-1-i) (vs.length-1-j) (by rw[tR];lia) (by rw[tR];lia) (by lia);lia;have h1:=lt (vs.length-1-i) (by lia);have h2:=lt (vs.length-1-j) (by lia);have:=U (vs.length-1-j) (vs.length-1-i) (by lia) (by lia);unfold Log at this;have e1:KK κ (us.toArray.zip vs.toArray).reverse (g<|vs.length-1-i)=iF κ us (vs.length-1-g (vs.length-1-i)):=(KK_congr<|rat _ h1).trans<|wF hl (by lia);have e2:KK κ (us.toArray.zip vs.toArray).reverse (g<|vs.length-1-j)=iF κ us (vs.length-1-g (vs.length-1-j)):=(KK_congr<|rat _ h2).trans<|wF hl (by lia);rw[e1,e2]at this;rw[if_pos rfl];rcases this with z|⟨z1,z2⟩;exact .inl z;exact .inr {z1.symm,by lia};rw[if_pos rfl];refine AM (n:=vs.length) (by rw[yd,Array.size_reverse,Array.size_map,hs]) (by simp) λk hk=>?_;have h1:=lt (vs.length-1-k) (by lia);rw[Array.getElem?_toList,Array.getElem?_reverse<|by rw[Array.size_map,hs];exact hk,Array.size_map,hs,Array.getElem?_map,G.at_ _<|by rw[tR];lia,rat _ h1,zat _<|by lia,zm,List.getElem?_range hk];rfl
theorem Rm(hO:κ.OneLt)(hk:s.heap.get? kS=some (seqObj "list" us.toArray e))(ha:s.heap.get? a=some (seqObj "list" #[] e1))(Rl:kS≠a)(hl:us.length=vs.length)(HA:vs.length<64)(h0:∀u∈us,∃x,κ.keyOf u=some x)(hkk:∀n6 n8 rest,us=n6::n8::rest->keyKind' (n6::n8::rest).toArray=pure oneType')(h:∀h' c g out,(∀b o,b≠a->b≠kS->s.heap.get? b=some o->h'.get? b=some o)->h'.get? a=some (seqObj "list" out c)->Yn κ b (iF κ us) vs.length g->out.toList=(List.range vs.length).map (λk=>vs.getD (g k) .none)->P (.done<|.ret .none) {s with heap:=h'}): wpAny (model prog w) A (ksk_end a b vs.toArray e1 (.ref kS) us.toArray) P E s:=by
 have y4:(us.toArray.zip vs.toArray).size=vs.length:=by rw[Array.size_zip,zo,zo,hl,Nat.min_self]
 have step:∀t:Sem PySem.Fin,wpAny (model prog w) A t P E s->wpAny (model prog w) A (if b=true then (do let _ <-rule "list.sort.reverse";t) else t) P E s:=by intro t ht;split;exact zc<|yY ht;exact ht
 have hsz:(if b=true then (us.toArray.zip vs.toArray).reverse else us.toArray.zip vs.toArray).size=vs.length:=by cases b with|false=>exact y4|true=>rw[if_pos rfl,Array.size_reverse,y4]
 have keys:KeysOf κ (if b=true then (us.toArray.zip vs.toArray).reverse else us.toArray.zip vs.toArray):=λp hp=>by have hp:p∈us.zip vs:=(by have e2:(us.toArray.zip vs.toArray).toList=us.zip vs:=(by rw[ksk_zip]);cases b with|false=>rw[if_neg zd,e2]at hp;exact hp|true=>rw[if_pos rfl,Array.toList_reverse,e2]at hp;exact List.mem_reverse.mp hp);obtain⟨x,y⟩:=p;exact h0 _ (List.of_mem_zip hp).1
 unfold ksk_end;try dsimp only
 refine step _ ?_;by_cases h2:vs.toArray.size<2;{rw[if_pos h2,if_pos h2];refine zc<|zy ?_;rw[StateT.run_pure];refine zc<|zy ?_;(try dsimp only);rw[zo]at h2;refine EL (st:=SortSt.mk' general' (if b=true then (us.toArray.zip vs.toArray).reverse else us.toArray.zip vs.toArray) #[] 7 none) hk ha Rl (by rw[zo];lia) (by show(if b=true then (us.toArray.zip vs.toArray).reverse else us.toArray.zip vs.toArray).size<64;lia) rfl λh' c k1 k2=>?_;obtain⟨g,g1,g2⟩:=Jh (κ:=κ) (b:=b) (xs:=if b=true then (us.toArray.zip vs.toArray).reverse else us.toArray.zip vs.toArray) (g:=λk=>k) hl hsz {λ_ _=>rfl,λ_ hk=>hk,λ_ _ _ _ e=>e} (λi j i5 hj=>by lia);exact h h' c g _ k1 k2 g1 g2};{rw[if_neg h2,if_neg h2];rw[zo]at h2;obtain⟨n6,n8,rest,eu⟩:∃n6 n8 rest,us=n6::n8::rest:=(by match us,hl with|[],hl=>simp at hl;lia|[_],hl=>simp at hl;lia|n6::n8::rest,_=>exact⟨n6,n8,rest,rfl⟩);have ek:keyKind' us.toArray=pure oneType':=(by rw[eu];exact hkk _ _ _ eu);rw[ek];refine zc<|zy ?_;refine zc<|yx (Rj (κ:=κ) hO (a₀:=if b=true then (us.toArray.zip vs.toArray).reverse else us.toArray.zip vs.toArray) (st:=SortSt.mk' oneType' (if b=true then (us.toArray.zip vs.toArray).reverse else us.toArray.zip vs.toArray) #[] 7 none) (Q:=λ_ eG=>failedOf eG=none/\(arrOf eG).size=vs.length/\∃g,Gh (if b=true then (us.toArray.zip vs.toArray).reverse else us.toArray.zip vs.toArray) g (arrOf eG)/\C4 κ (if b=true then (us.toArray.zip vs.toArray).reverse else us.toArray.zip vs.toArray) g vs.length) keys {Array.Perm.refl _,rfl,rfl,rfl} rfl (by lia) (by lia) λeG g q1 q2 q3 q4=>{q1,q2.trans hsz,g,q3,by rw[hsz]at q4;exact q4}) ?_ λ_ _ e=>e;rintro⟨⟨⟩,eG⟩ s' ⟨rfl,hf,Ji,g,G,U⟩;(try dsimp only);have Ji:(arrOf eG).size=vs.length:=Ji;refine EL hk ha Rl (by rw[zo];lia) (by lia) hf λh' c k1 k2=>?_;obtain⟨g',g1,g2⟩:=Jh (κ:=κ) hl Ji G U;exact h h' c g' _ k1 k2 g1 g2}
end
structure OB(X:Cx)(pins:io)(b:Addr):Prop where
 loc:b≠X.env.locals
 fs:b∉X.fs
 cell:∀x c,X.env.cells.lookup x=some c->c≠b
 pin:∀p∈X.pn++pins,p.1≠b
 new:X.dm.heap.objs.size<=b
section
variable{X:Cx}{pins:io}{σ:St}{H:Hp}{s:Shared}
theorem Inv.Yo(I:Inv X pins σ H s)(h:s.heap.objs.size<=b):OB X pins b:={yr<|zp I.lt h,I.Uk h,λx c e=>by obtain⟨v,q⟩:=I.cell x c e;exact zD<|zp q.lt h,λp hp=>zD<|zp (zw (I.pin p hp).1) h,zI I.sz h}
theorem Inv.MK(I:Inv X pins σ H s)(kp:∀b o,b≠a->b≠k->s.heap.get? b=some o->h'.get? b=some o)(ha:H a=none)(hk:H k=none)(Aa:OB X pins a)(Ak:OB X pins k):Inv X pins σ H {s with heap:=h',toks:=t'}:=by have Pp:∀b u,H b=some u->b≠a/\b≠k:=λb u e=>{λz=>(by rw[z,ha]at e;cases e),λz=>(by rw[z,hk]at e;cases e)};refine I.step (g':=s.gens) (d':=s.drawn) (ch:=[a,k]) (λb hb=>?_) (λb o _ _ hc e _=>kp b o (λz=>hc<|by simp[z]) (λz=>hc<|by simp[z]) e) (λb o _ _ hc e _=>{o.slots,kp b o (λz=>hc<|by simp[z]) (λz=>hc<|by simp[z]) e}) (λ_ _ _ _ n=>n) (λb o hc e=>{o,kp b o (λz=>hc<|by simp[z]) (λz=>hc<|by simp[z]) e}) (λ_ _ e=>e) (λ_ _ _ e=>e) (λb ps e=>{#[],by rw[e];simp}) (λm hm=>?_) (λb u e=>?_) I.bare;simp only[zi,zH,or_false]at hb;rcases hb with rfl|rfl;exact{.inr Aa.new,Aa.loc,Aa.cell,Aa.pin};exact{.inr Ak.new,Ak.loc,Ak.cell,Ak.pin};obtain⟨o,es,ep,ho,r⟩:=hm;exact{o,es,ep,kp _ o (Ne.symm Aa.loc) (Ne.symm Ak.loc) ho,r};refine(I.aG b u e).p_ (λc v hc q=>?_) (λ_ q=>q) λ_ _ q=>q;rcases hc with z|z;rw[z]at q⊢;exact kp b v (Pp b u e).1 (Pp b u e).2 q;exact kp c v (Pp c _ z).1 (Pp c _ z).2 q
theorem Inv.Wq(I:Inv X pins σ H s)(ha:H a=none)(A:OB X pins a)(new:bp X.prog X.w (upd H a o) s.heap a o):Inv X pins σ (upd H a o) s:=by refine I.step (h':=s.heap) (g':=s.gens) (d':=s.drawn) (t':=s.toks) (ch:=[a]) (λb hb=>?_) (λb o _ _ hc e _=>e) (λb o _ _ hc e _=>⟨o.slots,e⟩) (λb u hc e n=>?_) (λb o hc e=>⟨o,e⟩) (λb xs e=>?_) (λb u v e=>?_) (λb ps e=>?_) (λm hm=>hm) (λb u e=>?_) I.bare;rw[zK.mp hb];exact{.inr A.new,A.loc,A.cell,A.pin};rw[aw λz=>hc<|by simp[z]];exact n;rw[aw<|aF e ha];exact e;rw[aw<|aF e ha];exact e;exact{#[],by rw[aw<|aF e ha,e];simp};by_cases hb:b=a;subst hb;rw[aD]at e;cases e;exact new;rw[aw hb]at e;exact(I.aG b u e).p_ (λc v _ q=>q) (λc q=>by rw[aw<|aF q ha];exact q) λc xs q=>by rw[aw<|aF q ha];exact q
end
def Jj(X:Cx)(pins:io)(σ:St)(A:Around)(f:Addr)(xs:cr)(W:Nat->List V->Hp->Prop):Prop:=∀i x u ks s' H' more,Inv X (pins++more) σ H' s'->W i ks H'->xs[i]?=some x->RelV x u->codeAny (model X.prog X.w) A (.call (.ref f) {[u],[]}) (λq Cr=>∃w,q=.ok (.ret w)/\CE X.stack X.prog X.w H' s' (λk H''=>W (i+1) (ks++[k]) H'') w Cr) s'
structure OC(κ:KeyKind)(us:dL):Prop where
 all:∀u∈us,∃x,κ.keyOf u=some x
 kind:∀n6 n8 rest,us=n6::n8::rest->keyKind' (n6::n8::rest).toArray=pure oneType'
section
variable{X:Cx}{pins:io}{σ:St}{H:Hp}{s:Shared}{A:Around}{E:li}{xs:cr}{vs:dL}{f:Addr}{b:Bool}{κ:KeyKind}{W:Nat->List V->Hp->Prop}
theorem GC{P:PySem.Fin->Shared->Prop}(hO:κ.OneLt)(I:Inv X pins σ H s)(ha:s.heap.get? a=some (seqObj "list" #[] e1))(hk:s.heap.get? kS=some (seqObj "list" #[] 0))(Rl:kS≠a)(na:H a=none)(nk:H kS=none)(Aa:OB X pins a)(Ak:OB X pins kS)(hv:Vals xs vs)(HA:vs.length<64)(T:Jj X pins σ A f xs W)(w0:W 0 [] H)(G:∀ks us H',W vs.length ks H'->Vals ks us->ks.length=vs.length->OC κ us)(h:∀s' H' ks us c g out,Inv X pins σ H' s'->H' a=none->s'.heap.get? a=some (seqObj "list" out c)->W vs.length ks H'->Vals ks us->ks.length=vs.length->Yn κ b (iF κ us) vs.length g->out.toList=(List.range vs.length).map (λk=>vs.getD (g k) .none)->P (.done<|.ret .none) s'): wpAny (model X.prog X.w) A (ksk_rest a (.ref f) b vs.toArray e1<|.ref kS) P E s:=by
 have nc:∀(k:ii) (n:Nat) (v:Option Value),(seqObj "list" k n).data≠.cell v:=λ_ _ _ z=>nomatch z;unfold ksk_rest;refine zc<|yY ?_;rw[List.forIn_toArray];refine zc<|ksk_fold (λi s'=>∃ks kA e H',Inv X pins σ H' s'/\W i ks H'/\Vals ks kA.toList/\ks.length=i/\H' a=none/\H' kS=none/\s'.heap.get? a=some (seqObj "list" #[] e1)/\s'.heap.get? kS=some (seqObj "list" kA e)) vs 0 s {[],#[],0,H,I,w0,.nil,rfl,na,nk,ha,hk} ?_ ?_;rintro j x s' hx ⟨ks,kA,e,H',I',w',v',l',Yp,nk',ha',LY⟩;simp only[Nat.zero_add]at l' w'⊢;have hj:j<vs.length:=(ze.mp hx).1;have hl:xs.length=vs.length:=hv.length;obtain⟨y,hy⟩:∃y,xs[j]?=some y:={_,zg<|by lia};obtain⟨u,hu,ru⟩:=hv.get hy;rw[hx]at hu;cases hu;have Ip:Inv X (pins++[(a,seqObj "list" #[] e1),(kS,seqObj "list" kA e)]) σ H' s':=by refine{I'.ok,I'.os,I'.bare,I'.base,I'.loc,I'.cell,I'.free,I'.fT,λp hp=>?_,I'.aG,I'.len};rcases zP.mp hp with hp|hp;exact I'.pin p<|ym _ hp;rcases zP.mp hp with hp|hp;exact I'.pin p<|zJ _ hp;simp only[zi,zH,or_false]at hp;rcases hp with rfl|rfl;exact{ha',Yp,Aa.loc,Aa.fs,nc _ _};exact{LY,nk',Ak.loc,Ak.fs,nc _ _}
 have hz:kA.size=j:=by have h1:ks.length=kA.toList.length:=v'.length;have h2:kA.toList.length=kA.size:=yd;lia
 refine zc<|wpAny_attempt<|wpAny_call<|yW (T j y x ks s' H' _ Ip w' hy ru) λr s2 hq=>?_;obtain⟨w,rfl,ce⟩:=hq;obtain⟨k,H2,I2,rk,w2⟩:=Ip.after ce;dsimp only;have pa:=I2.pin (a,seqObj "list" #[] e1)<|zJ _<|zJ _ (by simp);have pk:=I2.pin (kS,seqObj "list" kA e)<|zJ _<|zJ _ (by simp);have I3:Inv X pins σ H2 s2:={I2.ok,I2.os,I2.bare,I2.base,I2.loc,I2.cell,I2.free,I2.fT,λp hp=>I2.pin p<|by rcases zP.mp hp with z|z;exact ym _ z;exact zJ _<|ym _ z,I2.aG,I2.len};have s1:=yH s2.heap kS (Obj.mapSeq (·.push w));obtain⟨c2,LK⟩:∃c2,(s2.heap.update kS (Obj.mapSeq (·.push w))).get? kS=some (seqObj "list" (kA.push w) c2):={_,get?_update_seq pk.1 (·.push w)};refine zc<|listUpdate_at pk.1 rfl ?_ (by rw[yf];lia)<|zI (Nat.le_of_eq<|Array.size_push ..) (by rw[yf];lia);refine zy {rfl,ks++[k],kA.push w,c2,H2,I3.turned (t':=s2.toks) (it:=kS) (λb o hb q=>(s1.2 b hb).trans q) pk.2.1 Ak.loc (.inr Ak.new) Ak.cell Ak.pin,w2,?_,by simp[l'],pa.2.1,pk.2.1,(s1.2 a Rl.symm).trans pa.1,LK};rw[show(kA.push w).toList=kA.toList++[w] by simp];exact v'.append<|.cons rk .nil;rintro s' ⟨ks,kA,e,H',I',w',v',l',Yp,nk',ha',LY⟩;simp only[Nat.zero_add]at l' w';refine zc<|listItems_at LY rfl ?_;have eA:kA=kA.toList.toArray:=by simp
 have good:=G ks kA.toList H' w' v' l';have hl:kA.toList.length=vs.length:=by have h1:ks.length=kA.toList.length:=v'.length;lia
 rw[eA]at LY;show wpAny _ _ (ksk_end a b vs.toArray e1 (.ref kS) kA) _ _ _;rw[eA];refine Rm (κ:=κ) hO LY ha' Rl hl HA good.all good.kind λh' c g out k1 k2 k3 k4=>?_;exact h _ H' ks kA.toList c g out (I'.MK (t':=s'.toks) k1 Yp nk' Aa Ak) Yp k2 w' v' l' k3 k4
theorem u_(hO:κ.OneLt)(I:Inv X pins σ H s)(hl:iQ X.K H l xs)(HA:xs.length<64)(Yq:argsOk "sorted" {[.ref l],kw})(Yr:∀x,argsOk "list.sort" {[.ref x],kw})(ht:∀x,Builtin.«list.sort» {[.ref x],kw}=ksk_tree x (.ref f) b)(T:Jj X pins σ A.in1.in1 f xs W)(w0:W 0 [] H)(G:∀ks us H',W xs.length ks H'->Vals ks us->ks.length=xs.length->OC κ us)(h:∀H' ks us g D,W xs.length ks H'->Vals ks us->ks.length=xs.length->Yn κ b (iF κ us) xs.length g->H' D=none->Q (.ref D) (upd H' D<|.lst<|(List.range xs.length).map λk=>xs.getD (g k) .au)): wpAny (model X.prog X.w) A (call (.builtin "sorted") [.ref l] kw) (EP X pins σ Q) E s:=by
 obtain⟨vs,hv,pl,_⟩:=I.list hl;have TH:xs.length=vs.length:=hv.length;rw[TH]at HA G h;refine call_function_entry_kw kind_sorted plain_sorted entry_sorted Yq ?_;unfold Builtin.«sorted»;refine zc (m:=checkCount "sorted" 1 1 _)<|zy ?_;refine zc<|collect_list pl.isList ?_ (by rw[yf];lia);refine zc<|wpAny_newList ?_ (by rw[yf];lia);have hsz:((s.heap.push<|seqObj "list" #[] 0).update s.heap.objs.size (Obj.mapSeq (·++vs.toArray))).objs.size=s.heap.objs.size+1:=by rw[Heap.size_update,size_push']
 have Hs:(((s.heap.push<|seqObj "list" #[] 0).update s.heap.objs.size (Obj.mapSeq (·++vs.toArray))).push<|seqObj "list" vs.toArray 0).get? (s.heap.objs.size+1)=some (seqObj "list" vs.toArray 0):=by rw[<-hsz];exact zk _ rfl
 have keep:∀b o,s.heap.get? b=some o->(((s.heap.push<|seqObj "list" #[] 0).update s.heap.objs.size (Obj.mapSeq (·++vs.toArray))).push<|seqObj "list" vs.toArray 0).get? b=some o:=λb o q=>by have eI:b<s.heap.objs.size:=zw q;rw[Heap.get?_push_ne _ _ _<|by rw[hsz];exact zD<|Nat.lt_succ_of_lt eI,Heap.get?_update_ne _ _ _ _<|zD eI,Heap.get?_push_ne _ _ _<|zD eI];exact q
 show wpAny _ _ _ _ _ {s with heap:=((s.heap.push<|seqObj "list" #[] 0).update s.heap.objs.size (Obj.mapSeq (·++vs.toArray))).push<|seqObj "list" vs.toArray 0};rw[hsz];generalize hg:((s.heap.push<|seqObj "list" #[] 0).update s.heap.objs.size (Obj.mapSeq (·++vs.toArray))).push (seqObj "list" vs.toArray 0)=h1 at Hs keep⊢;have I1:Inv X pins σ H {s with heap:=h1}:=I.kept (t':=s.toks) keep;have Aa:OB X pins (s.heap.objs.size+1):=I.Yo<|yV _;have na:H (s.heap.objs.size+1)=none:=I.aG.fresh<|yV _;generalize s.heap.objs.size+1=a at Hs Aa na⊢;refine zc<|yO<|wpAny_call_entry_kw slot_list_sort {_,Hs,rfl} entry_list_sort ?_<|Yr _;show wpAny (model X.prog X.w) A.in1.in1 (Builtin.«list.sort» {[.ref a],kw}) _ _ _;rw[ht a];have s1:=yH h1 a<|Obj.mapSeq λ_=>(#[]:ii);obtain⟨e1,TJ⟩:∃e1,(h1.update a<|Obj.mapSeq λ_=>(#[]:ii)).get? a=some (seqObj "list" #[] e1):={_,get?_update_seq Hs λ_=>#[]};have I2:Inv X pins σ H {s with heap:=h1.update a<|Obj.mapSeq λ_=>(#[]:ii)}:=Inv.turned (s:={s with heap:=h1}) (h':=h1.update a<|Obj.mapSeq λ_=>(#[]:ii)) (t':=s.toks) (it:=a) I1 (λb o hb q=>(s1.2 b hb).trans q) na Aa.loc (.inr Aa.new) Aa.cell Aa.pin;unfold ksk_tree;refine zc<|listItems_at Hs rfl ?_;refine zc<|listUpdate_at Hs rfl ?_ (by rw[zo,yf];lia)<|zY _;refine zc<|seqEpoch_at TJ rfl ?_;refine zc<|wpAny_newTuple ?_ (by show vs.length<=_;rw[yf];lia);refine zc<|wpAny_newList ?_<|zY _;refine yO ?_;generalize h1.update a (Obj.mapSeq λ_=>(#[]:ii))=h2 at TJ I2⊢;have k3:∀b u,h2.get? b=some u->((h2.push<|seqObj "tuple" vs.toArray 0).push<|seqObj "list" #[] 0).get? b=some u:=λb u q=>za _<|za _ q;have I3:Inv X pins σ H {s with heap:=(h2.push<|seqObj "tuple" vs.toArray 0).push<|seqObj "list" #[] 0}:=I2.kept (t':=s.toks) k3;have B5:h2.objs.size<=(h2.push<|seqObj "tuple" vs.toArray 0).objs.size:=by rw[size_push'];exact yV _
 refine GC (s:={s with heap:=(h2.push<|seqObj "tuple" vs.toArray 0).push<|seqObj "list" #[] 0}) (kS:=(h2.push<|seqObj "tuple" vs.toArray 0).objs.size) hO I3 (k3 _ _ TJ) (zk _ rfl) (yr<|zp (zw TJ) B5) na (I2.aG.fresh B5) Aa (I2.Yo B5) hv HA T w0 G λs' H' ks us c g out J n1 o1 w1 v1 l1 q1 q2=>{.none,rfl,?_};refine zy !{.ref a,_,J.Wq (o:=.lst<|(List.range vs.length).map λk=>xs.getD (g k) .au) n1 Aa {?_,out.toList,c,?_,?_},rfl,h H' ks us g a w1 v1 l1 q1 n1};rw[zb,List.length_range,yf];lia;rw[q2];have:∀(ns:wp),(∀k∈ns,g k<vs.length)->Vals (ns.map λk=>xs.getD (g k) .au) (ns.map λk=>vs.getD (g k) .none):=λns=>by induction ns with|nil=>exact λ_=>.nil|cons k ns ih=>intro hk;have hk0:=hk k zj;obtain⟨y,hy⟩:∃y,xs[g k]?=some y:={_,zg<|by lia};obtain⟨u,hu,ru⟩:=hv.get hy;refine .cons ?_<|ih λk dw=>hk k<|zf _ dw;show RelV (xs.getD (g k) .au) (vs.getD (g k) .none);rw[zB,hy,zB,hu];exact ru
 exact this _ λk hk=>q1.lt k<|zU.mp hk;rw[o1]
end
def Bm(mg:Str->Option Value)(base:Heap):Prop:=∃bm o,mg "__builtins__"= some (.ref bm)/\bm≠builtinsNs/\base.get? bm=some o/\o.cls=.type "module"/\o.dict=some builtinsNs/\o.data=.plain
structure Mkr(K:Frag)(mg:Str->Option Value)(base:Heap)(c P:Addr):Prop where
 hd:codeHdIn K c P=true
 bm:Bm mg base
theorem C6{pos p2:Pos}{c cv:Value}(l:dL)(h:TriplesOk l)(e:codeAmong pos (l++[rawInt p2.line,rawInt p2.col,c])=some cv):codeAmong pos l=some cv\/cv=c:=by fun_induction TriplesOk l with|case1=>(simp only[List.nil_append,rawInt,codeAmong]at e;split at e;cases e;exact .inr rfl;cases e)|case2 a t b u x rest ih=>simp only[List.cons_append,codeAmong]at e⊢;split at e;rename_i hc;rw[if_pos hc];exact .inl e;rename_i hc;rw[if_neg hc];exact ih h e|case3 l h1 h2=>exact h.elim
section
variable{X:Cx}{pins:io}{σ:St}{H:Hp}{s:Shared}
theorem Inv.tab{h':Heap}{tk:Nat}{P c:Addr}{ps TK:ii}{oc fo:Obj}(I:Inv X pins σ H s)(hP:H P=some (.qB ps))(hx:Heap.ExtBut P s.heap h')(h1:s.heap.objs.size<=c)(h2:c<h'.objs.size)(hc:h'.get? c=some oc)(hp:h'.get? P=some (tabObj<|ps++TK)): Inv X pins σ (upd (upd H P<|.qB<|ps++TK) c<|.kD oc<|.own 0) {s with heap:=h'.push fo,toks:=tk}:=by
 have hcP:c≠P:=λz=>absurd (zp (I.aG.lt hP)<|z ▸ h1)<|yF _;have nc:H c=none:=I.aG.fresh h1;have other:∀b,b≠P->b≠c->upd (upd H P<|.qB<|ps++TK) c (.kD oc<|.own 0) b=H b:=λb z1 z2=>by rw[aw z2,aw z1]
 have nP:∀b o,H b=some o->(∀q,o≠.qB q)->b≠P:=λb o e z q=>by rw[q,hP]at e;cases e;exact z _ rfl
 have nP0:∀b,H b=none->b≠P:=λb e q=>by rw[q,hP]at e;cases e
 have lt:∀b o,s.heap.get? b=some o->b≠c:=λb o e=>zD<|zp (zw e) h1;refine I.un (h':=h'.push fo) {λb o e n _ _=>za _<|hx b o (nP0 b n) e,λb o e n _ _=>{o.slots,za _<|hx b o (nP0 b n) e},λb o e n _=>by rw[other b (nP0 b n)<|lt b o e];exact n,λb o e _=>?_,λb xs e=>by rw[other b (nP b _ e λ_=>nofun)<|aF e nc];exact e,λb o u e=>by rw[other b (nP b _ e λ_=>nofun)<|aF e nc];exact e,λb q e=>?_} λb u e=>?_;by_cases hb:b=P;rw[hb];exact{_,za _ hp};exact{o,za _<|hx b o hb e};by_cases hb:b=P;subst hb;rw[hP]at e;cases e;exact{TK,by rw[aw<|Ne.symm hcP,aD]};exact{#[],by rw[other b hb<|aF e nc,e];simp};by_cases TL:b=c;subst TL;rw[aD]at e;cases e;exact{za _ hc,_,za _ hc};rw[aw TL]at e;by_cases hb:b=P;subst hb;rw[aD]at e;cases e;exact za _ hp;rw[aw hb]at e;refine(I.aG b u e).p_ (λd v hd q=>?_) (λd q=>by rw[other d (nP d _ q λ_=>nofun)<|aF q nc];exact q) λd xs q=>by rw[other d (nP d _ q λ_=>nofun)<|aF q nc];exact q
 rcases hd with rfl|hd;exact za _<|hx d v hb q;exact za _<|hx d v (nP d _ hd λ_=>nofun) q
theorem Inv.EM(I:Inv X pins σ H s)(ho:s.heap.get? f=some o)(hn:H f=none)(A:OB X pins f)(d:∀v,o.data≠.cell v):Inv X (pins++[(f,o)]) σ H s:=by refine{I.ok,I.os,I.bare,I.base,I.loc,I.cell,I.free,I.fT,λp hp=>?_,I.aG,I.len};rcases zP.mp hp with hp|hp;exact I.pin p<|ym _ hp;rcases zP.mp hp with hp|hp;exact I.pin p<|zJ _ hp;rw[zK.mp hp];exact⟨ho,hn,A.loc,A.fs,d⟩
structure Wr(X:Cx)(pins:io)(σ:St)(H H':Hp)(P:Addr)(q:Str)(params:Arguments)(body:Expr)(scope:Scope)(u:Value)(s':Shared)(f:Addr)(pm cv lX:Value):Prop where
 u:u=.ref f
 inv:Inv X (pins++[(f,AL X q params body scope pm cv lX)]) σ H' s'
 code:∃c o vs t,cv=.ref c/\H' c=some (.kD o<|.own 0)/\o.data=.fields vs/\vs[1]?=some (.str q t)
 same:∀b,H' b=H b\/(b=P/\∃ps,H' b=some (.qB ps)/\Ey H' q ps)\/(H b=none/\∃o,H' b=some (.kD o<|.own 0))
theorem AN{M:Model}{A:Around}{E:li}{N:j4}{src:List<|Option Nat}{scope:Scope}{params:Arguments}{body:Expr}{pos:Pos}{c P:Addr}{q:Str}{ps:ii}{Q:li}(I:Inv X pins σ H s)(S:bf X N src scope)(pE:X.env.code=.ref c)(mk:Mkr X.K X.mg X.base c P)(hP:H P=some (.qB ps))(ok:Ey H q ps)(hq:X.env.qual ++ "<lambda>"= q)(Jl:defaultsOf params X.env=([],[]))(h:∀u s' H' f pm cv lX,Wr X pins σ H H' P q params body scope u s' f pm cv lX->Q u s'):wpAny M A (eval (.Lambda params body scope pos) X.env) Q E s:=by
 have Ap:closureFor scope X.env=pure (clOf X.env.cells scope.names):=gx λy hy hf=>I.ok.has y.1<|S.BY y hy hf;have Ys:s.heap.get? P=some (tabObj ps):=I.aG P _ hP;have hg:s.heap.Ns mainGlobals X.mg:=I.mod.glob.keeps I.bk;have hC:=codeHd_of_K I.ph mk.hd;obtain⟨bm,ob,b1,b2,b3,b4,b5,b6⟩:=mk.bm;have Yt:s.heap.get? bm=some ob:=I.bk _ _ b3;have hgP:mainGlobals≠P:=λz=>by obtain⟨o,es,ep,e,d,_⟩:=id hg;rw[z,Ys]at e;cases e;cases d
 have hbG:bm≠mainGlobals:=λz=>by obtain⟨o,es,ep,e,d,_⟩:=id hg;rw[<-z,Yt]at e;cases e;rw[b6]at d;cases d
 have hbP:bm≠P:=λz=>by rw[z,Ys]at Yt;cases Yt;cases b4
 have hB:s.heap.BuiltinsAt X.mg P:=⟨bm,ob,b1,b2,hbG,hbP,Yt,b4,b5,b6⟩;have hqs:H P≠none:=by rw[hP];nofun
 refine PySem.W.kla_eval Jl ?_;rw[hq];cases hf:codeAmong pos ps.toList with|none=>(refine PySem.W.kla_makeFunction Ap I.ok.glob hg pE hC Ys ok.1 hf hgP hB λc' lX h' tk hx h1 h2 hr hp=>?_;obtain⟨c2,oc,vs,t,e2,X0,hd,hv⟩:=hr;cases e2;have J:=I.tab (tk:=tk) (fo:=AL X q params body scope ((X.mg "__name__").getD .none) (.ref c') lX) hP hx h1 h2 X0 hp;have hcP:c'≠P:=λz=>absurd (zp (I.aG.lt hP)<|z ▸ h1)<|yF _;have nc:H c'=none:=I.aG.fresh h1;have fresh:∀b,h'.objs.size<=b->upd (upd H P<|.qB<|ps++#[rawInt pos.line,rawInt pos.col,.ref c']) c' (.kD oc<|.own 0) b=none:=λb hb=>(by have t6:s.heap.objs.size<=b:=zI (zI h1<|yN h2) hb;rw[aw<|yr<|zp h2 hb,aw<|yr<|zp (I.aG.lt hP) t6];exact I.aG.fresh t6);have hsz:s.heap.objs.size<=h'.objs.size:=zI h1<|yN h2;refine h _ _ _ h'.objs.size _ _ _ {rfl,J.EM (zk _ rfl) (fresh _<|zr _) (I.Yo hsz) (λv z=>nomatch z),⟨c',oc,vs,t,rfl,aD,hd,hv⟩,λb=>?_};by_cases TL:b=c';subst TL;exact .inr<|.inr ⟨nc,oc,aD⟩;by_cases hb:b=P;subst hb;refine .inr<|.inl {rfl,_,by rw[aw TL,aD],?_,λp2 cv e=>?_};rw[Array.toList_append];exact TriplesOk_snoc _ _ _ _ ok.1;rw[Array.toList_append]at e;rcases C6 _ ok.1 e with e|e;obtain⟨d,o,ws,t2,z1,z2,z3⟩:=ok.2 p2 cv e;exact{d,o,ws,t2,z1,by rw[aw<|aF z2 nc,aw λz=>by rw[z,hP]at z2;cases z2];exact z2,z3};exact⟨c',oc,vs,t,e,aD,hd,hv⟩;exact .inl<|by rw[aw TL,aw hb])|some cv=>refine PySem.W.kla_makeFunctionHit Ap I.ok.glob hg pE hC Ys ok.1 hf hB λlX h' tk hk hsz=>?_;have J:Inv X pins σ H {s with heap:=h'.push<|AL X q params body scope ((X.mg "__name__").getD .none) cv lX,toks:=tk}:=I.kept λb u e=>za _<|hk b u e;exact h _ _ _ h'.objs.size _ _ _ {rfl,J.EM (zk _ rfl) (I.aG.fresh hsz) (I.Yo hsz) (λv z=>nomatch z),ok.2 pos cv hf,λb=>.inl rfl}
end
def Ws:D->D->Prop|.int a,.int b=>a<b|.str a,.str b=>a.cps.toList<b.cps.toList|_,_=>False
def AO(ks:v0):Prop:=(∃zs:j4,ks=zs.map D.str)\/∃ns:sB,ks=ns.map D.int
structure Rn(b:Bool)(key:Nat->D)(n:Nat)(g:Nat->Nat):Prop where
 lt:∀k,k<n->g k<n
 inj:∀i j,i<n->j<n->g i=g j->i=j
 ord:∀i j,i<j->j<n->(if b=true then Ws (key<|g j) (key<|g i) else Ws (key<|g i) (key<|g j))\/(key (g i)=key (g j)/\g i<g j)
def AQ(b:Bool)(P:Addr)(q:Str)(src:List<|Option Nat)(te:TD)(σ:SD)(R:KD)(d:D)(S1:ak):Prop:=∃(l:Addr)(xs:v0)(f:D->D),d=.ref l/\S1 l=some (.lst xs)/\xs.length<64/\S1 P=some (.tab q)/\AO (xs.map f)/\(∀x,x∈xs->∀S',Sub S1 S'->∀Qk:KD,(∀S2,Sub S' S2->Qk (f x) S2)->te ((mr σ src).set 0<|some x) S' Qk Zf)/\∀g S2 p,Rn b (λj=>f<|xs.getD j .au) xs.length g->Sub S1 S2->S2 p=none->R (.ref p) (S2.set p<|.lst<|(List.range xs.length).map λk=>xs.getD (g k) .au)
def OD(b:Bool)(P:Addr)(q:Str)(src:List<|Option Nat)(tl te:TD):TD:=λσ S R Z=>tl σ S (λd S1=>AQ b P q src te σ R d S1) Z
def Jm(F:D->ak->Prop):List D->ak->Prop|[d],S=>F d S|_,_=>False
theorem EN{F:D->ak->Prop}{ds:v0}{S:ak}(h:Jm F ds S):∃d,ds=[d]/\F d S:=by match ds,h with|[d],h=>exact⟨d,rfl,h⟩
theorem rT:∀{ss:sB}{ax:dL},Vals (ss.map V.int) ax->IntsAre ax ss|[],_,.nil=>.nil|z::ss,_,.cons r t=>by obtain⟨tk,rfl⟩:=r;exact .cons z tk<|rT t
theorem rV:∀{us:dL}{zs:j4},StrsAre us zs->∀j,j<zs.length->iF strKind us j=(zs.getD j "").cps.toList|_,_,.cons z t h,0,_=>rfl|_,_,.cons z t h,j+1,hj=>by have:=rV h j (by simpa using hj);unfold iF at this⊢;rw[List.getD_cons_succ,List.getD_cons_succ];exact this
theorem rW:∀{us:dL}{zs:sB},IntsAre us zs->∀j,j<zs.length->iF intK us j=zs.getD j 0|_,_,.cons z t h,0,_=>rfl|_,_,.cons z t h,j+1,hj=>by have:=rW h j (by simpa using hj);unfold iF at this⊢;rw[List.getD_cons_succ,List.getD_cons_succ];exact this
theorem Jn(h:StrsAre us zs):∀u∈us,∃x,strKind.keyOf u=some x:=by induction h with|nil=>(intro u hu;cases hu)|cons z t h ih=>intro u hu;rcases zi.mp hu with rfl|hu;exact{_,rfl};exact ih u hu
theorem Jo(h:IntsAre us zs):∀u∈us,∃x,intK.keyOf u=some x:=by induction h with|nil=>(intro u hu;cases hu)|cons z t h ih=>intro u hu;rcases zi.mp hu with rfl|hu;exact{_,rfl};exact ih u hu
theorem Jp{xs:v0}{f:D->D}{j:Nat}(hj:j<xs.length):(xs.map f)[j]?=some (f<|xs.getD j .au):=by rw[zm,zB,zg hj];rfl
theorem wH{K:Frag}{H:Hp}{ds:v0}{xs:cr}(h:RvAll K H ds xs)(g:Nat->Nat):∀(ns:wp),(∀k∈ns,g k<ds.length)->RvAll K H (ns.map λk=>ds.getD (g k) .au) (ns.map λk=>xs.getD (g k) .au)|[],_=>bu|k::ns,hk=>by have hk0:=hk k zj;obtain⟨v,e,r⟩:=h.get<|zg hk0;refine aT ?_<|wH h g ns λk dw=>hk k<|zf _ dw;show Rv K H (ds.getD (g k) .au) (xs.getD (g k) .au);rw[zB,zg hk0,zB,e];exact r
section
variable{K:Frag}{Y:Cx}{pins:io}{τ:St}{H H2:Hp}{s:Shared}{N:j4}{src:ul}{scope:Scope}{params:Arguments}{body:Expr}{q p:Str}{pm cv lX:Value}{f l:Addr}{te:TD}{b:Bool}{kw:pe}{k:Nat}
theorem AR{σ:SD}{S1:ak}{xs:v0}{fD:D->D}{Q:VK}{R:KD}{E:li}(I:Inv Y (pins++[(f,AL Y q params body scope pm cv lX)]) τ H s)(hK:Y.K=K)(Wt:Y.calm=true)(hr:bX k Y.A)(pE:∃c o vs t,cv=.ref c/\H c=some (.kD o<|.own 0)/\o.data=.fields vs/\vs[1]?=some (.str q t))(CS:bf Y N src scope)(MI:N[0]?=some p)(hp:scope.names.lookup p=some .local)(h0:src[0]?=some none)(MJ:scope.isCoroutine=false)(C5:scope.isGenerator=false)(hb:∀cl pm cv lX u,bindArgs (kla_fn "<lambda>" q params body scope cl pm cv lX) {[u],[]}=pure [(p,u)])(he:∀cv s H,DE K (TF Y N q scope f cv Y.A.in1.in1 s H) body te)(aB:g_ K H σ τ)(hS:Rs K S1 H)(hl:S1 l=some (.lst xs))(HA:xs.length<64)(kd:AO<|xs.map fD)(step:∀x,x∈xs->∀S',Sub S1 S'->∀Qk:KD,(∀S2,Sub S' S2->Qk (fD x) S2)->te ((mr σ src).set 0<|some x) S' Qk Zf)(hR:Cn K H R Q)(fin:∀g S2 p,Rn b (λj=>fD<|xs.getD j .au) xs.length g->Sub S1 S2->S2 p=none->R (.ref p) (S2.set p<|.lst<|(List.range xs.length).map λk=>xs.getD (g k) .au))(Yq:argsOk "sorted" {[.ref l],kw})(Yr:∀x,argsOk "list.sort" {[.ref x],kw})(ht:∀x,Builtin.«list.sort» {[.ref x],kw}=ksk_tree x (.ref f) b): wpAny (model Y.prog Y.w) Y.A (call (.builtin "sorted") [.ref l] kw) (EP Y pins τ Q) E s:=by
 subst hK;obtain⟨vs,hv,rv⟩:=hS.lst hl;have TH:vs.length=xs.length:=rv.len;obtain⟨c,oc,ws,tk,ecv,hc,tN,hcq⟩:=pE;have drop:∀{u:Value}{s':Shared},EP Y (pins++[(f,AL Y q params body scope pm cv lX)]) τ Q u s'->EP Y pins τ Q u s':=λ⟨v,H',J,r,q⟩=>{v,H',{J.ok,J.os,J.bare,J.base,J.loc,J.cell,J.free,J.fT,λp hp=>J.pin p<|by rcases zP.mp hp with z|z;exact ym _ z;exact zJ _<|ym _ z,J.aG,J.len},r,q};have T:Jj Y (pins++[(f,AL Y q params body scope pm cv lX)]) τ Y.A.in1.in1 f vs λi ks H'=>∃S',Sub S1 S'/\Rs Y.K S' H'/\Kp Y.K H H'/\RvAll Y.K H' ((xs.take i).map fD) ks:=by rintro i x u ks s' H' more I' ⟨S',sb,rs,kp,rk⟩ hx ru;have hi:i<xs.length:=(by have:=(ze.mp hx).1;lia);obtain⟨v,e1,r1⟩:=rv.get<|zg hi;rw[hx]at e1;cases e1;have po:=(I'.pin (f,AL Y q params body scope pm cv lX)<|zJ _<|ym _<|zJ _<|by simp).1;have hcr:s'.heap.CodeRec cv q:={c,oc,ws,tk,ecv,(I'.aG c _<|kp.f _ _ _ hc).1,tN,hcq};refine Jd (A:=Y.A.in1.in1) I' CS MI hp h0 I'.ok.frames (I'.ok.hd Wt) (by have:=hr.dp;show Y.A.depth<_;lia) ru po hcr MJ C5 (hb _ _ _ _ _) ((he cv s' H').of<|.none _ rfl) ?_;refine{_,S',λkk S2=>kk=fD xs[i]/\Sub S' S2,Zf,((aB.ts kp).pick src).set 0<|Rv.ts kp _ r1,rs,step _ (List.getElem_mem hi) S' sb _ λS2 h2=>⟨rfl,h2⟩,λkk S2 v2 H2 ⟨e2,K6⟩ TM rs2 Yu=>?_,.f};subst e2;refine{S2,sb.trans K6,rs2,kp.trans Yu,?_};rw[show xs.take (i+1)=xs.take i++[xs[i]] by rw[List.take_add_one,zg hi];rfl,zN];exact(RvAll.ts Yu _ rk).app<|aT TM bu
 have w0:∃S',Sub S1 S'/\Rs Y.K S' H/\Kp Y.K H H/\RvAll Y.K H ((xs.take 0).map fD) []:={S1,.refl _,hS,.refl _,by rw[List.take_zero];exact bu};have NY:iQ Y.K H l vs:=.of hv;rcases kd with⟨zs,ez⟩|⟨zs,ez⟩;have hzl:zs.length=xs.length:=by have:=congrArg List.length ez;rw[zb,zb]at this;exact this.symm
 have ka:∀j,j<xs.length->fD (xs.getD j .au)=.str (zs.getD j ""):=λj hj=>by have e1:=Jp (f:=fD) hj;rw[ez,zm,zg<|by lia]at e1;rw[zB (l:=zs),zg<|by lia];exact(zT e1).symm
 have kv:∀ks us H',(∃S',Sub S1 S'/\Rs Y.K S' H'/\Kp Y.K H H'/\RvAll Y.K H' ((xs.take vs.length).map fD) ks)->Vals ks us->StrsAre us zs:=λks us H' ⟨S',_,_,_,rk⟩ hu=>by rw[TH,yK,ez]at rk;rw[rk.strs]at hu;exact rR hu
 refine yx (u_ (κ:=strKind) (Q:=Q) (b:=b) strKind_oneLt I NY (by lia) Yq Yr ht T w0 (λks us H' w1 v1 l1=>{Jn<|kv ks us H' w1 v1,λn6 n8 rest e=>keyKind_strs<|by rw[<-e];exact kv ks us H' w1 v1}) λH' ks us g D w1 v1 l1 sr hD=>?_) (λu s' z=>drop z) λ_ _ z=>z;have sk:=kv ks us H' w1 v1;obtain⟨S',sb,rs,kp,rk⟩:=w1;rw[TH]at sr⊢;refine(hR.kp kp).new rs hD (λhp=>fin g S' D {sr.lt,sr.inj,λi j i5 hj=>?_} sb hp)<|wH (RvAll.ts kp _ rv) g _ λk hk=>sr.lt k<|zU.mp hk;have h1:=sr.lt i (by lia);have h2:=sr.lt j hj;have:=sr.ord i j i5 hj;rw[rV sk _<|by lia,rV sk _<|by lia]at this;rw[ka _ h1,ka _ h2];rcases this with z|⟨z1,z2⟩;left;cases b with|false=>rw[if_neg zd]at z⊢;show(zs.getD (g i) "").cps.toList<(zs.getD (g j) "").cps.toList;exact zC z|true=>rw[if_pos rfl]at z⊢;show(zs.getD (g j) "").cps.toList<(zs.getD (g i) "").cps.toList;exact zC z
 exact .inr {by rw[aaS z1],z2};have hzl:zs.length=xs.length:=by have:=congrArg List.length ez;rw[zb,zb]at this;exact this.symm
 have ka:∀j,j<xs.length->fD (xs.getD j .au)=.int (zs.getD j 0):=λj hj=>by have e1:=Jp (f:=fD) hj;rw[ez,zm,zg<|by lia]at e1;rw[zB (l:=zs),zg<|by lia];exact(zT e1).symm
 have kv:∀ks us H',(∃S',Sub S1 S'/\Rs Y.K S' H'/\Kp Y.K H H'/\RvAll Y.K H' ((xs.take vs.length).map fD) ks)->Vals ks us->IntsAre us zs:=λks us H' ⟨S',_,_,_,rk⟩ hu=>by rw[TH,yK,ez]at rk;rw[rk.ints]at hu;exact rT hu
 refine yx (u_ (κ:=intK) (Q:=Q) (b:=b) Je I NY (by lia) Yq Yr ht T w0 (λks us H' w1 v1 l1=>{Jo<|kv ks us H' w1 v1,λn6 n8 rest e=>keyKind_ints<|by rw[<-e];exact kv ks us H' w1 v1}) λH' ks us g D w1 v1 l1 sr hD=>?_) (λu s' z=>drop z) λ_ _ z=>z;have sk:=kv ks us H' w1 v1;obtain⟨S',sb,rs,kp,rk⟩:=w1;rw[TH]at sr⊢;refine(hR.kp kp).new rs hD (λhp=>fin g S' D {sr.lt,sr.inj,λi j i5 hj=>?_} sb hp)<|wH (RvAll.ts kp _ rv) g _ λk hk=>sr.lt k<|zU.mp hk;have h1:=sr.lt i (by lia);have h2:=sr.lt j hj;have:=sr.ord i j i5 hj;rw[rW sk _<|by lia,rW sk _<|by lia]at this;rw[ka _ h1,ka _ h2];rcases this with z|⟨z1,z2⟩;left;cases b with|false=>rw[if_neg zd]at z⊢;show zs.getD (g i) 0<zs.getD (g j) 0;exact zC z|true=>rw[if_pos rfl]at z⊢;show zs.getD (g j) 0<zs.getD (g i) 0;exact zC z
 exact .inr {by rw[z1],z2}
end
section
variable{K:Frag}{X:Cx}{N:j4}{src:ul}{scope:Scope}{params:Arguments}{e body:Expr}{q p x:Str}{np pos lp kq kq2 cp:Pos}{ci}{tl te:TD}{k:Nat}{c P:Addr}
theorem Wr.kp{pins:io}{τ:St}{H H':Hp}{u:Value}{s':Shared}{f:Addr}{pm cv lX:Value}{Y:Cx}(L:Wr Y pins τ H H' P q params body scope u s' f pm cv lX){ps:ii}(hP:H P=some (.qB ps)):Kp K H H':=.of λb o e=>by rcases L.same b with z|⟨z,_⟩|⟨z,_⟩;exact .inl (by rw[z];exact e);rw[z,hP]at e;cases e;exact .inr {λ_=>nofun,λ_ _=>nofun};rw[z]at e;cases e
theorem Wr.rs{pins:io}{τ:St}{H H':Hp}{u:Value}{s':Shared}{f:Addr}{pm cv lX:Value}{Y:Cx}{S:ak}(L:Wr Y pins τ H H' P q params body scope u s' f pm cv lX)(hS:Rs K S H)(ht:S P=some (.tab q)):Rs K S H':=λb x hb=>by obtain⟨ps,hP,_⟩:=hS P _ ht;have kp:Kp K H H':=L.kp hP;rcases L.same b with z|⟨rfl,TK,z1,z2⟩|⟨z,_⟩;exact(hS b x hb).keep (λo e=>by rw[z];exact e) kp;rw[ht]at hb;cases hb;exact⟨TK,z1,z2⟩;obtain⟨o,e,_⟩:=(hS b x hb).has;rw[z]at e;cases e
theorem Wu(pE:X.env.code=.ref c)(mk:Mkr K X.mg X.base c P)(hr:bX k X.A)(CS:bf X N src scope)(hl:DE K X e tl)(he:∀f cv s H,DE K (TF X N q scope f cv X.A.in1.in1 s H) body te)(hm:X.mg x=none)(hv:bootBuiltins x=some (.builtin "sorted"))(hq:autoParam (X.env.qual ++ "<lambda>"= q) qQJ)(MI:autoParam (N[0]?=some p) qQJ)(hp:autoParam (scope.names.lookup p=some .local) qQJ)(h0:autoParam (src[0]?=some none) qQJ)(MJ:autoParam (scope.isCoroutine=false) qQJ)(C5:autoParam (scope.isGenerator=false) qQJ)(hb:autoParam (∀cl pm cv lX u,bindArgs (kla_fn "<lambda>" q params body scope cl pm cv lX) {[u],[]}=pure [(p,u)]) qJ5)(Jl:autoParam (defaultsOf params X.env=([],[])) qQJ)(hg:autoParam (Gl X x) qQJ)(hn:autoParam (x≠"__name__") qQZ)(t9:autoParam ((x==("__debug__": Str))=false) qQZ)(hse:autoParam (backTo pos (starEach [e] X.env)=(false,eval e X.env)::backTo pos (starEach [] X.env)) qQJ)(eO:autoParam ((backTo pos<|starEach [e] X.env).any (·.1)=false) qQJ)(ML:autoParam (isPlain e=true) qQJ)(hK:autoParam (X.K=K) qQJ)(hC:autoParam (X.calm=true) qQJ): DE K X (.Call (.Name x np) [e] [{some "key",.Lambda params body scope lp,kq}] pos) (OD false P q src tl te):=by subst hK;refine⟨λy=>?_⟩;rintro pins s τ H Q I ⟨σ,S,R,Z,aB,hS,t,hR,hZ⟩;refine wpAny_Call_Name_kw<|gs I hg hm hv ?_ hn t9;refine callWith_kw (ba (((ac hl an ML).of y) pos pins s τ H (λvs H1=>∃ds S1,Jm (AQ false P q src te σ R) ds S1/\RvAll X.K H1 ds vs/\Rs X.K S1 H1/\Kp X.K H H1) I {σ,S,Jm<|AQ false P q src te σ R,Z,aB,hS,t,λds S1 vs H1 r rv rs k1=>⟨ds,S1,r,rv,rs,k1⟩,hZ}) λus s1 ⟨vs,H1,I1,r1,ds,S1,r,rv,rs,k1⟩=>?_) hse eO;obtain⟨d,rfl,l,xs,fD,rfl,el,HA,et,kd,step,fin⟩:=EN r;obtain⟨v,ZW,rfl,Wv,TM⟩:=rv.cons;cases TM.nil;cases Wv.ref;obtain⟨u,rfl,ru⟩:=vals1 r1;cases ru;obtain⟨ps,hP,aG⟩:=rs P _ et;refine kws_cons<|AN I1 ⟨CS.kind,CS.gy,CS.loc,CS.BY,CS.len,CS.src⟩ pE mk hP aG hq Jl λw s2 H2 f pm cv lX L=>?_;refine kws_nil ?_;cases L.u;have k2:Kp X.K H1 H2:=L.kp hP;exact AR L.inv rfl hC hr L.code ⟨CS.kind,CS.gy,CS.loc,CS.BY,CS.len,CS.src⟩ MI hp h0 MJ C5 hb (he f) ((aB.ts k1).ts k2) (L.rs rs et) el HA kd step (hR.kp<|k1.trans k2) fin (ksk_s1 _ _) (λx=>ksk_l1 _ _) λx=>ksk_t1 _ _
theorem OE(pE:X.env.code=.ref c)(mk:Mkr K X.mg X.base c P)(hr:bX k X.A)(CS:bf X N src scope)(hl:DE K X e tl)(he:∀f cv s H,DE K (TF X N q scope f cv X.A.in1.in1 s H) body te)(hm:X.mg x=none)(hv:bootBuiltins x=some (.builtin "sorted"))(hq:autoParam (X.env.qual ++ "<lambda>"= q) qQJ)(MI:autoParam (N[0]?=some p) qQJ)(hp:autoParam (scope.names.lookup p=some .local) qQJ)(h0:autoParam (src[0]?=some none) qQJ)(MJ:autoParam (scope.isCoroutine=false) qQJ)(C5:autoParam (scope.isGenerator=false) qQJ)(hb:autoParam (∀cl pm cv lX u,bindArgs (kla_fn "<lambda>" q params body scope cl pm cv lX) {[u],[]}=pure [(p,u)]) qJ5)(Jl:autoParam (defaultsOf params X.env=([],[])) qQJ)(hg:autoParam (Gl X x) qQJ)(hn:autoParam (x≠"__name__") qQZ)(t9:autoParam ((x==("__debug__": Str))=false) qQZ)(hse:autoParam (backTo pos (starEach [e] X.env)=(false,eval e X.env)::backTo pos (starEach [] X.env)) qQJ)(eO:autoParam ((backTo pos<|starEach [e] X.env).any (·.1)=false) qQJ)(ML:autoParam (isPlain e=true) qQJ)(hK:autoParam (X.K=K) qQJ)(hC:autoParam (X.calm=true) qQJ): DE K X (.Call (.Name x np) [e] [{some "key",.Lambda params body scope lp,kq},{some "reverse",.Constant (.bool true) ci cp,kq2}] pos) (OD true P q src tl te):=by subst hK;refine⟨λy=>?_⟩;rintro pins s τ H Q I ⟨σ,S,R,Z,aB,hS,t,hR,hZ⟩;refine wpAny_Call_Name_kw<|gs I hg hm hv ?_ hn t9;refine callWith_kw (ba (((ac hl an ML).of y) pos pins s τ H (λvs H1=>∃ds S1,Jm (AQ true P q src te σ R) ds S1/\RvAll X.K H1 ds vs/\Rs X.K S1 H1/\Kp X.K H H1) I {σ,S,Jm<|AQ true P q src te σ R,Z,aB,hS,t,λds S1 vs H1 r rv rs k1=>⟨ds,S1,r,rv,rs,k1⟩,hZ}) λus s1 ⟨vs,H1,I1,r1,ds,S1,r,rv,rs,k1⟩=>?_) hse eO;obtain⟨d,rfl,l,xs,fD,rfl,el,HA,et,kd,step,fin⟩:=EN r;obtain⟨v,ZW,rfl,Wv,TM⟩:=rv.cons;cases TM.nil;cases Wv.ref;obtain⟨u,rfl,ru⟩:=vals1 r1;cases ru;obtain⟨ps,hP,aG⟩:=rs P _ et;refine kws_cons<|AN I1 ⟨CS.kind,CS.gy,CS.loc,CS.BY,CS.len,CS.src⟩ pE mk hP aG hq Jl λw s2 H2 f pm cv lX L=>?_;refine kws_cons<|ba (NT (X:=y.cx) _ s2 τ H2 (λv H'=>v=.bl true/\H'=H2) L.inv ⟨rfl,rfl⟩) ?_;rintro w2 s3 ⟨v2,H3,I3,r3,e3,e4⟩;subst e3 e4;obtain rfl:w2=Value.bool true:=r3;refine kws_nil ?_;cases L.u;have k2:Kp X.K H1 H3:=L.kp hP;exact AR I3 rfl hC hr L.code ⟨CS.kind,CS.gy,CS.loc,CS.BY,CS.len,CS.src⟩ MI hp h0 MJ C5 hb (he f) ((aB.ts k1).ts k2) (L.rs rs et) el HA kd step (hR.kp<|k1.trans k2) fin (ksk_s2 _ _ _) (λx=>ksk_l2 _ _ _) λx=>ksk_t2 _ _ _
end
section
variable{P:Program}{w:World}{K:Frag}{mg:Str->Option Value}{base:Heap}
theorem wB.okC{x qual:Str}{st:Stmt}{f:Addr}{fd:FuncData}{N ps:j4}{k:Nat}{sp:rP}(F:wB K x qual st f fd)(S:fU N ps<|aj st)(len:∀ds S R Z,sp ds S R Z->ds.length=ps.length)(l7:∀(fV:Value)(A:Around)(outer:jp)(s:Shared)(H:Hp)(E:XK)(ds:v0)(S:ak)(R:KD)(Z:KX),fV=fd.code->bX k (A.deeper<|envOfC qual (aj st) s.heap.objs.size f fV)->sp ds S R Z->∃t,Hx K (j_ (fR P w mg) P w K mg base N qual (aj st) f fV A outer s H E) true (bA st) t/\t {nx:=λ_ S'=>Fo S'<|R .au,rt:=λd S'=>Fo S'<|R d} (je N ds) S λ_ C S'=>Fo S'<|Z C):bT P w K mg base (fR P w mg) (k+1) f fd ps (tQ K sp):=by
 obtain⟨oc,od,dV,kV,doc,pm,an,fV,ct,Qd,rfl,lk,tN⟩:=F.ex;have eO:ps.length<=N.length:=by have:=congrArg List.length S.pre;rw[yp]at this;lia
 refine N2 lk tN S (by rintro vs H Q E ⟨ds,S',R,Z,v,_,h,_⟩;exact by rw[v.len];exact len _ _ _ _ h) λA outer s H vs Q E hr ⟨ds,S',R,Z,v,hS,h,hR,hZ⟩=>?_;obtain⟨t,ht,q⟩:=l7 fV A outer s H E ds S' R Z rfl hr h;have L:cW (j_ (fR P w mg) P w K mg base N qual (aj st) f fV A outer s H E) E:=u0;let y:Ev (j_ (fR P w mg) P w K mg base N qual (aj st) f fV A outer s H E) true:={_,(j_ (fR P w mg) P w K mg base N qual (aj st) f fV A outer s H E).xe,λ_=>E,{λp2 τ H1 s1 e s' I h=>N9 L p2 τ H1 s1 e s' I h,λ_ p2 τ H1 s1 h' a cls args I hx he=>pB L I hx he,λ_=>PassesOwn.leaving}};refine{L2.Tl K (λ_=>E) t,ht.of y,je N ds,S',_,λ_ C S'=>Fo S'<|Z C,?_,hS,q,{by rintro σ S1 τ H1 ⟨S2,sb,r⟩ a b c;exact(hR.kp c).now (b.sub sb) r gA,by rintro d S1 v H1 ⟨S2,sb,r⟩ a b c;exact hR _ _ _ _ r a (b.sub sb) c,λ_ _ _ _ z=>z.elim,λ_ _ _ _ z=>z.elim},by rintro σ τ C S1 H1 ⟨S2,sb,r⟩ a b c;exact hZ C S2 H1 r (b.sub sb) c};unfold je start;refine(rJ v).app ?_;rw[v.len];exact rH _ _<|by rw[List.length_replicate]
end
structure AS(ts:im)(H:Hp):Prop where
 all:∀b,H b=none\/(∃o xs,H b=some (.kD o<|.lst xs))\/(b∈ts/\H b=some (.qB #[]))
 tab:∀b∈ts,H b=some (.qB #[])
theorem GF{P:Program}{w:World}{K:Frag}{mg mb:Str->Option Value}{CX:Cq}{k:Nat}{fa a:Addr}{fd:FuncData}{x:Str}{sp:Sp}{aU:Shared}{vs:dL}{ns:sB}{ts:im}(KX:K.In aU.heap)(Rk:aU.heap.Ns mainGlobals mg)(hb:aU.heap.Ns builtinsNs mb)(hbb:∀x:Str,x≠"__name__"->mb x=bootBuiltins x)(aa3:aU.heap.NoLimit)(hbm:Bm mg aU.heap)(hg:aU.gens=#[])(hT:∀b∈ts,aU.heap.get? b=some (tabObj #[]))(hC:∀b∈ts,isCodeTable aU.heap b)(hN:∀b∈ts,K.lookup b=none)(ha:aU.heap.get? a=some {cls:=.type "list",data:=.seq vs.toArray})(hi:IntsAre vs ns)(hl:ns.length<=sizeLine)(hr:bX k callerA)(F:∀base:Heap,Bm mg base->K.In base->base.Ns mainGlobals mg->bT P w K mg base CX k fa fd [x] sp)(Ww:∀(s:Shared) (u:Value),BindsTo s fd {[u],[]} [(x,u)])(Tc:∀H:Hp,AS ts H->iQ K H a (ns.map V.int)->sp [.ref a] H (λv _=>v=.bl true) λ_ _ _=>False)(hCX:∀H e s',CX [] H aU (λ_ _ _=>False) e s'->False): codeAny (model P w) callerA (.call (.ref fa) {[.ref a],[]}) (λr s'=>r=.ok (.ret<|.bool true)/\OldK aU.heap s'.heap/\s'.os=aU.os/\AllBare s'.gens) aU:=by
 have rv:=uX hi;have aa5:=hi.length;have Yi:a∉ts:=λz=>by rw[hT a z]at ha;cases ha
 have core:∀H:Hp,AS ts H->iQ K H a (ns.map V.int)->kX P w H aU.heap->(∀b,H b≠none->b=a\/b∈ts)->(H a≠none->K.lookup a=none)->codeAny (model P w) callerA (.call (.ref fa) {[.ref a],[]}) (λr s'=>r=.ok (.ret<|.bool true)/\OldK aU.heap s'.heap/\s'.os=aU.os/\AllBare s'.gens) aU:=by intro H hO hS aG hA hK;have wI:∀{b:Addr}{o:Obj},aU.heap.get? b=some o->H b=none->(tX aU.heap H).get? b=some o:=λe n=>HI e n;have LI:∀{b:Addr}{o:Obj}{es:Array DictEntry}{ep:Nat},aU.heap.get? b=some o->o.data=.dict es ep->H b=none:=λ{b o es ep} e d=>(by cases q:H b with|none=>rfl|some u=>rcases hA b (by rw[q];simp) with e'|e';subst e';rw[ha]at e;cases e;have d':Data.seq vs.toArray _=Data.dict es ep:=d;cases d';rw[hT b e']at e;cases e;cases d);have Yv:∀{b:Addr}{m:Str->Option Value},aU.heap.Ns b m->(tX aU.heap H).Ns b m:=λ{b m} ⟨o,es,ep,e,d,r⟩=>{o,es,ep,wI e<|LI e d,d,r};have hKb:K.In (tX aU.heap H):=λb o e=>wI (KX b o e) (by cases q:H b with|none=>rfl|some u=>rcases hA b (by rw[q];simp) with e'|e';subst e';rw[hK<|by rw[q];simp]at e;cases e;rw[hN b e']at e;cases e);have hM:Mod K mg (tX aU.heap H):={hKb,Yv Rk,{mb,Yv hb,hbb},by obtain⟨mc,h1,h2⟩:=aa3;exact{mc,Yv h1,h2}};have e0:Ab P w K mg (tX aU.heap H) callerA [] aU H:={rfl,hM,λb o e=>Ll e,Nat.le_of_eq<|FG _ _,trivial,λb hb=>absurd (show b∈([]:im) from hb)<|by simp,aG,.of_eq hg};have hBm:Bm mg (tX aU.heap H):=(by obtain⟨bm,ob,b1,b2,b3,b4,b5,b6⟩:=hbm;refine{bm,ob,b1,b2,wI b3 ?_,b4,b5,b6};cases q:H bm with|none=>rfl|some u=>rcases hA bm (by rw[q];simp) with e'|e';rw[e',ha]at b3;cases b3;cases b6;rw[hT bm e']at b3;cases b3;cases b4);refine yW ((F _ hBm hKb<|Yv Rk).run callerA [] aU H {[.ref a],[]} [.ref a] [.ref a] _ _ hr e0 (Ww aU<|.ref a) (.cons rfl .nil)<|Tc H hO hS) λr s' h=>?_;cases r with|error e=>exact(hCX H e s' h).elim|ok fl=>cases fl with|next=>exact False.elim h|brk=>exact False.elim h|cont=>exact False.elim h|ret u=>obtain⟨v,H',os,bare,un,Wx,r',q⟩:=h;have q':v=.bl true:=q;subst q';obtain rfl:u=Value.bool true:=r';refine{rfl,{λb o e=>?_,λb o e=>un.there b o e<|by simp},os,bare};rcases hO.all b with z|⟨ob,xs,z⟩|⟨z1,z⟩;exact .inl<|un.keep b o e z (by intro z;exact absurd (show b∈([]:im) from z)<|by simp) (by simp);have z2:=un.kY b ob _ z;obtain⟨e1,_⟩:=aG b _ z;obtain⟨e2,_⟩:=Wx b _ z2;rw[e]at e1;cases e1;exact .inl e2;obtain⟨more,z2⟩:=un.kZ b _ z;have e2:=hT b z1;rw[e]at e2;cases e2;exact .inr<|.inl {hC b z1,rfl,#[],more,rfl,by have:=Wx b _ z2;exact this}
 have tabs:∀(H:Hp),(∀b,b∈ts->H b=some (.qB #[]))->∀b u,b∈ts->H b=some u->bp P w H aU.heap b u:=λH h b u hb e=>by rw[h b hb]at e;cases e;exact hT b hb
 cases hk:K.lookup a with|some o=>(have e:=KX a o hk;rw[ha]at e;cases e;refine core (λb=>if b∈ts then some (.qB #[]) else none) {λb=>?_,λb hb=>if_pos hb} (.inr {_,vs.toArray,_,hk,rfl,rfl,rfl,by rw[zo,aa5];exact hl,by simpa using rv}) (λb u z=>?_) (λb z=>?_) λz=>absurd (if_neg Yi) z;by_cases hb:b∈ts;exact .inr<|.inr {hb,if_pos hb};exact .inl<|if_neg hb;by_cases hb:b∈ts;exact tabs _ (λb hb=>if_pos hb) b u hb z;have z':=(if_neg hb).symm.trans z;cases z';by_cases hb:b∈ts;exact .inr hb;exact absurd (if_neg hb) z)|none=>refine core (λb=>if b=a then some (.kD {cls:=.type "list",data:=.seq vs.toArray}<|.lst<|ns.map V.int) else if b∈ts then some (.qB #[]) else none) {λb=>?_,λb hb=>?_} (.inl<|.inr {{cls:=.type "list",data:=.seq vs.toArray},if_pos rfl}) (λb u z=>?_) (λb z=>?_) λ_=>hk;by_cases hb:b=a;exact .inr<|.inl {_,_,if_pos hb};by_cases K9:b∈ts;exact .inr<|.inr {K9,(if_neg hb).trans<|if_pos K9};exact .inl<|(if_neg hb).trans<|if_neg K9;have:b≠a:=λz=>Yi<|z ▸ hb;exact(if_neg this).trans<|if_pos hb;by_cases hb:b=a;have z':=(if_pos hb).symm.trans z;cases z';subst hb;exact{ha,by rw[zb];exact hl,vs,_,rv,ha};have z':=(if_neg hb).symm.trans z;by_cases K9:b∈ts;have z2:=(if_pos K9).symm.trans z';cases z2;exact hT b K9;have z2:=(if_neg K9).symm.trans z';cases z2;by_cases hb:b=a;exact .inl hb;by_cases K9:b∈ts;exact .inr K9;exact absurd ((if_neg hb).trans<|if_neg K9) z
theorem EO:∀{K:Frag},b∉K.map (·.1)->K.lookup b=none|[],_=>rfl| (a,o)::K,h=>by rw[zt,zi,not_or]at h;rw[zX,show(b==a)=false from beq_false_of_ne h.1];exact EO h.2
theorem MM{K:Params->Frag}{as:im}{e:∀P,as=(K P).map (·.1)}{ts:im}{w:World}{h:Heap}(_:(PySem.W.kmHook K as e ts).says w h)(d:∀b∈ts,b∉as):∀b∈ts,(K w.params).lookup b=none:=λb hb=>EO<|by rw[<-e];exact d b hb
theorem Jq{l:PySem.W.OpenLaw}{n k:Nat}{q:Program}{loose:j4}{XP:(Str->Option Value)->Heap->Prop}{YP:World->Heap->Prop}{d:DefRec}{K:Params->Frag}{CX:Cq}{x:Str}{ts:im}(hn:l.most=some n)(NZ:n<=sizeLine)(ZJ:d.params.defaults=[])(hr:bX k callerA)(hY:∀(w:World)(h:Heap),YP w h->(K w.params).In h)(hT:∀(w:World)(h:Heap),YP w h->∀b∈ts,h.get? b=some (tabObj #[]))(hN:∀(w:World)(h:Heap),YP w h->∀b∈ts,(K w.params).lookup b=none)(F:∀(w:World)(mg:Str->Option Value)(fa:Addr)(h:Heap),(K w.params).In h->h.Ns mainGlobals mg->mg d.name=some (.ref fa)->∃(fd:FuncData)(sp:Sp),(∀b∈ts,∃c,codeHdIn (K w.params) c b=true)/\(∀(s:Shared)(u:Value),BindsTo s fd {[u],[]} [(x,u)])/\(∀base:Heap,Bm mg base->(K w.params).In base->base.Ns mainGlobals mg->bT l.prog w (K w.params) mg base CX k fa fd [x] sp)/\∀(H:Hp)(a:Addr)(ns:sB),ns.length<=n->AS ts H->iQ (K w.params) H a (ns.map V.int)->sp [.ref a] H (λv _=>v=.bl true) λ_ _ _=>False)(hCX:∀(H:Hp)(s:Shared)(e:Value)(s':Shared),CX [] H s (λ_ _ _=>False) e s'->False): PySem.W.WalkO q loose XP YP l.row.toRowW d [] (λf vs=>PySem.call f vs):=by refine Att.Aj hn ZJ λw dm aU mg mb fa o pm cd doc a vs ns G Y ho hd tN Qz QA hints hlen hg=>?_;have KX:=hY w _ Y;obtain⟨fd,sp,hC,hb,hF,Tc⟩:=F w mg fa _ KX G.T.g Qz;have hT':=hT w _ Y;exact GF KX G.T.g G.T.b G.T.builtins G.T.nolimit G.T.bmain hg hT' (λb z=>by obtain⟨c,hc⟩:=hC b z;exact((codeHd_of_K KX hc).tab<|hT' b z).isCodeTable) (hN w _ Y) QA hints (zI hlen NZ) hr hF hb (λH hO hS=>Tc H a ns hlen hO hS) λH e s'=>hCX H aU e s'
namespace Rt
theorem own:Manifest.owners.lookup (String.ofList ['d','e','s','r','e','v','e','r'].reverse)=some Manifest.sig_reversed:=by kernel_rfl
theorem my:Slot "reversed" "__next__" "reversed.__next__":=.of (owner:="reversed") (n:="__next__") (by rw[typeLookup_type,builtinLookup_eq_fast];kernel_rfl) (by trivial) (by trivial) (by trivial) (by first|exact .inl (by trivial)|exact .inr (by trivial))<|by rw[isSubtype_type];kernel_rfl
theorem ER:entryFor table "reversed.__next__"= some Builtin.«reversed.__next__»:=entryFor_of_tree<|by kernel_rfl
theorem ES(a:Value):argsOk "reversed.__next__" {[a],[]}:=by unfold argsOk;rw[signature?_of (id:="reversed.__next__") (n:=['_','_','t','x','e','n','_','_']) (o:=['d','e','s','r','e','v','e','r']) (by kernel_rfl) own];kernel_rfl
theorem ET:Slot "reversed" "__iter__" "reversed.__iter__":=.of (owner:="reversed") (n:="__iter__") (by rw[typeLookup_type,builtinLookup_eq_fast];kernel_rfl) (by trivial) (by trivial) (by trivial) (by first|exact .inl (by trivial)|exact .inr (by trivial))<|by rw[isSubtype_type];kernel_rfl
theorem MN(a:Value):argsOk "reversed.__iter__" {[a],[]}:=by unfold argsOk;rw[signature?_of (id:="reversed.__iter__") (n:=['_','_','r','e','t','i','_','_']) (o:=['d','e','s','r','e','v','e','r']) (by kernel_rfl) own];kernel_rfl
theorem MO:entryFor table "reversed.__iter__"= some Builtin.«dict_keyiterator.__iter__»:=entryFor_alias (id':="dict_keyiterator.__iter__") (by kernel_rfl) (by first|rfl|decide +kernel|(unfold String.splitOn;simp +decide [String.splitOnAux])) (by trivial)<|by kernel_rfl
theorem MP:Slot "reversed" "__init__" "object.__init__":=.of (owner:="object") (n:="__init__") (by rw[typeLookup_type,builtinLookup_eq_fast];kernel_rfl) (by trivial) (by trivial) (by trivial) (by first|exact .inl (by trivial)|exact .inr (by trivial))<|by rw[isSubtype_type];kernel_rfl
theorem called:TypeCalled "reversed" "reversed.__new__" "object.__init__":={by trivial,by trivial,{_,_,F.mro_reversed},F.made_reversed,by trivial,by rw[isSubtype_type];kernel_rfl,MP}
theorem Ro:typeLookup (.type "tuple") "__reversed__"= pure none:=by rw[typeLookup_type,builtinLookup_eq_fast];kernel_rfl
theorem EU:typeLookup (.type "tuple") "__getitem__"= pure (some<|.builtin "tuple.__getitem__"):=by rw[typeLookup_type,builtinLookup_eq_fast];kernel_rfl
theorem MQ:isSubtype (.type "tuple") (.type "dict")=pure false:=by rw[isSubtype_type];kernel_rfl
end Rt
noncomputable def AU(l:Addr)(i:Int):Obj:={cls:=.type "reversed",data:=.fields #[.ref l,rawInt i]}
def rX(h:Heap)(a l:Addr)(i:Int):Prop:=∃o,h.get? a=some o/\o.cls=.type "reversed"/\o.data=.fields #[.ref l,rawInt i]
section
variable{prog:Program}{w:World}{A:Around}{E:li}{s:Shared}
theorem rX.typeIs(x:rX s.heap a l i):s.TypeIs (.ref a) "reversed":=by obtain⟨o,ho,hc,_⟩:=x;exact⟨o,ho,hc⟩
theorem rX.keep(x:rX h a l i)(e:∀o,h.get? a=some o->h'.get? a=some o):rX h' a l i:=by obtain⟨o,ho,r⟩:=x;exact{o,e _ ho,r}
theorem Rp(hl:IsTup s.heap l items)(hz:items.size<=sizeLine)(h:Q₁ (.ref s.heap.objs.size) {s with heap:=s.heap.push<|AU l<|(items.size:Int)-1,toks:=s.toks+1+1}): codeAny (model prog w) A (.call (.builtin "reversed.__new__") {[.type "reversed",.ref l],[]}) (wants Q₁ E) s:=by
 refine codeAny_of_tree ?_;show wpAny _ A.in1 (do checkBuiltinCall "reversed.__new__" {[.type "reversed",.ref l],[]};again (.builtin "reversed.__new__" {[.type "reversed",.ref l],[]})) _ _ s;refine zc<|yZ (F.newCall_reversed_1 _)<|zy {plainId_quiet F.plain_reversed_new _,yS F.entry_reversed_new ?_};rw[Around.under_plainId F.plain_reversed_new _];unfold Builtin.«reversed.__new__»;refine zc<|yZ (newClass_reversed _) ?_;refine zc<|yZ (a:=()) (by first|rfl|kernel_rfl)<|zc<|yZ (a:=()) (by first|rfl|kernel_rfl) ?_;refine zc<|wpAny_specialOf hl.typeIs Rt.Ro ?_;refine zc<|zc<|wpAny_isInstance hl.typeIs Rt.MQ<|zc<|wpAny_specialOf hl.typeIs Rt.EU ?_;show wpAny _ _ (if (["tuple.__getitem__","str.__getitem__","bytes.__getitem__","bytearray.__getitem__","memoryview.__getitem__","numpy.ndarray.__getitem__","sqlite3.Row.__getitem__"]:List String).contains "tuple.__getitem__"= true then pure true else _) _ _ _;rw[if_pos<|by trivial];refine zy ?_
 show wpAny _ _ (do
     let n_ <-call (Value.builtin "len") [Value.ref l]
     let __x <-asInt? n_
     match __x with
      |some n=>do
       let n_ <-Builtin.SmallTypes.newRecord (Value.type "reversed") [Value.ref l,rawInt (n-1)]
       ret n_
      |x=>unsupported "internal:reversed.__new__") _ _ _
 refine zc<|len_tuple hl (by rw[yf]at hz;lia) ?_;refine zc<|yZ (a:=some ((items.size:Nat):Int)) rfl ?_;exact zc (m:=newObj (.type "reversed")<|.fields #[.ref l,rawInt<|((items.size:Nat):Int)-1])<|yG<|zy h
theorem MR(hl:IsTup s.heap l items)(hz:items.size<=sizeLine)(h:Q (.ref s.heap.objs.size) {s with heap:=s.heap.push<|AU l<|(items.size:Int)-1,toks:=s.toks+1+1}): wpAny (model prog w) A (call (.type "reversed") [.ref l]) Q E s:=by refine callType_codes Rt.called (F.typeCall_reversed_1 _) F.entry_object_init (Q₁:=λobj aU=>aU.TypeIs obj "reversed"/\Q obj aU) (Rp hl hz {{_,zk _ rfl,rfl},h}) λobj aU h₁=>?_;exact{h₁.1,F.args_object_init_2 obj _,object_init_meets Rt.called.init.lookup Rt.called.made (by decide) prog w A.in1 _ aU ⟨h₁.1,rfl,h₁.2⟩}
theorem sqx(h:k<n):seqIndex? ((k:Nat):Int) n=some k:=by have e:(if ((k:Nat):Int)<0 then ((k:Nat):Int)+(n:Int) else ((k:Nat):Int))=((k:Nat):Int):=if_neg (by lia);unfold seqIndex?;dsimp only;rw[e,if_pos<|by simp;lia];rfl
theorem MS{it l:Addr}{i:Nat}{items:ii}{x:Value}{Q:Option Value->Shared->Prop}(hit:rX s.heap it l (i:Int))(hl:IsTup s.heap l items)(hz:items.size<=sizeLine)(hx:items[i]?=some x)(hQ:∀h' tk,rX h' it l ((i:Int)-1)->Heap.SameBut it s.heap h'->Q (some x) {s with heap:=h',toks:=tk}):wpAny (model prog w) A (pyNext<|.ref it) Q E s:=by obtain⟨o,ho,hc,hd⟩:=id hit;have hi:i<items.size:=(Array.getElem?_eq_some_iff.mp hx).1;unfold pyNext;refine zc<|wpAny_attempt<|wpAny_callSpecial?_slot (name:=Str.ofString "__next__") hit.typeIs Rt.my<|yP Rt.my hit.typeIs Rt.ER ?_<|Rt.ES _;unfold Builtin.«reversed.__next__»;refine zc<|yZ (a:=(Value.ref it,[])) rfl<|zc<|yg ho hd (x:=.ref l) rfl<|zc<|yg ho hd (x:=rawInt (i:Int)) rfl ?_;show wpAny _ _ (if (i:Int)<0 then _ else _) _ _ s;rw[if_neg<|by lia];show wpAny _ _ (specialOf (.ref l) "__getitem__" >>=_) _ _ s;refine zc<|wpAny_specialOf hl.typeIs Rt.EU ?_;show wpAny _ _ (mkInt (i:Int) >>=_) _ _ s;refine zc<|wpAny_mkInt ?_;refine zc<|wpAny_attempt<|getItem_tuple (j:=i) hl (by lia) (by rw[yf]at hz;lia) (sqx hi) hx ?_;refine zc<|yg ho hd (x:=rawInt (i:Int)) rfl ?_;show wpAny _ _ (setField (.ref it) 1 (rawInt<|(i:Int)-1) >>=λ_=>ret x) _ _ _;refine zc<|yU ho hd (by simp)<|zy {x,rfl,zy<|hQ _ _ ?_<|yH ..};exact{_,yz _ ho<|Obj.isFreed_of_fields<|yD hd _,(Obj.cls_mapFields ..).trans hc,by rw[yD hd];simp}
theorem Rq(hh:A.handled=none)(hit:rX s.heap it l (-1))(hQ:∀h',Heap.ExtBut it s.heap h'->Q none {s with heap:=h'}):wpAny (model prog w) A (pyNext<|.ref it) Q E s:=by
 obtain⟨o,ho,hc,hd⟩:=id hit;unfold pyNext;refine zc<|wpAny_attempt<|wpAny_callSpecial?_slot (name:=Str.ofString "__next__") hit.typeIs Rt.my<|yP Rt.my hit.typeIs Rt.ER ?_<|Rt.ES _;unfold Builtin.«reversed.__next__»;refine zc<|yZ (a:=(Value.ref it,[])) rfl<|zc<|yg ho hd (x:=.ref l) rfl<|zc<|yg ho hd (x:=rawInt (-1)) rfl ?_;show wpAny _ _ (if (-1:Int)<0 then _ else _) _ _ s;rw[if_pos<|by decide];refine zc<|yY ?_;have Yw:=yD hd (·.setIfInBounds 1 (rawInt (-1)));have TJ:=yz (Obj.mapFields (·.setIfInBounds 1 (rawInt (-1)))) ho<|Obj.isFreed_of_fields Yw;refine zc (m:=setField (.ref it) 1 (rawInt (-1)) >>=λ_=>setField (.ref it) 0 .none)<|zc<|yU ho hd (by simp)<|yU TJ Yw (by simp) ?_;have eb:Heap.ExtBut it s.heap ((s.heap.update it (Obj.mapFields (·.setIfInBounds 1 (rawInt (-1))))).update it (Obj.mapFields (·.setIfInBounds 0 Value.none))):=λb u hb e=>by rw[yt _ _<|Ne.symm hb,yt _ _<|Ne.symm hb];exact e
 refine zc ?_;show wpAny _ _ (newExc (.type "StopIteration") [] >>=_) _ _ _;refine zc ?_;simp only[newExc,newTuple];refine zc<|yG ?_ (by size_fits);refine zc (m:=firstArgMember _ _)<|yZ (a:=Value.none) (by first|rfl|(simp only[firstArgMember];rfl)) ?_;refine yG ?_ (by size_fits);simp only[raiseNew];refine zc<|wpAny_handled ?_;first|rw[show A.in1.handled=none from hh]|rw[hh]
 refine zc<|zy<|wpAny_throw ?_;refine zc<|wpAny_isInstance (T:="StopIteration") (b:=true) {_,zk _ rfl,rfl} isSubtype_stop ?_;exact zy<|hQ _<|(eb.push _).push _
theorem EV(hit:rX s.heap it l i)(h:Q (.ref it) s):wpAny (model prog w) A (pyIter<|.ref it) Q E s:=by refine wpAny_pyIter_slot hit.typeIs Rt.ET<|yP Rt.ET hit.typeIs Rt.MO ?_<|Rt.MN _;show wpAny _ _ (ret<|.ref it) _ _ s;exact zy !{"reversed",_,hit.typeIs,Rt.my.lookup,h}
end
end L2
namespace L2
open PySem PySem.Spec PyProof.Rows
def Wy(K:Frag)(a:Addr)(n:Nat):It:={λi H=>∃xs x,gu K H a xs/\xs.length=n/\i<n/\xs[n-1-i]?=some x,λi H x H'=>H'=H/\∀xs,gu K H a xs->xs.length=n->xs[n-1-i]?=some x,λi _=>n<=i}
theorem MT{P:Program}{w:World}{K:Frag}{tg:Expr}(a it:Addr)(n:Nat):Turn P w K tg (Wy K a n) [it] it (λi h=>i<=n/\rX h it a ((n:Int)-1-(i:Int))) where
 mem:=by simp
 obj:=λi h st b hb=>by
  have e:b=it:=by simpa using hb
  subst e
  obtain⟨_,o,e,c,d⟩:=st
  exact{o,e,λv z=>by rw[d]at z;cases z}
 keep:=λi h h' st k=>{st.1,st.2.keep λo e=>k it (by simp) o e}
 item:=by
  intro X hP hw hK hc i pins s σ H E I hf st hg
  subst hP hw hK
  obtain⟨xs,x,hq,hn,hi,hx⟩:=hg
  obtain⟨ax,rv,p,hz⟩:=I.tuple hq
  obtain⟨u,hu,ru⟩:=rv.get hx
  obtain⟨f0,f1,f2,f3,f4,f5⟩:=hf it<|by simp
  have e:(n:Int)-1-(i:Int)=((n-1-i:Nat):Int):=by lia
  have hit:=st.2
  rw[e]at hit
  refine MS hit p (by rw[zo,<-rv.length];exact hz) (x:=u) (by simpa using hu) λh' tk eG sb=>?_
  have I1:Inv X pins σ H {s with heap:=h',toks:=tk}:=I.turned (t':=tk) (λb o hb e=>(sb.2 b hb).trans e) f0 f1 f3 f4 f5
  obtain⟨o,e1,c,d⟩:=id eG
  refine{u,rfl,uN (s:={s with heap:=h',toks:=tk}) e1 c d (by decide) {x,H,I1,ru,{rfl,λys hy _=>by rw[I.nO hy hq];exact hx},{hi,?_},λb hb=>(hf b hb).1}}
  have e2:(n:Int)-1-((i+1:Nat):Int)=((n-1-i:Nat):Int)-1:=by lia
  rw[e2];exact eG
 done:=by
  intro X hP hw hK hc i pins s σ H E I hf st hg
  subst hP hw hK
  obtain⟨f0,f1,f2,f3,f4,f5⟩:=hf it<|by simp
  have hg:n<=i:=hg
  have e:(n:Int)-1-(i:Int) = -1:=by have:=st.1;lia
  have hit:=st.2
  rw[e]at hit
  exact Rq (I.ok.hd hc) hit λh' eb=>{rfl,I.turned (t':=s.toks) (λb o hb e=>eb b o hb e) f0 f1 f3 f4 f5}
 self:=λ_ _ _ _ _ st h=>EV st.2 h
def iRt(K:Frag)(ta:TA):TI:=λσ H R=>ta σ H λvs H1=>∃a xs,vs=[.ref a]/\gu K H1 a xs/\R (Wy K a xs.length) H1
theorem WA{X:Cx}{tg a:Expr}{ta:TA}{p pos:Pos}(hg:Gl X "reversed")(hm:X.mg "reversed"= none)(ha:PA X [a] ta)(hs:starEach [a] X.env=[(false,eval a X.env)]):PI X tg (.Call (.Name "reversed" p) [a] [] pos) (iRt X.K ta):=by
 intro pins s σ H R I h;refine Call_<|gs I hg hm boot_reversed<|PyProof.Rows.callWith_type1 (ba (ha pos pins s σ H _ I h) λus s1 ⟨vs,H1,I1,r1,q1⟩=>?_) hs rfl;obtain⟨l,xs,e,q,hR⟩:=q1;subst e;obtain⟨u,rfl,ru⟩:=vals1 r1;cases ru;obtain⟨ax,rv,pl,hz⟩:=I1.tuple q;have hn:ax.toArray.size=xs.length:=by rw[zo,rv.length]
 refine MR pl (by rw[hn];exact hz) ?_;rw[hn];have st:rX (s1.heap.push<|AU l<|(xs.length:Int)-1) s1.heap.objs.size l ((xs.length:Int)-1-((0:Nat):Int)):={_,zk _ rfl,rfl,by show Data.fields _=Data.fields _;simp};have I2:Inv X pins σ H1 {s1 with heap:=s1.heap.push<|AU l<|(xs.length:Int)-1,toks:=s1.toks+1+1}:=I1.kept (t':=s1.toks+1+1) λb o e=>za _ e;refine EV (s:={s1 with heap:=s1.heap.push<|AU l<|(xs.length:Int)-1,toks:=s1.toks+1+1}) st {_,_,_,_,H1,rfl,I2,MT l s1.heap.objs.size xs.length,{zY _,st},λb hb=>?_,hR};have hb:b=s1.heap.objs.size:=by simpa using hb
 subst hb;exact I1.qf (zr _)<|I1.aG.fresh<|zr _
section
variable{K:Frag}{X:Cx}{tg:Expr}
def aa6(t:iX):AF:=λσ S R Z=>t σ S (λds S1=>∃es,ds=[.tup es]/\R {es.reverse,λ_=>True} S1) Z
theorem irt{t:iX}(hm:X.mg "reversed"= none)(ha:DA K X [a] t)(hg:autoParam (Gl X "reversed") qQJ)(hs:autoParam (starEach [a] X.env=[(false,eval a X.env)]) qQJ)(hK:autoParam (X.K=K) qQJ):DI K X tg (.Call (.Name "reversed" p) [a] [] pos) (aa6 t):=by subst hK;exact⟨λy=>(WA (X:=y.cx) hg hm (ha.of y) hs).mono <| by rintro τ H R ⟨σ,S,RI,Z,aB,hS,q,hR,hZ⟩;exact{σ,S,_,Z,aB,hS,q,by rintro ds S1 vs H1 ⟨es,e,r1⟩ v1 s1 k1;subst e;obtain⟨v,rfl,r⟩:=v1.one;obtain⟨a,xs,rfl,hq,t⟩:=r.tup;refine{a,xs,rfl,.inl<|.of hq,hR _ S1 _ H1 r1 (λi S2 H2 k2 s2 Yg=>?_) s1 k1};have Tx:gu X.K H2 a xs:=.inl<|.of<|k2.t _ _ hq;have t2:=RvAll.ts k2 _ t;have hl:xs.length=es.length:=t.len;refine{λd hd=>?_,λh=>by rw[yI]at h;show xs.length<=i;lia};have hi:i<es.length:=(by have:=(ze.mp hd).1;rwa [yI]at this);rw[List.getElem?_reverse hi]at hd;obtain⟨v,e1,r⟩:=t2.get hd;rw[hl];refine{⟨xs,v,Tx,hl,hi,e1⟩,λx' H' ⟨e2,e3⟩=>?_};subst e2;have:=e3 xs Tx hl;rw[e1]at this;cases this;exact{r,.refl _,s2},hZ}⟩
end
section
variable{K:Frag}{X:Cx}{pos:Pos}
def Rr(tc:lV)(tb:mq):mq:=λDe σ S Z=>∃P:Nat->SD->ak->Prop,(∃m,P m σ S)/\∀m σ S,P m σ S->tc σ S (λb S1=>if b=true then tb {De with nx:=λaA S'=>∃m',m'<m/\P m' aA S',ct:=λaA S'=>∃m',m'<m/\P m' aA S',bk:=De.nx} σ S1 Z else De.nx σ S1) (Z σ)
theorem swh(hc:DT K X c tc)(hb:Hx K X true body tb):DS K X true (.While c body [] pos) (Rr tc tb):=
 ⟨λy=>(HN (X:=y.cx) (y.ok.loop rfl) (hc.of y)<|hb.of y).mono <| by rintro D τ H ⟨σ,S,De,Z,aB,hS,⟨P,⟨m,p0⟩,turn⟩,hD,hZ⟩;exact
  ⟨λm Ts H'=>∃σ S,g_ K H' σ Ts/\Rs K S H'/\P m σ S/\Kp K H H',⟨m,σ,S,aB,hS,p0,.refl _⟩,by rintro m τ1 H1 ⟨y0,S1,a1,s1,p1,k1⟩;exact⟨y0,S1,_,Z y0,a1,s1,turn m y0 S1 p1,λb S2 H2 r2 s2 k2=>by
   cases b with
   |true =>
    rw[if_pos rfl]at r2⊢
    refine{λτ3 H3=>∃σ S,g_ K H3 σ τ3/\Rs K S H3/\(∃m',m'<m/\P m' σ S)/\Kp K H H3,by rintro τ3 H3 ⟨fP,S3,a3,s3,⟨m',hm,p3⟩,k3⟩;exact⟨m',hm,fP,S3,a3,s3,p3,k3⟩,?_}
    have kk:=k1.trans k2
    exact{y0,S2,_,Z,a1.ts k2,s2,r2,{λQ7 S5 τ5 H5 r5 a5 s5 k5=>{Q7,S5,a5,s5,r5,kk.trans k5},hD.rt.kp kk,hD.nx.kp kk,λQ7 S5 τ5 H5 r5 a5 s5 k5=>{Q7,S5,a5,s5,r5,kk.trans k5}},hZ.kp kk}
   |false =>
    rw[if_neg zd]at r2⊢
    exact hD.nx _ _ _ _ r2 (a1.ts k2) s2<|k1.trans k2,(hZ.kp k1).at a1⟩⟩⟩
def aa8(i:Nat)(te:TD):mq:=λDe σ S Z=>∃a:Int,σ[i]?=some (some<|.int a)/\te σ S (λd S1=>∃b:Int,d=.int b/\De.nx (σ.set i<|some<|.int<|a+b) S1) (Z σ)
theorem sau(hN:X.N.Nodup)(he:DE K X e te)(hi:autoParam (X.N[i]?=some x) qQJ)(hx:autoParam (Loc X.env.scope x) qJQ)(hf:autoParam (X.fn x=true\/X.env.scope.names.lookup x=some .local) qJQ): DS K X b (.AugAssign (.Name x pos') .Add e pos) (aa8 i te):=⟨λy=>(PM (X:=y.cx) hN hi hx (he.of y) PN hf).mono <| by rintro D τ H ⟨σ,S,De,Z,aB,hS,⟨a,ha,t⟩,hD,hZ⟩;obtain⟨v,e1,r⟩:=aB.get ha;exact{v,e1,σ,S,_,Z σ,aB,hS,t,by rintro d S1 u H1 ⟨c,e2,n⟩ rv s1 k1;subst e2;exact{a,c,r.int,rv.int,hD.nx _ _ _ _ n ((aB.ts k1).set i<|aN _) s1 k1},hZ.at aB}⟩
noncomputable def vD:V->D|.int i=>.int i|.str z=>.str z|.bl b=>.bl b|_=>.au
noncomputable def C7:V->Bool|.int _=>true|.str _=>true|_=>false
def WB(kvs:ge)(ty:TD):TD:=λσ S R Z=>ty σ S (λy S1=>∃z,y=.str z/\R ((kvs.lookup z).elim .au vD) S1) Z
theorem mgk{w:World}{ad:Addr}{kvs:ge}{o e:Expr}{apos aP:Pos}{ty:TD}(d:Hv w K ad kvs)(hf:(kvs.all λp=>C7 p.2)=true)(ho:∀Y:Cx,Y.env=X.env->Y.mg=X.mg->PE Y o (tC<|.ref ad))(he:DE K X e ty)(hw:autoParam (X.w=w) qQJ)(hK:autoParam (X.K=K) qQJ)(m:autoParam (M1 X o "get" apos e aP) qQ2): DE K X (.Call (.Attribute o "get" apos) [e] [] aP) (WB kvs ty):=⟨λy=>(IJ (X:=y.cx) hw hK (ho y.cx rfl rfl) (he.of y) ⟨m.base,m.Ep,m.line,m.trees⟩).mono <| by rintro τ H Q ⟨σ,S,R,Z,aB,hS,q,hR,hZ⟩;exact⟨ad,kvs,rfl,d,σ,S,_,Z,aB,hS,q,by
 rintro yv S1 v H1 ⟨z,e1,r⟩ rv s1 k1;subst e1;refine{z,rv.str,hR _ _ _ _ r ?_ s1 k1};have fl:∀v,kvs.lookup z=some v->C7 v=true:=λv hv=>by have:=yh hv;exact zR.mp hf _ this
 cases q:kvs.lookup z with|none=>exact gA|some v=>have:=fl v q;cases v with|int i=>exact aN i|str i=>exact cu i|_=>(cases this),hZ⟩⟩
def WC:R2:=λx y H Q=>∃a z n,x=.ref a/\y=.int n/\H a=some (.lst [z])/\0<=n/\n<=1000/\∀p,H p=none->Q (.ref p) (upd H p<|.lst<|List.replicate n.toNat z)
theorem MU:gv X (binaryOp .Mult) WC:=by intro pins s σ H x y v u Q I rx ry h;obtain⟨a,z,n,rfl,rfl,ha,h1,h2,q⟩:=h;cases rx;obtain⟨t',rfl⟩:=ry;obtain⟨z2,nS,k,r2,hl,ho⟩:=I.Ag ha;obtain⟨w,rfl,l6⟩:=r2.one;refine wpAny_binaryOp_repeat_ref (T:="list") (U:="int") (by decide) {_,ho,rfl} (λs'=>typeIs_int s' n t') noFill_list_mul F.fills_int_mul F.slot_int_rmul repeat_list F.slot_int_index.lookup<|call_meets F.slot_int_rmul (typeIs_int s n t') F.entry_int_rmul (F.args_int_rmul_2 _ _) (int___rmul___int_list n t' a [w].toArray k) {ho,rfl,{_,ho,rfl},?_};refine call_meets F.slot_list_mul {_,ho,rfl} F.entry_list_mul (F.args_list_mul_2 _ _) (AutoListH.list___mul___list_int_3 a [w].toArray k n t' (by simp[Builtin.List.listFitsIndex];lia) (by simp;lia)<|by simp[Builtin.List.listTooLong,sizeLine];lia) {ho,?_};rw[if_neg<|by simp,show(#[]:ii)=([]:dL).toArray from rfl,show[w].toArray=#[w] from rfl,Eu,List.nil_append];refine{.ref s.heap.objs.size,_,I.laid (t':=s.toks) (λ_ _ q=>za _ q) (zr _) ?_,rfl,q _ I.fresh};exact(show bp X.prog X.w _ _ _ (.lst<|List.replicate n.toNat z) from{by rw[List.length_replicate];exact Z7<|by lia,_,_,Ay l6 _,zk _ rfl})
end
section
variable{K:Frag}
def WD:tO:=λx y S R=>∃a d n,x=.ref a/\y=.int n/\S a=some (.lst [d])/\0<=n/\n<=1000/\∀p,S p=none->R (.ref p) (S.set p<|.lst<|List.replicate n.toNat d)
theorem Ru:nY K (binaryOp .Mult) WD:=by rintro X hK hu pins s σ H x y v u Q I rx ry ⟨d,e,S,R,r1,r2,hS,⟨a,d0,n,e1,e2,e3,h1,h2,h⟩,hR⟩;subst e1 e2;obtain⟨zs,e4,t⟩:=hS.lst e3;obtain⟨z,rfl,rz⟩:=t.one;exact MU pins s σ H _ _ v u Q I rx ry {a,z,n,r1.ref,r2.int,e4,h1,h2,λp hp=>hR.new hS hp (h p)<|I0 rz _}
end
theorem gK(hm:X.mg x=some (.ref a))(hg:autoParam (Gl X x) qQJ)(hd:autoParam ((x==("__debug__": Str))=false) qQZ):∀Y:Cx,Y.env=X.env->Y.mg=X.mg->PE Y (.Name x pos) (tC<|.ref a):=λY e1 e2=>Ee (X:=Y) (u:=.ref a) (show Y.env.kindOf x=_ by rw[e1];exact hg) (by rw[e2];exact hm) rfl hd
structure Fb(K:Frag)(x q:Str)(st:Stmt)(ps:j4)(f:Addr)(d:FuncData):Prop where
 F:wB K x q st f d
 b:Binds K d ps []
structure OF(K:Frag)(mg:Str->Option Value)(x:Str)(st:Stmt)(ps:j4)(f:Addr)(d:FuncData):Prop extends Fb K x x st ps f d where
 k:keepIn K (.ref f)=true
 m:mg x=some (.ref f)
structure OG(K:Frag)(c:Addr)(x q:Str)(st:Stmt)(ps:j4)(f:Addr)(d:FuncData):Prop extends Fb K x q st ps f d where
 e:Meth K c x f
abbrev Ok(P:Program)(w:World)(base:Heap){K:Frag}{mg:Str->Option Value}{x:Str}{st:Stmt}{ps:List Str}{f:Addr}{d:FuncData}(_:OF K mg x st ps f d)(k:Nat)(sp:rP):Prop:=bT P w K mg base (fR P w mg) k f d ps<|tQ K sp
abbrev lY(P:Program)(w:World)(mg:Str->Option Value)(base:Heap){K:Frag}{c:Addr}{x q:Str}{st:Stmt}{ps:List Str}{f:Addr}{d:FuncData}(_:OG K c x q st ps f d)(k:Nat)(sp:rP):Prop:=bT P w K mg base (fR P w mg) k f d ps<|tQ K sp
theorem fsc{N P:j4}{sc:Scope}(a:autoParam (sc.kind=.function/\sc.isCoroutine=false/\sc.isGenerator=false/\N.take P.length=P) qQ2)(b:autoParam (N.Nodup/\(∀x∈P,sc.names.lookup x=some .local\/sc.names.lookup x=some .cell)/\∀y∈sc.names,y.2≠.free) qQ6):fU N P sc:=⟨a.1,a.2.1,a.2.2.1,b.1,a.2.2.2,b.2.1,b.2.2⟩
section
variable{R:Prop}{K:Frag}{h:Heap}{mg:Str->Option Value}{od an:pi}{sl:sK}{oc dV kV dc pm cd ct:Value}{f da:Addr}{Rw:pi}{dn:Nat}{Rx:sK}{c:Addr}{tk:Tok}{d:FuncData}
theorem fn1(X:K.In h)(G:h.Ns mainGlobals mg)(x:Str)(st:Stmt)(ps:j4)(a:nsIn K mainGlobals x=some (some<|.ref f))(l:K.lookup f=some {oc,od,.func<|fnOf x x (bL st) (bA st) (aj st) dV kV dc pm an cd ct,sl})(e:codeIn K cd x=true)(k:keepIn K (.ref f)=true)(b:∀us:dL,us.length=ps.length->bindArgs (fnOf x x (bL st) (bA st) (aj st) dV kV dc pm an cd ct) {us,[]}=pure (ps.zip us))(g:∀d,OF K mg x st ps f d->R):R:=g _ {{{_,_,_,_,_,_,_,_,_,_,rfl,l,e},.all b},k,mg_of X G a}
theorem fnl(X:K.In h)(G:h.Ns mainGlobals mg)(x:Str)(st:Stmt)(ps:j4)(a:nsIn K mainGlobals x=some (some<|.ref f))(l:K.lookup f=some {oc,od,.func<|fnOf x x (bL st) (bA st) (aj st) dV kV dc pm an cd ct,sl})(e:codeIn K cd x=true)(k:keepIn K (.ref f)=true)(b:∀us:dL,us.length=ps.length->bindArgs (fnOf x x (bL st) (bA st) (aj st) dV kV dc pm an cd ct) {us,[]}=pure (ps.zip us))(g:∀d,d.code=cd->(∀(s:Shared)(us:dL),us.length=ps.length->BindsTo s d {us,[]} (ps.zip us))->OF K mg x st ps f d->R):R:=g _ rfl (λs us h=>.of_eq<|b us h) {{{_,_,_,_,_,_,_,_,_,_,rfl,l,e},.all b},k,mg_of X G a}
theorem fm1(C:qG K c)(x q:Str)(st:Stmt)(ps:j4)(a:findIn K (.ref c) x=some (some<|.ref f))(i:isFn K (.ref f)=true)(l:K.lookup f=some {oc,od,.func<|fnOf x q (bL st) (bA st) (aj st) dV kV dc pm an cd ct,sl})(e:codeIn K cd q=true)(k:keepIn K (.ref f)=true)(b:∀us:dL,us.length=ps.length->bindArgs (fnOf x q (bL st) (bA st) (aj st) dV kV dc pm an cd ct) {us,[]}=pure (ps.zip us))(g:∀d,OG K c x q st ps f d->R):R:=g _ {{{_,_,_,_,_,_,_,_,_,_,rfl,l,e},.all b},a,i,k}
theorem fmd(C:qG K c)(x q:Str)(st:Stmt)(ps:j4)(a:findIn K (.ref c) x=some (some<|.ref f))(i:isFn K (.ref f)=true)(l:K.lookup f=some {oc,od,.func<|fnOf x q (bL st) (bA st) (aj st) (.ref da) kV dc pm an cd ct,sl})(t:K.lookup da=some {.type "tuple",Rw,.seq #[.none] dn,Rx})(e:codeIn K cd q=true)(k:keepIn K (.ref f)=true)(b:∀(s:Shared) (us:dL),s.heap.get? da=some {.type "tuple",Rw,.seq #[.none] dn,Rx}->us.length=ps.length->BindsTo s (fnOf x q (bL st) (bA st) (aj st) (.ref da) kV dc pm an cd ct) {us,[]} (ps.zip us))(b2:∀(s:Shared) (us:dL),s.heap.get? da=some {.type "tuple",Rw,.seq #[.none] dn,Rx}->us.length+1=ps.length->BindsTo s (fnOf x q (bL st) (bA st) (aj st) (.ref da) kV dc pm an cd ct) {us,[]} (ps.zip<|us++[.none]))(g:∀d,OG K c x q st ps f d->Binds K d ps [.none]->R):R:=g _ {{{_,_,_,_,_,_,_,_,_,_,rfl,l,e},λs us hK hl=>by rw[List.append_nil]at hl⊢;exact b s us (hK _ _ t) hl},a,i,k} λs us hK hl=>b2 s us (hK _ _ t)<|by simpa using hl
theorem y6(X:K.In h)(G:h.Ns mainGlobals mg)(x:Str)(a:nsIn K mainGlobals x=some none)(g:mg x=none->R):R:=g<|PySem.W.mg_none_of X G a
theorem MV(X:K.In h)(G:h.Ns mainGlobals mg)(x:Str)(i:Int)(a:nsIn K mainGlobals x=some (some<|.int i tk))(g:mg x=some (.int i tk)->R):R:=g<|mg_of X G a
theorem WE(X:K.In h)(G:h.Ns mainGlobals mg)(x:Str)(a:nsIn K mainGlobals x=some (some<|.ref c))(l:K.lookup c=some o)(g:mg x=some (.ref c)->K.lookup c=some o->R):R:=g (mg_of X G a) l
theorem gvc(X:K.In h)(G:h.Ns mainGlobals mg)(x:Str)(a:nsIn K mainGlobals x=some (some<|.ref c))(pg:plainGet K c Str.empty=true)(hd:hasDictIn K c=true)(po:plainOver K c=true)(sa:findIn K (.ref c) "__setattr__"= some (some<|.builtin "object.__setattr__"))(ms:makesIn K c=true)(kc:keepIn K (.ref c)=true)(g:mg x=some (.ref c)->qG K c->makesIn K c=true->keepIn K (.ref c)=true->R):R:=g (mg_of X G a) ⟨pg,hd,po,sa⟩ ms kc
theorem MW(C:qG K c)(x:Str)(a:findIn K (.ref c) x=some none)(g:findIn K (.ref c) x=some none->R):R:=g a
theorem Ry{P:Addr}(l:K.lookup c=some o)(e:codeHdIn [(c,o)] c P=true):codeHdIn K c P=true:=by unfold codeHdIn at e⊢;rw[l];rw[show([(c,o)]:Frag).lookup c=some o by simp]at e;exact e
theorem gvm{P:Addr}(X:K.In h)(e:d.code=.ref c)(o:K.lookup c=some {oC,od,.fields vC,sl})(q:vC[11]?=some (.ref P))(hh:codeHdIn [(c,{oC,od,.fields vC,sl})] c P=true)(g:codeHdIn K c P=true->R):R:=g<|Ry o hh
end
section
variable{Q:List Value->Prop}
theorem Yx(h:Q [])(us:dL)(e:us.length=0):Q us:=by cases us with|nil=>exact h|cons a us=>cases e
theorem GG(h:∀a us,us.length=n->Q (a::us))(us:dL)(e:us.length=n+1):Q us:=by cases us with|nil=>(cases e)|cons a us=>exact h a us<|Nat.succ.inj e
theorem TN(h:∀a,Q [a]):∀us:dL,us.length=1->Q us:=GG λa=>Yx<|h a
theorem ln2(h:∀a b,Q [a,b]):∀us:dL,us.length=2->Q us:=GG λa=>TN<|h a
theorem TQ(h:∀a b c,Q [a,b,c]):∀us:dL,us.length=3->Q us:=GG λa=>ln2<|h a
theorem Yy(h:∀a b c d,Q [a,b,c,d]):∀us:dL,us.length=4->Q us:=GG λa=>TQ<|h a
theorem Yz(h:∀a b c d e,Q [a,b,c,d,e]):∀us:dL,us.length=5->Q us:=GG λa=>Yy<|h a
theorem ln6(h:∀a b c d e f,Q [a,b,c,d,e,f]):∀us:dL,us.length=6->Q us:=GG λa=>Yz<|h a
theorem aba(h:∀a,Q [a])(us:dL)(e:us.length+1=2):Q us:=TN h us<|Nat.succ.inj e
theorem abb(h:∀a b,Q [a,b])(us:dL)(e:us.length+1=3):Q us:=ln2 h us<|Nat.succ.inj e
end
section
variable{K:Frag}{X:Cx}{x:Str}{st:Stmt}{ps:j4}{f:Addr}{fd:FuncData}{sp:rP}{e:Expr}{es:mt}{p pos:Pos}
theorem aQ{t:iX}(T:OF K X.mg x st ps f fd)(F:bT X.prog X.w K X.mg X.base (fR X.prog X.w X.mg) k f fd ps<|tQ K sp)(hr:bX k' X.A)(ha:DA K X (e::es) t)(hle:autoParam (k<=k') qJK)(hg:autoParam (Gl X x) qQJ)(t9:autoParam ((x==("__debug__": Str))=false) qQZ)(he:autoParam (starEach (e::es) X.env=(false,eval e X.env)::starEach es X.env) qQJ)(eO:autoParam ((backTo pos<|starEach es X.env).any (·.1)=false) qQJ)(hK:autoParam (X.K=K) qQJ): DE K X (.Call (.Name x p) (e::es) [] pos) (Oi sp [] t):=cf (F.mono hle) hr T.m T.k T.b d0 ha hg t9 he eO hK
end
theorem bX.u(r:bX k A):A.units+64<cLine:=r.units
section
variable{X:Cx}
def abc(K:Frag)(neg:Bool):R2:=λx y H Q=>∃p xs d b,y=.ref p/\(iQ K H p xs\/gu K H p xs)/\Dt K H d x/\d.canLay0=true/\(∀y∈xs,∃e,Dt K H e y/\e.canLay0=true/\(e.depth<=62\/d.depth<=62)/\PyData.eqv e d=b)/\Q (.bl<|if neg then !(b && !xs.isEmpty) else b && !xs.isEmpty) H
theorem AV:∀{xs:cr}{us:dL},Vals xs us->y∈us->∃x∈xs,RelV x y|_,_,.nil,h=>(by cases h)|x::xs,u::us,.cons r t,h=>by rcases zi.mp h with rfl|h;exact⟨x,zj,r⟩;obtain⟨z,h1,h2⟩:=AV t h;exact{z,zf _ h1,h2}
theorem vd(b:Bool):∀l:dL,l.any (λ_=>b)=(b && !l.isEmpty)|[]=>by simp|x::l=>by cases b<;>simp
theorem rY:∀{xs:cr}{us:dL},Vals xs us->us.isEmpty=xs.isEmpty|_,_,.nil=>rfl|_,_,.cons _ _=>rfl
theorem Jr(hu:X.A.units+64<cLine)(I:Inv X pins σ H s)(rx:RelV x v)(hd:Dt X.K H d x)(cd:d.canLay0=true)(h:∀y∈xs,∃e,Dt X.K H e y/\e.canLay0=true/\(e.depth<=62\/d.depth<=62)/\PyData.eqv e d=b)(r:Vals xs us):∀u∈us,SeqAt.EqAt X.A.in1 s u v b:=by intro u hm;obtain⟨y,hy,ry⟩:=AV r hm;obtain⟨e,he,ce,dp,q⟩:=h y hy;obtain⟨as,ra⟩:=I.reads e he ry;obtain⟨bs,rb⟩:=I.reads d hd rx;rw[<-q];exact SeqAt.eqAt_reads e d _ s u v as bs ra rb ce cd<|by rw[Around.in1_units];rcases dp with dp|dp<;>lia
theorem MX(hu:X.A.units+64<cLine):gv X (compareOp .In) (abc X.K false):=by intro pins s σ H x y v u Q I rx ry h;obtain⟨p,xs,d,b,rfl,hq,hd,cd,hi,q⟩:=h;cases ry;rcases hq with hq|hq;obtain⟨ax,r,pl,hz⟩:=I.list hq;refine SeqAt.in_listAt (λ_=>b) pl.isList (λw hw=>Jr hu I rx hd cd hi r w<|by simpa using hw) {.bl _,H,I,rfl,?_};rw[show ax.toArray.any (λ_=>b)=ax.any (λ_=>b) by simp,vd,rY r];exact q;obtain⟨ax,r,pl,hz⟩:=I.tuple hq;refine SeqAt.in_tupleAt (λ_=>b) pl (λw hw=>Jr hu I rx hd cd hi r w<|by simpa using hw) {.bl _,H,I,rfl,?_};rw[show ax.toArray.any (λ_=>b)=ax.any (λ_=>b) by simp,vd,rY r];exact q
end
section
variable{K:Frag}
def Alike(S:ak)(x:D)(ds:v0)(b:Bool):Prop:=∃p,Dl S x p/\p.canLay0=true/\∀d∈ds,∃q,Dl S d q/\q.canLay0=true/\(q.depth<=62\/p.depth<=62)/\PyData.eqv q p=b
def inA(neg:Bool):tO:=λx y S R=>inD neg x y S R\/∃ds b,(y=.tup ds\/y=.kt ds\/∃a,y=.ref a/\S a=some (.lst ds))/\Alike S x ds b/\R (.bl<|if neg then !(b && !ds.isEmpty) else b && !ds.isEmpty) S
theorem ve:∀{ds:v0}{xs:cr},RvAll K H ds xs->y∈xs->∃d∈ds,Rv K H d y|[],xs,h,hy=>(by rw[h.nil]at hy;cases hy)|d::ds,xs,h,hy=>by obtain⟨z,zs,rfl,h1,h2⟩:=h.cons;rcases zi.mp hy with rfl|hy;exact⟨d,zj,h1⟩;obtain⟨e,h3,h4⟩:=ve h2 hy;exact{e,zf _ h3,h4}
theorem jf:∀{ds:v0}{xs:cr},RvAll K H ds xs->xs.isEmpty=ds.isEmpty|[],xs,h=>by rw[h.nil];rfl|d::ds,xs,h=>by obtain⟨z,zs,rfl,h1,h2⟩:=h.cons;rfl
theorem Rz{H:Hp}{S:ak}{x:D}{v:V}{e:D}{u:V}{ds:v0}{b:Bool}(hS:Rs K S H)(r1:Rv K H x v)(r2:Rv K H e u)(h:e=.tup ds\/e=.kt ds\/∃a,e=.ref a/\S a=some (.lst ds))(al:Alike S x ds b): ∃p xs d,u=.ref p/\(iQ K H p xs\/gu K H p xs)/\Dt K H d v/\d.canLay0=true/\(∀y∈xs,∃e,Dt K H e y/\e.canLay0=true/\(e.depth<=62\/d.depth<=62)/\PyData.eqv e d=b)/\xs.isEmpty=ds.isEmpty:=by
 obtain⟨p,h1,h2,h3⟩:=al;have it:∀{xs:cr},RvAll K H ds xs->∀y∈xs,∃e,Dt K H e y/\e.canLay0=true/\(e.depth<=62\/p.depth<=62)/\PyData.eqv e p=b:=λt y hy=>by obtain⟨d,hd,rd⟩:=ve t hy;obtain⟨q,q1,q2,q3,q4⟩:=h3 d hd;exact{q,q1.dt hS rd,q2,q3,q4}
 rcases h with rfl|rfl|⟨a,rfl,ha⟩;obtain⟨a,xs,rfl,q,t⟩:=r2.tup;exact{a,xs,p,rfl,.inr<|.of q,h1.dt hS r1,h2,it t,jf t};obtain⟨a,xs,rfl,q,t⟩:=r2.kt;exact{a,xs,p,rfl,.inr<|.inr q,h1.dt hS r1,h2,it t,jf t};cases r2.ref;obtain⟨xs,e1,t⟩:=hS.lst ha;exact{a,xs,p,rfl,.inl<|.of e1,h1.dt hS r1,h2,it t,jf t}
theorem OH:nY K (compareOp .In) (inA false):=by rintro X hK hu pins s σ H x y v u Q I rx ry ⟨d,e,S,R,r1,r2,hS,h,hR⟩;rcases h with h|⟨ds,b,hy,al,h⟩;exact rN X hK hu pins s σ H x y v u Q I rx ry ⟨d,e,S,R,r1,r2,hS,h,hR⟩;subst hK;obtain⟨p,xs,q,rfl,a1,a2,a3,a4,a5⟩:=Rz hS r1 r2 hy al;refine MX hu pins s σ H _ _ v u Q I rx ry {p,xs,q,b,rfl,a1,a2,a3,a4,?_};rw[a5];exact hR.now hS h<|b_ _
end
end L2
namespace L2
open PySem PySem.Spec PyProof.Rows PySem.SeqAt
def isStrOf(z:Str):Value->Bool|.str y _=>y==z|_=>false
end L2
namespace L2
open PySem PySem.Spec PyProof.Rows
section
variable{K:Frag}
theorem RvAll.thr(h:RvAll K H [a,b,c] vs):∃x y z,vs=[x,y,z]/\Rv K H a x/\Rv K H b y/\Rv K H c z:=by obtain⟨x,vs1,rfl,h1,h⟩:=h.cons;obtain⟨y,vs2,rfl,h2,h⟩:=h.cons;obtain⟨z,vs3,rfl,h3,h⟩:=h.cons;rw[h.nil];exact⟨x,y,z,rfl,h1,h2,h3⟩
theorem Js:bootBuiltins "max"= some (.builtin "max"):=by with_unfolding_all rfl
noncomputable def jg:List D->List D->List D->List D|x::xs,y::ys,z::zs=>.tup [x,y,z]::jg xs ys zs|_,_,_=>[]
theorem oa:∀{xs ys zs:v0},xs.length=ys.length->xs.length=zs.length->(jg xs ys zs).length=xs.length|[],_,_,_,_=>by rw[jg.eq_def]|x::xs,y::ys,z::zs,h,k=>congrArg Nat.succ<|oa (Nat.succ.inj h)<|Nat.succ.inj k
theorem og:∀{xs ys zs:v0}{i:Nat}{d:D},(jg xs ys zs)[i]?=some d->∃x y z,xs[i]?=some x/\ys[i]?=some y/\zs[i]?=some z/\d=.tup [x,y,z]|x::xs,y::ys,z::zs,0,d,h=>{x,y,z,rfl,rfl,rfl,(zT h).symm}|x::xs,y::ys,z::zs,i+1,d,h=>og (i:=i) h|[],_,_,i,d,h=>by rw[jg.eq_def]at h;simp at h|_::_,[],_,i,d,h=>by rw[jg.eq_def]at h;simp at h|_::_,_::_,[],i,d,h=>by rw[jg.eq_def]at h;simp at h
def RA(t:iX):AF:=λσ S R Z=>t σ S (λds S1=>∃xs ys zs,ds=[.tup xs,.tup ys,.tup zs]/\xs.length=ys.length/\xs.length=zs.length/\R {jg xs ys zs,λ_=>True} S1) Z
end
mutual
inductive Dr(S:ak):D->PyData->Prop where
 |au:Dr S .au .none
 |bl (b:Bool):Dr S (.bl b) (.bool b)
 |int (i:Int):Dr S (.int i) (.int i)
 |str (z:Str):Dr S (.str z) (.str z)
 |tup {ds:v0}{ps:u8} : Jt S ds ps->Dr S (.tup ds) (.tuple ps)
 |ref {a:Addr}{ds:v0}{ps:u8} : S a=some (.lst ds)->Jt S ds ps->Dr S (.ref a) (.list ps)
inductive Jt(S:ak):List D->List PyData->Prop where
 |nil:Jt S [] []
 |cons {d:D}{ds:v0}{p:PyData}{ps:u8} : Dr S d p->Jt S ds ps->Jt S (d::ds) (p::ps)
end
section
variable{K:Frag}{H:Hp}{S:ak}
mutual
theorem Dr.dt(hS:Rs K S H):Dr S d p->Rv K H d v->Dt K H p v|.au,r=>by simp only[Dt];exact r.au|.bl b,r=>by simp only[Dt];exact r.bl|.int b,r=>by simp only[Dt];exact r.int|.str b,r=>by simp only[Dt];exact r.str|.tup h,r=>(by obtain⟨a,xs,rfl,q,t⟩:=r.tup;simp only[Dt];exact{a,xs,rfl,.of q,Jt.dt hS h t})|.ref e h,r=>by obtain⟨xs,e1,t⟩:=hS.lst e;rw[r.ref];simp only[Dt];exact{_,xs,rfl,.of e1,Jt.dt hS h t}
theorem Jt.dt(hS:Rs K S H){ds:List D}{ps:u8}{vs:List V} : Jt S ds ps->RvAll K H ds vs->DtAll K H ps vs|.nil,r=>by rw[r.nil];simp only[DtAll]|.cons h t,r=>by obtain⟨y,ys,rfl,r1,r2⟩:=r.cons;simp only[DtAll];exact{y,ys,rfl,Dr.dt hS h r1,Jt.dt hS t r2}
end
end
def eqR(neg:Bool):tO:=λx y S R=>∃p q,Dr S x p/\Dr S y q/\p.canLay0=true/\q.canLay0=true/\(p.depth<=64\/q.depth<=64)/\R (.bl<|if neg then !PyData.eqv p q else PyData.eqv p q) S
section
variable{K:Frag}
theorem WG:nY K (compareOp .NotEq) (eqR true):=by rintro X hK hu pins s σ H x y v u Q I rx ry ⟨d,e,S,R,r1,r2,hS,⟨p,q,h1,h2,c1,c2,dp,h⟩,hR⟩;subst hK;exact IC hu pins s σ H x y v u Q I rx ry {p,q,h1.dt hS r1,h2.dt hS r2,c1,c2,dp,hR.now hS h<|b_ _}
end
theorem Ju(h1:Dr S x p)(h2:Dr S y p)(c:p.canLay0=true)(d:p.depth<=64)(q:R (.bl<|!neg) S):eqR neg x y S R:={p,p,h1,h2,c,c,.inl d,by rw[show(if neg then !PyData.eqv p p else PyData.eqv p p)=!neg by rw[SeqAt.eqv_refl p c];cases neg<;>rfl];exact q}
def k_:Stmt->Str|.FunctionDef n _ _ _ _ _ _ _ _ _=>n|_=>Str.empty
def uk(s:Stmt):j4:=(bL s).args.map λa=>a.arg
def GH(K:Frag)(mg:Str->Option Value)(top:Nat->Stmt)(f:Nat->Addr)(d:Nat->FuncData)(l:wp):Prop:=∀i∈l,OF K mg (k_<|top i) (top i) (uk<|top i) (f i)<|d i
def C8(K:Frag)(c:Addr)(q:Str)(cl:Stmt)(f:Nat->Addr)(d:Nat->FuncData)(l:wp):Prop:=∀i∈l,OG K c (k_<|inClass cl i) (q++k_ (inClass cl i)) (inClass cl i) (uk<|inClass cl i) (f i)<|d i
section
variable{K:Frag}{h:Heap}{mg:Str->Option Value}{od an:pi}{sl:sK}{oc dV kV dc pm cd ct:Value}{x:Addr}{top:Nat->Stmt}{l:wp}{c:Addr}{q:Str}{cl:Stmt}
theorem af(X:K.In h)(G:h.Ns mainGlobals mg)(i:Nat)(ni:i∉l)(a:nsIn K mainGlobals (k_<|top i)=some (some<|.ref x))(o:K.lookup x=some {oc,od,.func<|fnOf (k_<|top i) (k_<|top i) (bL<|top i) (bA<|top i) (aj<|top i) dV kV dc pm an cd ct,sl})(e:codeIn K cd (k_<|top i)=true)(k:keepIn K (.ref x)=true)(b:∀us:dL,us.length=(uk<|top i).length->bindArgs (fnOf (k_<|top i) (k_<|top i) (bL<|top i) (bA<|top i) (aj<|top i) dV kV dc pm an cd ct) {us,[]}=pure ((uk<|top i).zip us))(g:∃f d,GH K mg top f d l):∃f d,GH K mg top f d (i::l):=by refine fn1 X G _ _ _ a o e k b λd0 F=>?_;obtain⟨f,d,A⟩:=g;refine{λj=>if j=i then x else f j,λj=>if j=i then d0 else d j,λj hj=>?_};by_cases z:j=i;subst z;dsimp only;rw[if_pos rfl,if_pos rfl];exact F;dsimp only;rw[if_neg z,if_neg z];exact A j<|(zi.mp hj).resolve_left z
theorem af0:∃f d,GH K mg top f d []:={λ_=>0,λ_=>fnOf Str.empty Str.empty (bL<|.Pass {0,0,0,0}) [] (aj<|.Pass {0,0,0,0}) .none .none .none .none none .none .none,λ_ h=>nomatch h}
theorem afx{R:Prop}(_:K.In h)(_:h.Ns mainGlobals mg)(g:∃f d,GH K mg top f d l)(r:∀f d,GH K mg top f d l->R):R:=by obtain⟨f,d,A⟩:=g;exact r f d A
theorem amx{R:Prop}(_:qG K c)(g:∃f d,C8 K c q cl f d l)(r:∀f d,C8 K c q cl f d l->R):R:=by obtain⟨f,d,A⟩:=g;exact r f d A
theorem am(C:qG K c)(i:Nat)(ni:i∉l)(a:findIn K (.ref c) (k_<|inClass cl i)=some (some<|.ref x))(w:isFn K (.ref x)=true)(o:K.lookup x=some {oc,od,.func<|fnOf (k_<|inClass cl i) (q++k_ (inClass cl i)) (bL<|inClass cl i) (bA<|inClass cl i) (aj<|inClass cl i) dV kV dc pm an cd ct,sl})(e:codeIn K cd (q++k_ (inClass cl i))=true)(k:keepIn K (.ref x)=true)(b:∀us:dL,us.length=(uk<|inClass cl i).length->bindArgs (fnOf (k_<|inClass cl i) (q++k_ (inClass cl i)) (bL<|inClass cl i) (bA<|inClass cl i) (aj<|inClass cl i) dV kV dc pm an cd ct) {us,[]}=pure ((uk<|inClass cl i).zip us))(g:∃f d,C8 K c q cl f d l):∃f d,C8 K c q cl f d (i::l):=by refine fm1 C _ _ _ _ a w o e k b λd0 F=>?_;obtain⟨f,d,A⟩:=g;refine{λj=>if j=i then x else f j,λj=>if j=i then d0 else d j,λj hj=>?_};by_cases z:j=i;subst z;dsimp only;rw[if_pos rfl,if_pos rfl];exact F;dsimp only;rw[if_neg z,if_neg z];exact A j<|(zi.mp hj).resolve_left z
theorem am0:∃f d,C8 K c q cl f d []:={λ_=>0,λ_=>fnOf Str.empty Str.empty (bL<|.Pass {0,0,0,0}) [] (aj<|.Pass {0,0,0,0}) .none .none .none .none none .none .none,λ_ h=>nomatch h}
end
section
variable{K:Frag}{X:Cx}{x q:Str}{st:Stmt}{ps:j4}{C f:Addr}{fd:FuncData}{sp:rP}{o e:Expr}{es:mt}{apos pos:Pos}{k k':Nat}
theorem lZ{t:iX}(he:DE K X o ta)(c:qG K C)(T:OG K C x q st ps f fd)(F:bT X.prog X.w K X.mg X.base (fR X.prog X.w X.mg) k f fd ps<|tQ K sp)(hr:bX k' X.A)(ha:DA K X (e::es) t)(hle:autoParam (k<=k') qJK)
  (z_:autoParam (starEach (e::es) X.env=(false,eval e X.env)::starEach es X.env) qQJ) (eO:autoParam ((backTo pos<|starEach es X.env).any (·.1)=false) qQJ)
  (ht:autoParam (eval (.Call (.Attribute o x apos) (e::es) [] pos) X.env=(do
   let ov <-eval o X.env
   standAt apos.atName
   let (f,first) <-holding [ov] (getMethod ov x pl)
   callWith pos f first (backTo pos<|starEach (e::es) X.env) (backToKw pos<|keywordEach [] X.env))) qQJ) (hK:autoParam (X.K=K) qQJ):
  DE K X (.Call (.Attribute o x apos) (e::es) [] pos) (ED C x sp [] ta t):=cme he c T.e (F.mono hle) hr T.b d0 ha z_ eO ht hK
theorem fS(he:DE K X o ta)(c:qG K C)(T:OG K C x q st ps f fd)(F:bT X.prog X.w K X.mg X.base (fR X.prog X.w X.mg) k f fd ps<|tQ K sp)(hr:bX k' X.A)(hle:autoParam (k<=k') qJK)
  (ht:autoParam (eval (.Call (.Attribute o x apos) [] [] pos) X.env=(do
   let ov <-eval o X.env
   standAt apos.atName
   let (f,first) <-holding [ov] (getMethod ov x pl)
   callWith pos f first (backTo pos<|starEach [] X.env) (backToKw pos<|keywordEach [] X.env))) qQJ) (hK:autoParam (X.K=K) qQJ):
  DE K X (.Call (.Attribute o x apos) [] [] pos) (ED C x sp [] ta Mv):=VT he c T.e (F.mono hle) hr T.b d0 ht hK
end
section
variable{K:Frag}{X:Cx}
def WH:D->Option Int->Option Int->ak->KD->Prop:=λx lo hi S R=>match x with|.ref a=>∃ds,S a=some (.lst ds)/\∀p,S p=none->R (.ref p) (S.set p<|.lst<|cq ds lo hi)|.k8 ds=>∀p,S p=none->R (.ref p) (S.set p<|.lst<|cq ds lo hi)|_=>False
theorem WI(hK:X.K=K):UR X (λx lo hi H Q=>∃d S R,Rv K H d x/\Rs K S H/\WH d lo hi S R/\Cn K H R Q):=by rintro pins s σ H x v vl vu lo hi sl Q I rx hs pl pu ⟨d,S,R,r1,hS,h,hR⟩;subst hK;cases d with|ref a=>(obtain⟨ds,e,h⟩:=h;obtain⟨xs,e1,t⟩:=hS.lst e;exact En pins s σ H _ v vl vu lo hi sl Q I rx hs pl pu {a,xs,r1.ref,.of e1,λp hp=>hR.new hS hp (h p)<|t.cut lo hi})|k8 ds=>(obtain⟨a,xs,rfl,q,t⟩:=r1.k8;exact En pins s σ H _ v vl vu lo hi sl Q I rx hs pl pu {a,xs,rfl,q.sq,λp hp=>hR.new hS hp (h p)<|t.cut lo hi})|_=>exact h.elim
def abd(te:TD)(tl th:Od):TD:=λσ S R Z=>te σ S (λx S1=>tl σ S1 (λl S2=>th σ S2 (λu S3=>WH x l u S3 R) Z) Z) Z
theorem MY{e:Expr}{lo hi:pp}{te:TD}{tl th:Od}{p2 pos:Pos}(he:DE K X e te)(hl:DO K X lo tl)(hu:DO K X hi th)(hK:autoParam (X.K=K) qQJ):DE K X (.Subscript e (.Slice lo hi none p2) pos) (abd te tl th):=
 ⟨λy=>(Ae (X:=y.cx) (WI hK) (he.of y) (hl.of y)<|hu.of y).mono <| by rintro τ H Q ⟨σ,S,R,Z,aB,hS,q,hR,hZ⟩;exact
  ⟨σ,S,_,Z,aB,hS,q,λd S1 x H1 r1 v1 s1 k1=>⟨σ,S1,_,Z,aB.ts k1,s1,r1,λl S2 H2 r2 s2 k2=>⟨σ,S2,_,Z,aB.ts<|k1.trans k2,s2,r2,λu S3 H3 r3 s3 k3=>⟨d,S3,R,Rv.ts (k2.trans k3) _ v1,s3,r3,hR.kp<|(k1.trans k2).trans k3⟩,hZ.kp<|k1.trans k2⟩,hZ.kp k1⟩,hZ⟩⟩
def abe:tO:=λx y S R=>match x,y with|.int i,.int j=>R (.int<|i+j) S|.str a,.str b=>a.length+b.length<=sizeLine/\R (.str<|a++b) S|.ref a,.ref b=>∃xs ys,S a=some (.lst xs)/\S b=some (.lst ys)/\xs.length+ys.length<=sizeLine/\∀p,S p=none->R (.ref p) (S.set p<|.lst<|xs++ys)|_,_=>False
theorem bw:nY K (binaryOp .Add) abe:=by rintro X hK hu pins s σ H x y v u Q I rx ry ⟨d,e,S,R,r1,r2,hS,h,hR⟩;subst hK;cases d<;>cases e<;>first|exact False.elim h|exact P0 pins s σ H x y v u Q I rx ry {_,_,r1.int,r2.int,hR.now hS h<|aN _}|exact Cd pins s σ H x y v u Q I rx ry {_,_,r1.str,r2.str,h.1,hR.now hS h.2<|cu _}|skip;obtain⟨xs,ys,e1,e2,hl,q⟩:=h;obtain⟨vs,h1,t1⟩:=hS.lst e1;obtain⟨ws,h2,t2⟩:=hS.lst e2;exact Qo pins s σ H x y v u Q I rx ry {_,_,vs,ws,r1.ref,r2.ref,h1,h2,by rw[t1.len,t2.len];exact hl,λp hp=>hR.new hS hp (q p)<|t1.app t2}
end
structure W(sp:rP)(ds:List D)(S:ak)(R:KD)(Z:KX):Prop where
 of:sp ds S R Z
def WJ(s:Stmt):j4:=((aj s).names.filter λp=>p.2==.local||p.2==.cell).map (·.1)
theorem bx(s:Stmt)(a:autoParam ((aj s).kind=.function/\(aj s).isCoroutine=false/\(aj s).isGenerator=false/\(WJ s).take (uk s).length=uk s) qQ2)(b:autoParam ((WJ s).Nodup/\(∀x∈uk s,(aj s).names.lookup x=some .local\/(aj s).names.lookup x=some .cell)/\∀y∈(aj s).names,y.2≠.free) qQ6):fU (WJ s) (uk s) (aj s):=fsc a b
section
variable{P:Program}{w:World}{K:Frag}{mg:Str->Option Value}{base:Heap}{x qual:Str}{st:Stmt}{f:Addr}{fd:FuncData}{N ps:j4}{k:Nat}{sp:rP}
theorem wB.bF(F:wB K x qual st f fd)(S:fU N ps<|aj st)(l7:∀(fV:Value)(A:Around)(outer:jp)(s:Shared)(H:Hp)(E:XK)(ds:List D)(S:ak)(R:KD)(Z:KX),bX k (A.deeper<|PyProof.Rows.envOfC qual (aj st) s.heap.objs.size f fV)->sp ds S R Z->∃t,Hx K (j_ (fR P w mg) P w K mg base N qual (aj st) f fV A outer s H E) true (bA st) t/\t {nx:=λ_ S'=>Fo S'<|R .au,rt:=λd S'=>Fo S'<|R d} (je N ds) S λ_ C S'=>Fo S'<|Z C)(len:∀ds S R Z,sp ds S R Z->ds.length=ps.length:=by intro _ _ _ _ h;first|(cases h;subst_vars;rfl;done)|(repeat first|(obtain⟨e,_⟩:=h;rw[e];rfl;done)|obtain⟨_,h⟩:=h)):bT P w K mg base (fR P w mg) (k+1) f fd ps (tQ K sp):=F.ok S len l7
end
structure ac6(X:Cx)(N:j4)(src:ul)(scope:Scope):Prop where
 kind:scope.kind=.function
 nd:(scope.names.map Prod.fst).Nodup
 loc:∀y∈scope.names,y.2=.local->scope.names.lookup y.1=some .local
 BY:∀y∈scope.names,y.2=.free->X.env.kindOf y.1=some .cell\/X.env.kindOf y.1=some .free
 len:src.length=N.length
 src:∀(i j:Nat)(x:Str),src[i]?=some (some j)->N[i]?=some x->X.N[j]?=some x/\scope.names.lookup x=some .free/\Pl X.env.scope x
section
variable{K:Frag}
def abf:List D->ak->KD->Prop:=λds S R=>∃(a:Addr)(ns:sB),ds=[.ref a]/\S a=some (.lst<|ns.map D.int)/\R (.int ns.sum) S
theorem WK:gI K (.builtin "sum") abf:=by rintro X hK hc pins s σ H xs us Q I rx ⟨ds,S,R,r,hS,⟨a,ns,e,h1,h⟩,hR⟩;subst hK e;obtain⟨v,rfl,r1⟩:=r.one;cases r1.ref;obtain⟨zs,e1,t⟩:=hS.lst h1;rw[t.ints]at e1;exact Gs rfl hc pins s σ H _ us Q I rx {a,ns,rfl,.of e1,hR.now hS h<|aN _}
def abg(i j:Nat)(ta:iX):mq:=λDe σ S Z=>ta σ S (λds S1=>∃v w,ds=[v,w]/\De.nx ((σ.set i<|some v).set j<|some w) S1)<|Z σ
theorem RB(hN:X.N.Nodup)(ha:DA K X [a,b] ta)(hi:autoParam (X.N[i]?=some x) qQJ)(hj:autoParam (X.N[j]?=some y) qQJ)(i5:autoParam (i≠j) qQZ)(hx:autoParam (X.env.scope.names.lookup x=some .local) qQJ)(hy:autoParam (X.env.scope.names.lookup y=some .local) qQJ)(hw:autoParam (swappedStores [.Tuple [.Name x px,.Name y py] kt pt] (.Tuple [a,b] k2 pt2) X.env=pure (some [x,y])) qQJ)(hs:autoParam (swapsWithSole [.Tuple [.Name x px,.Name y py] kt pt] (.Tuple [a,b] k2 pt2) pos.line X.env=pure false) qQJ)(hc:autoParam (X.calm=true) qQJ):DS K X bb (.Assign [.Tuple [.Name x px,.Name y py] kt pt] (.Tuple [a,b] k2 pt2) pos) (abg i j ta):=⟨λz=>(PL (X:=z.cx) hc hN hi hj i5 hx hy (ha.of z) hw hs).mono <| by rintro D τ H ⟨σ,S,De,Z,aB,hS,q,hD,hZ⟩;exact{σ,S,_,_,aB,hS,q,by rintro ds S1 vs H1 ⟨v,w,e,r⟩ v1 s1 k1;subst e;obtain⟨a,b,rfl,r1,r2⟩:=v1.two;exact{a,b,rfl,hD.nx _ _ _ _ r (((aB.ts k1).set i r1).set j r2) s1 k1},hZ.at aB}⟩
end
section
variable{K:Frag}{p:Pos}{e:Expr}
structure ae8(P:Program)(w:World)(K:Frag)(mg:Str->Option Value)(base:Heap)(k:Nat)(f:Addr)(sp:Sp):Prop where
 ex:∃fd ps,bT P w K mg base (fR P w mg) k f fd ps sp/\Binds K fd ps []
 kp:keepIn K (.ref f)=true
inductive CvR{ι:Type}(i:Nat)(fa:ι->Addr)(σ:SD)(p:ι->Prop):Prop where
 |mk (o:ι)(e:σ[i]?=some (some<|.ref<|fa o))(r:p o)
end
section
variable{R:Prop}{K:Frag}{h:Heap}{mg:Str->Option Value}{tk:Tok}
theorem gvs(X:K.In h)(G:h.Ns mainGlobals mg)(x:Str)(z:Str)(a:nsIn K mainGlobals x=some (some<|.str z tk))(g:mg x=some (.str z tk)->R):R:=g<|mg_of X G a
end
theorem Jv{kvs:List<|Key×V}{k:Key}{v:V}(h:∀x∈kvs,x.1≠k):putK kvs k v=kvs++[(k,v)]:=by unfold putK;rw[if_neg];rw[List.any_eq_true];rintro⟨x,hx,e⟩;exact h x hx<|zC e
theorem vf:∀{more acc:List (Key×V)},((acc++more).map Prod.fst).Nodup->eK acc more=acc++more
 |[],acc,_=>by rw[List.append_nil];rfl
 |p::r,acc,h=>by
  have e:putK acc p.1 p.2=acc++[p]:=Jv λx hx e=>by rw[zN,List.nodup_append]at h;exact h.2.2 x.1 (zh.mpr ⟨x,hx,rfl⟩) p.1 (zh.mpr ⟨p,zj,rfl⟩) e
  show eK (putK acc p.1 p.2) r=_;rw[e,vf<|by rw[List.append_assoc];exact h,List.append_assoc];rfl
def wJ:List (Str×TD)->SD->ak->(List (Key×D)->ak->Prop)->KX->Prop|[],_,S,R,_=>R [] S| (k,t)::r,σ,S,R,Z=>t σ S (λd S1=>wJ r σ S1 (λl S2=>R ((.inr k,d)::l) S2) Z) Z
section
variable{K:Frag}
theorem AW:∀{l:List (Str×TD)}{H:Hp}{S:ak}{R:List (Key×D)->ak->Prop}{Q:List (V×V)->Hp->Prop},g_ K H σ τ->Rs K S H->wJ l σ S R Z->(∀RC S' kvs H',R RC S'->bB K H' RC kvs->RC.map Prod.fst=l.map (λx=>Sum.inr x.1)->Rs K S' H'->Kp K H H'->Q (kvs.map λkv=>(kV kv.1,kv.2)) H')->Ez K H Z (E τ)->wc (l.map λkt=>(T K E<|dC<|.str kt.1,T K E kt.2)) τ H Q|[],H,S,R,Q,_,hS,q,hR,_=>hR [] S [] H q .nil rfl hS (.refl _)| (k,t)::r,H,S,R,Q,aB,hS,q,hR,hZ=>{σ,S,λd S'=>d=.str k/\t σ S' (λd S1=>wJ r σ S1 (λl S2=>R ((.inr k,d)::l) S2) Z) Z,Z,aB,hS,⟨rfl,q⟩,by rintro d S1 v H1 ⟨e,q1⟩ v1 s1 k1;subst e;refine{σ,S1,_,Z,aB.ts k1,s1,q1,λd2 S2 v2 H2 q2 r2 s2 k2=>?_,hZ.kp k1};refine AW (aB.ts<|k1.trans k2) s2 q2 (λRC S3 kvs H3 q3 rk ek s3 k3=>?_)<|hZ.kp<|k1.trans k2;have:=hR _ S3 ((.inr k,v2)::kvs) H3 q3 (.cons {rfl,Rv.ts k3 _ r2} rk) (by rw[zt,zt,ek]) s3<|(k1.trans k2).trans k3;rw[v1.str];exact this,hZ}
variable{X:Cx}{pos:Pos}
structure YA(K:Frag)(X:Cx)(pos:Pos)(keys:List (Option Expr))(values:mt)(l:List (Str×TD)):Prop where
 of:∀{b:Bool}(y:Ev X b),U5 y.cx pos keys values<|l.map λkt=>(T K y.E<|dC<|.str kt.1,T K y.E kt.2)
theorem dp0:YA K X pos [] [] []:=⟨λy=>LU⟩
theorem HB{t:TD}(hk:DE K X ke<|dC<|.str k)(hv:DE K X v t)(hr:YA K X pos ks vs l):YA K X pos (some ke::ks) (v::vs) ((k,t)::l):=⟨λy=>Ik (hk.of y) (hv.of y)<|hr.of y⟩
def WL(l:List<|Str×TD):TD:=λσ S R Z=>∀p,S p=none->wJ l σ (S.set p<|.cj []) (λRC S2=>S2 p=some (.cj [])/\R (.ref p) (S2.set p<|.cj RC)) Z
theorem edd(h:YA K X pos keys values l)(hn:autoParam ((l.map Prod.fst).Nodup) qQ6)(hl:autoParam (l.length<=15) qQZ)(Il:autoParam (keys.all (·.isSome)=true) qQJ)(hlen:autoParam (keys.length=values.length) qQJ)(h0:keys≠[]:=by exact List.cons_ne_nil _ _)(ZH:autoParam (keys.length<=15) qQZ):DE K X (.Dict keys values pos) (WL l):=by
 refine⟨λy=>(LV (X:=y.cx) (h.of y) Il hlen h0 ZH).mono λτ H Q ⟨σ,S,R,Z,aB,hS,q,hR,hZ⟩ p hp=>?_⟩;refine AW (aB.ts<|.new hp) (hS.new (c:=.cj []) hp {[],aD,.nil}) (q p<|hS.fresh hp) (λRC S2 kvs H2 ⟨e1,q2⟩ rk ek s2 k2=>?_)<|hZ.kp<|.new hp;obtain⟨xs,e2,t⟩:=s2.cj e1;cases t;have ekv:∀{a:List (Key×D)}{b:List (Key×V)},bB K H2 a b->a.map Prod.fst=b.map Prod.fst:=λh=>by induction h with|nil=>rfl|cons r _ ih=>rw[zt,zt,r.1,ih]
 have em:eK [] kvs=kvs:=vf (by rw[List.nil_append,<-ekv rk,ek,show(l.map λx=>(Sum.inr x.1:Key))=(l.map Prod.fst).map Sum.inr by rw[zq];rfl];exact List.Pairwise.map _ (λa b WM e=>WM<|yM e) hn);have Wn:kvs.length<=15:=by have:=congrArg List.length<|(ekv rk).symm.trans ek;rw[zb,zb]at this;lia
 have kk:=s2.fm (o:=.dK kvs) e1;refine{e2,kvs,rfl,Wn,?_};rw[em];exact hR _ _ _ _ q2 (ia p) (s2.put (c:=.cj _) e1 {_,aD,rk.ts kk})<|((Kp.new hp).trans k2).trans kk
end
section
variable{K:Frag}{X:Cx}{b:Bool}{N:j4}{src:ul}{scope:Scope}{iter elt:Expr}{ifs:mt}{pos p:Pos}{ti:AF}{tc:lV}{te:TD}{a:Str}
theorem jW(s:Stmt)(hs:autoParam (X.env.scope=aj s) qQJ)(hN:autoParam (X.N=WJ s) qQJ)(h:autoParam (chkC (aj s) (WJ s) N src scope=true) qQ6):bf X N src scope:=Vi _ _ hs hN h
structure C1(X:Cx)(N:j4)(src:ul)(scope:Scope)(a:Str):Prop where
 nd:N.Nodup
 h0:N[0]?=some a
 hr:src[0]?=some none
 hx:∀C s H ex pn,Loc (fW X N scope C s H ex pn).env.scope a/\(fW X N scope C s H ex pn).env.scope.names.lookup a=some .local
theorem wK(S:bf X N src scope)(hit:DI K X (.Name a p) iter ti)(hi:∀{C s H ex pn},Tz K (fW X N scope C s H ex pn) ifs tc)(he:∀{C s H ex pn},DE K (fW X N scope C s H ex pn) elt te)(c:autoParam (C1 X N src scope a) qJ7)(hf:autoParam (∀x,foldedSetIterable iter X.env x=pure x) qQ0)(hc:autoParam (X.calm=true) qQJ): DE K X (.ListComp elt [{.Name a p,iter,ifs,0}] scope pos) (u6 ti src (Tw 0) tc te):=TB S hit (cg1 c.nd c.h0 c.hx) (Er c.hr) EG (λ_ _ _ _ _=>hi) (λ_ _ _ _ _=>he) hf hc
theorem qm(i:Nat)(hd:X.N.Nodup)(S:bf X N src scope)(hit:DI K X (.Name a p) iter ti)(hi:∀{C s H ex pn},Tz K (fW X N scope C s H ex pn) ifs tc)(he:∀{C s H ex pn},DE K (fW X N scope C s H ex pn) elt te)(c:autoParam (C1 X N src scope a) qJ7)(Ve:autoParam (X.N[i]?=some x) qQJ)(Aq:autoParam (X.env.scope.names.lookup x=some .local) qQJ)(Vf:autoParam (swapsWith (.ListComp elt [{.Name a p,iter,ifs,0}] scope pos) (some<|.Name x pos') Gg.line X.env=pure true) qQJ)(hf:autoParam (∀x,foldedSetIterable iter X.env x=pure x) qQ0)(hc:autoParam (X.calm=true) qQJ): DS K X b (.Assign [.Name x pos'] (.ListComp elt [{.Name a p,iter,ifs,0}] scope pos) Gg) (Q2 i<|u6 ti src (Tw 0) tc te):=stc hd S hit (cg1 c.nd c.h0 c.hx) (Er c.hr) EG (λ_ _ _ _ _=>hi) (λ_ _ _ _ _=>he) Ve Aq Vf hf hc
end
theorem b8{p:Bool}{A B:Prop}(q:B)(h:autoParam (p=false) qQ6):if p=true then A else B:=by rw[h,if_neg zd];exact q
theorem iG{p:Bool}{A B:Prop}(q:A)(h:autoParam (p=true) qQ6):if p=true then A else B:=by rw[h,if_pos rfl];exact q
section
variable{K:Frag}{X:Cx}
def abj(kvs:List<|Str×V)(ty:TD):TD:=λσ S R Z=>ty σ S (λy S1=>∃z v,y=.str z/\kvs.lookup z=some v/\R (vD v) S1) Z
theorem YB{w:World}{ad:Addr}{kvs:List<|Str×V}{o e:Expr}{pos:Pos}{ty:TD}(d:Hv w K ad kvs)(hf:(kvs.all λp=>C7 p.2)=true)(ho:∀Y:Cx,Y.env=X.env->Y.mg=X.mg->PE Y o (tC<|.ref ad))(he:DE K X e ty)(hs:autoParam (Qq e) qJ1)(hw:autoParam (X.w=w) qQJ)(hK:autoParam (X.K=K) qQJ):DE K X (.Subscript o e pos) (abj kvs ty):=⟨λy=>(II (X:=y.cx) hw hK (ho y.cx rfl rfl) (he.of y) hs).mono <| by rintro τ H Q ⟨σ,S,R,Z,aB,hS,q,hR,hZ⟩;exact{σ,S,_,Z,aB,hS,q,by rintro yv S1 v H1 ⟨z,v1,e1,e2,r⟩ rv s1 k1;subst e1;refine{ad,z,kvs,v1,rfl,rv.str,d,e2,hR _ _ _ _ r ?_ s1 k1};have fl:=zR.mp hf _<|yh e2;cases v1 with|int i=>exact aN i|str i=>exact cu i|_=>(cases fl),hZ}⟩
end
noncomputable def ctO(l:List<|Option Nat):Nat:=l.countP Option.isSome
structure Lay(m n:Nat)(ow:Array (Option Nat)):Prop where
 sz:ow.size=m+1
 ct:ctO ow.toList=n
 lt:∀x,some x∈ow.toList->x<n
section
variable{KT:Type}[DecidableEq KT]
structure Tb(t:SetTable)(n:Nat):Prop where
 m:t.mask=7\/t.mask=31\/t.mask=127\/t.mask=511
 d:t.dummies=#[]
 p:t.place.size=n
 f:n*5<t.mask*3
end
def wdO(P:Program)(w:World)(a:Addr)(kvs:List<|Key×V)(ep:Nat):HO:=.ext λh=>kvs.length<=sizeLine/\(a==sysModules)=false/\∃vs,KV kvs vs/\h.DictAt (aE P w) a vs ep
structure Wd(P:Program)(w:World)(o:HO)(a:Addr)(ks:List Key):Prop where
 of:∃kvs ep,o=wdO P w a kvs ep/\kvs.map (·.1)=ks
section
def OI(P:Program)(w:World)(t:TD):TD:=λσ S R Z=>∃a kvs,S a=some (.cj kvs)/\∀o,Wd P w o a (kvs.map (·.1))->t σ (S.set a<|.raw o) (λd S'=>S' a=some (.raw o)/\R d (S'.set a<|.cj kvs)) (λ_ _=>False)
end
section
variable{X:Cx}{o e:Expr}{apos aP:Pos}{td ty:TE}
def WN(td ty:TE):TE:=λσ H Q=>td σ H λx H1=>∃a,x=.ref a/\Qt H1 a/\ty σ H1 λy H2=>∃b kvs more,y=.ref b/\a≠b/\H2 a=some (.dK kvs)/\H2 b=some (.dK more)/\kvs.length+more.length<=sizeLine/\Q .au (upd H2 a<|.dK<|eK kvs more)
theorem MZ(ho:PE X o td)(he:PE X e ty)(m:M1 X o "update" apos e aP):PE X (.Call (.Attribute o "update" apos) [e] [] aP) (WN td ty):=by intro pins s σ H Q I h;refine wpAny_Call_method m.base m.Ep m.line PySem.F.plainAttrs_dict PySem.F.slot_dict_update PySem.F.type_dict_update<|ba (ho pins s σ H _ I h) ?_;rintro u s1 ⟨x,H1,I1,rx,a,ex,d,q1⟩;subst ex;obtain rfl:u=Value.ref a:=rx;obtain⟨t1,t2,_⟩:=rn I1 d;refine{t1,t2,?_};rw[m.trees];refine yu rfl<|Calls.evalArgs_plain<|yC<|ba (he pins s1 σ H1 _ I1 q1) λiv s2 ⟨y,H2,I2,ry,b,kvs,more,ey,WM,ea,eb,hl,q2⟩=>Calls.spliced_nil ?_;subst ey;obtain rfl:iv=Value.ref b:=ry;obtain⟨z1,Yw,vs,r1,dd1⟩:=rj I2.aG ea;obtain⟨z2,hd2,ms,r2,Td⟩:=rj I2.aG eb;refine call_meetsIn PySem.F.slot_dict_update dd1.typeIs PySem.F.entry_dict_update (PySem.F.args_dict_update_2 _ _) (PySem.meets_dict_update (aE X.prog X.w) a b WM hd2) {vs,ms,dd1,Td,by rw[<-r1.length,<-r2.length];exact hl,λh' Eo _ hs=>?_};have he:∃q,h'.get? a=some q:=let ⟨q,_,_,hq,_⟩:=Eo;⟨q,hq⟩;exact{.au,_,l9 I2 (by rw[ea];exact True.intro) hs he<|rl (zI (gw more kvs) hl) Yw (r2.merge r1) Eo,rfl,q2}
end
section
variable{K:Frag}{X:Cx}{o e:Expr}{apos aP:Pos}{td ty:TD}
noncomputable def C9(kvs more:List<|Key×D):List (Key×D):=more.foldl (λc p=>dput c p.1 p.2) kvs
theorem bB.merge:∀{more:List (Key×D)}{ms:List (Key×V)}{kvs:List (Key×D)}{vs:List (Key×V)},bB K H more ms->bB K H kvs vs->bB K H (C9 kvs more) (eK vs ms)|_,_,_,_,.nil,h=>h|_,_,_,_,.cons (a:=p) (b:=q) r t,h=>by show bB K H (C9 (dput _ p.1 p.2) _) (eK (putK _ q.1 q.2) _);rw[r.1];exact bB.merge t<|h.put q.1 r.2
def abk(td ty:TD):TD:=λσ S R Z=>td σ S (λx S1=>∃a kvs,x=.ref a/\S1 a=some (.cj kvs)/\ty σ S1 (λy S2=>∃b kvs more,y=.ref b/\a≠b/\S2 a=some (.cj kvs)/\S2 b=some (.cj more)/\kvs.length+more.length<=sizeLine/\R .au (S2.set a<|.cj<|C9 kvs more)) Z) Z
theorem mu1(ho:DE K X o td)(he:DE K X e ty)(m:autoParam (M1 X o "update" apos e aP) qQ2):DE K X (.Call (.Attribute o "update" apos) [e] [] aP) (abk td ty):=
 ⟨λy=>(MZ (X:=y.cx) (ho.of y) (he.of y) ⟨m.base,m.Ep,m.line,m.trees⟩).mono <| by rintro τ H Q ⟨σ,S,R,Z,aB,hS,q,hR,hZ⟩;exact
  ⟨σ,S,_,Z,aB,hS,q,by
   rintro x S1 xv H1 ⟨a,kvs,e1,e2,r1⟩ v1 s1 k1
   subst e1
   exact⟨a,v1.ref,rQ s1 e2,σ,S1,_,Z,aB.ts k1,s1,r1,by
    rintro y S2 yv H2 ⟨b,kvs,more,e3,WM,e4,e5,hl,r2⟩ v2 s2 k2
    subst e3
    obtain⟨vs,e6,t⟩:=s2.cj e4
    obtain⟨ms,e7,t2⟩:=s2.cj e5
    have kk:=s2.fm (o:=.dK<|eK vs ms) e4
    exact{b,vs,ms,v2.ref,WM,e6,e7,by rw[t.len,t2.len];exact hl,hR _ _ _ _ r2 gA (s2.put (c:=.cj _) e4 {_,aD,(t2.merge t).ts kk})<|(k1.trans k2).trans kk},hZ.kp k1⟩,hZ⟩⟩
end
section
variable{K:Frag}{X:Cx}
def WO:D->Option Int->Option Int->ak->KD->Prop:=λx lo hi S R=>match x with|.str z=>z.length<=sizeLine/\R (.str<|PySem.Txt.slice z lo hi) S|_=>False
theorem WQ(hK:X.K=K):UR X (λx lo hi H Q=>∃d S R,Rv K H d x/\Rs K S H/\WO d lo hi S R/\Cn K H R Q):=by rintro pins s σ H x v vl vu lo hi sl Q I rx hs pl pu ⟨d,S,R,r1,hS,h,hR⟩;subst hK;cases d with|str z=>exact QV pins s σ H x v vl vu lo hi sl Q I rx hs pl pu {z,r1.str,h.1,hR.now hS h.2<|cu _}|_=>exact h.elim
def abl(te:TD)(tl th:Od):TD:=λσ S R Z=>te σ S (λx S1=>tl σ S1 (λl S2=>th σ S2 (λu S3=>WO x l u S3 R) Z) Z) Z
theorem slx{e:Expr}{lo hi:pp}{te:TD}{tl th:Od}{p2 pos:Pos}(he:DE K X e te)(hl:DO K X lo tl)(hu:DO K X hi th)(hK:autoParam (X.K=K) qQJ):DE K X (.Subscript e (.Slice lo hi none p2) pos) (abl te tl th):=
 ⟨λy=>(Ae (X:=y.cx) (WQ hK) (he.of y) (hl.of y)<|hu.of y).mono <| by rintro τ H Q ⟨σ,S,R,Z,aB,hS,q,hR,hZ⟩;exact
  ⟨σ,S,_,Z,aB,hS,q,λd S1 x H1 r1 v1 s1 k1=>⟨σ,S1,_,Z,aB.ts k1,s1,r1,λl S2 H2 r2 s2 k2=>⟨σ,S2,_,Z,aB.ts<|k1.trans k2,s2,r2,λu S3 H3 r3 s3 k3=>⟨d,S3,R,Rv.ts (k2.trans k3) _ v1,s3,r3,hR.kp<|(k1.trans k2).trans k3⟩,hZ.kp<|k1.trans k2⟩,hZ.kp k1⟩,hZ⟩⟩
end
theorem y7{K:Frag}{X:Cx}{b:Bool}{st:Stmt} : DS K X b st (λ_ _ _ _=>False):=by refine⟨λy=>?_⟩;rintro pins s τ H D I ⟨_,_,_,_,_,_,h,_⟩;exact h.elim
def abm:tO:=λx y S R=>∃i j,x=.tup i/\y=.tup j/\i≠[]/\j≠[]/\i.length+j.length<=sizeLine/\R (.tup<|i++j) S
theorem RD{K:Frag} : nY K (binaryOp .Add) abm:=by rintro X hK hu pins s σ H x y v u Q I rx ry ⟨d,e,S,R,r1,r2,hS,⟨i,j,e1,e2,n1,n2,hl,h⟩,hR⟩;subst hK e1 e2;obtain⟨a,xs,rfl,q1,t1⟩:=r1.tup;obtain⟨b,ys,rfl,q2,t2⟩:=r2.tup;exact Me pins s σ H _ _ v u Q I rx ry {a,b,xs,ys,rfl,rfl,.of q1,.of q2,by rw[t1.len,t2.len];exact hl,λe=>absurd (List.length_eq_zero_iff.mp<|by subst e;exact t1.len.symm) n1,λ_ e=>absurd (List.length_eq_zero_iff.mp<|by subst e;exact t2.len.symm) n2,λ_ _ p hp=>hR.VD hS hp h<|t1.app t2}
noncomputable def ft(N:Nat)(v:Nat->Value):ii:=((List.range N).map v).toArray
structure ZN(n N:Nat)(l:Nat->Addr)(i:Nat)(h:Heap):Prop where
 z:IsZip h (n+N+2) (n+N) (n+N+1) .none
 t:mh h (n+N) (ft N λj=>.ref<|n+j)
 o:∃arr:ii,arr.size=N/\mh h (n+N+1) arr
 it:∀j,j<N->h.IsTupleIter (n+j) (l j) i
theorem jX:(ft N v).size=N:=by unfold ft;simp
theorem jh:(ft N v).toList.length=N:=by unfold ft;simp
theorem M0(h:arr.size=N)(e:∀j,j<N->arr[j]?=some (v j)):arr=ft N v:=by refine Array.ext (by rw[h,jX]) λj h1 h2=>?_;have:=e j (by lia);rw[Array.getElem?_eq_getElem h1]at this;rw[zT this];simp[ft]
section
variable{prog:Program}{w:World}{A:Around}{E:li}{s:Shared}{n N:Nat}{l:Nat->Addr}{i:Nat}{xs:Nat->Array Value}
theorem GI{v:Nat->Value}{Q:li}(h1:1<=N)(h3:N<=3)(lt:∀j,j<N->l j<n)(hs:ZN n N l i s.heap)(tu:∀j,j<N->s.heap.IsTuple (l j) (xs j))(ev:∀j,j<N->(xs j)[i]?=some (v j))(hQ:∀h',IsZip h' (n+N+2) (n+N) (n+N+1) (rawInt s.heap.objs.size)->mh h' (n+N+1) (ft N v)->(∀j,j<N->h'.IsTupleIter (n+j) (l j) (i+1))->mh h' s.heap.objs.size (ft N v)->(∀c o,c≠n+N+2->c≠n+N+1->(∀j,j<N->c≠n+j)->s.heap.get? c=some o->h'.get? c=some o)->Q (.ref s.heap.objs.size) {s with heap:=h'}): wpAny (model prog w) A (Builtin.«zip.__next__» {[.ref<|n+N+2],[]}) (λfin s'=>∃v,fin=.done (.ret v)/\Q v s') E s:=by
 obtain⟨hz,hI,⟨arr,na,hO⟩,hit⟩:=hs;show wpAny _ _ (field (.ref<|n+N+2) 2 >>=_) _ _ _;refine zc<|yg hz rfl (x:=.bool false) rfl ?_;show wpAny _ _ (field (.ref<|n+N+2) 3 >>=_) _ _ _;refine zc<|yg hz rfl (x:=.ref<|n+N) rfl ?_;refine zc<|wpAny_seqItems hI rfl ?_;have he:(ft N λj=>Value.ref<|n+j).isEmpty=false:=by rw[Array.isEmpty_eq_false_iff];intro e;have:=congrArg Array.size e;rw[jX]at this;simp at this;lia
 dsimp only;rw[if_neg<|by rw[he];exact zd];refine zc ?_;unfold Builtin.SmallTypes.ownedTupleIsFree;refine zc<|yg hz rfl (x:=.none) rfl<|zy ?_;simp only[if_true];refine zc<|yY ?_;refine zc<|yg hz rfl (x:=.ref<|n+N+1) rfl ?_;refine zc<|wpAny_setField_rec hz (by simp) λh0 M4 q0=>?_;replace M4:IsZip h0 (n+N+2) (n+N) (n+N+1) .ellipsis:=M4;have k0:∀c o,c≠n+N+2->s.heap.get? c=some o->h0.get? c=some o:=λc o d e=>q0.extBut _ _ d e;refine zc<|wpAny_forIn_list _ (λrest b s'=>∃(k:Nat)(h':Heap)(a':ii),k<=N/\rest=((ft N λj=>Value.ref<|n+j).toList.zipIdx).drop k/\b=(none,())/\s'={s with heap:=h'}/\mh h' (n+N+1) a'/\a'.size=N/\(∀j,j<k->a'[j]?=some (v j))/\(∀j,j<N->h'.IsTupleIter (n+j) (l j) (if j<k then i+1 else i))/\IsZip h' (n+N+2) (n+N) (n+N+1) .ellipsis/\h'.objs.size=s.heap.objs.size/\(∀c o,c≠n+N+2->c≠n+N+1->(∀j,j<N->c≠n+j)->s.heap.get? c=some o->h'.get? c=some o)) _ ?_ ?_ _ _ ?_;rintro x rest b s' ⟨k,h',a',hk,e1,rfl,rfl,O,ha,hv,J,Z,sz,kp⟩;have dw:k<N:=by have:=congrArg List.length e1;rw[zQ,List.length_drop,List.length_zipIdx,jh]at this;lia
 have e2:((ft N λj=>Value.ref<|n+j).toList.zipIdx).drop k=(Value.ref<|n+k,k)::((ft N λj=>Value.ref<|n+j).toList.zipIdx).drop (k+1):=by rw[yj<|by rw[List.length_zipIdx,jh];exact dw];simp[ft]
 rw[e2]at e1;cases e1;have lk:@LT.lt Nat _ (l k) n:=lt k dw;have Jk:=J k dw;rw[if_neg<|yF _]at Jk;have T0:Heap.IsTuple h' (l k) (xs k):=by obtain⟨o,a1,a2⟩:=tu k dw;exact{o,kp _ _ (by show @Ne Nat _ _;lia) (by show @Ne Nat _ _;lia) (λj _=>by show @Ne Nat _ _;lia) a1,a2}
 refine zc<|wpAny_onRaise ?_;show wpAny _ _ (Builtin.SmallTypes.nextOf (.ref<|n+k) >>=_) _ _ _;refine zc<|CG (s:={s with heap:=h'}) Jk T0 (ev k dw) λg1 m0 q1=>zy ?_;have O1:mh g1 (n+N+1) a':=q1.extBut _ _ (by show @Ne Nat _ _;lia) O;refine zc<|wpAny_seqItems (s:={s with heap:=g1}) O1 rfl ?_;refine zc<|Gn (s:={s with heap:=g1}) O1 (by lia) λg2 O2 q2=>?_;refine zc<|wpAny_letGo<|zy ?_;refine{k+1,g2,_,dw,rfl,rfl,rfl,O2,by rw[Array.size_setIfInBounds];exact ha,λj hj=>?_,λj hj=>?_,q2.extBut _ _ (by show @Ne Nat _ _;lia)<|q1.extBut _ _ (by show @Ne Nat _ _;lia) Z,by rw[q2.1,q1.1];exact sz,λc o d1 d2 d3 e=>q2.extBut _ _ d2<|q1.extBut _ _ (d3 k dw)<|kp c o d1 d2 d3 e};by_cases z:j=k;subst z;rw[Array.getElem?_setIfInBounds_self_of_lt<|by lia];rw[Array.getElem?_setIfInBounds_ne<|Ne.symm z];exact hv j (by lia);by_cases z:j=k;subst z;rw[if_pos<|Nat.lt_succ_self _];exact wj q2.extBut (by show @Ne Nat _ _;lia) m0;have:=J j hj;rw[show(if j<k+1 then i+1 else i)=if j<k then i+1 else i by by_cases y:j<k;rw[if_pos y,if_pos<|by lia];rw[if_neg y,if_neg<|by lia]];exact wj q2.extBut (by show @Ne Nat _ _;lia)<|wj q1.extBut (by show @Ne Nat _ _;lia) this;rintro b s' ⟨k,h',a',hk,e1,rfl,rfl,O,ha,hv,J,Z,sz,kp⟩;have dw:k=N:=by have:=congrArg List.length e1;rw[List.length_nil,List.length_drop,List.length_zipIdx,jh]at this;lia
 subst dw;have ea:=M0 ha hv;subst ea;refine zc<|wpAny_seqItems (s:={s with heap:=h'}) O rfl ?_;refine zc<|wpAny_newTuple ?_ (hsz:=by rw[jh];exact Z8 h3);have lz:n+k+2<h'.objs.size:=zw Z;show wpAny _ _ (Builtin.SmallTypes.ownedTupleHandOut (.ref<|n+k+2) (.ref h'.objs.size) >>=_) _ _ _;refine zc ?_;unfold Builtin.SmallTypes.ownedTupleHandOut;have hzM:IsZip (h'.push {cls:=.type "tuple",data:=.seq<|ft k v}) (n+k+2) (n+k) (n+k+1) .ellipsis:=za _ Z;refine zc<|wpAny_setField_rec (s:={s with heap:=h'.push {cls:=.type "tuple",data:=.seq<|ft k v}}) hzM (by simp) λg1 TR r1=>?_;replace TR:IsZip g1 (n+k+2) (n+k) (n+k+1) (rawInt h'.objs.size):=TR;refine wpAny_setField_rec (s:={s with heap:=g1}) TR (by simp) λg2 Jg r2=>?_;replace Jg:IsZip g2 (n+k+2) (n+k) (n+k+1) (rawInt h'.objs.size):=Jg;have up:∀c o,c≠n+k+2->h'.get? c=some o->g2.get? c=some o:=λc o d e=>r2.extBut _ _ d<|r1.extBut _ _ d<|za _ e;have hT:mh g2 h'.objs.size (ft k v):=r2.extBut _ _ (yr lz)<|r1.extBut _ _ (yr lz)<|zk _ rfl;rw[sz]at Jg hT;refine zy !⟨?_⟩;show Q (.ref h'.objs.size) _;rw[sz];refine hQ g2 Jg (up _ _ (by show @Ne Nat _ _;lia) O) (λj hj=>?_) hT λc o d1 d2 d3 e=>up c o d1<|kp c o d1 d2 d3 e;have:=J j hj;rw[if_pos hj]at this;exact N_ (λo e=>up _ o (by show @Ne Nat _ _;lia) e) this;refine{0,h0,arr,zY _,rfl,rfl,rfl,k0 _ _ (by show @Ne Nat _ _;lia) hO,na,λj hj=>absurd hj<|Nat.not_lt_zero _,λj hj=>?_,M4,q0.1,λc o d _ _ e=>k0 c o d e};rw[if_neg<|Nat.not_lt_zero _];obtain⟨o,a1,a2⟩:=hit j hj;exact{o,k0 _ _ (by show @Ne Nat _ _;lia) a1,a2}
theorem Jw(h1:1<=N)(hh:A.handled=none)(hs:ZN n N l i s.heap)(lt:l 0<n)(t0:s.heap.IsTuple (l 0)<|xs 0)(e0:(xs 0)[i]?=none)(hE:∀h' e,(∀c o,c≠n+N+2->c≠n+0->s.heap.get? c=some o->h'.get? c=some o)->(∃o,h'.get? e=some o/\o.cls=.type "StopIteration")->E (.ref e) {s with heap:=h'}): wpAny (model prog w) A (Builtin.«zip.__next__» {[.ref<|n+N+2],[]}) Q E s:=by
 obtain⟨hz,hI,⟨arr,na,hO⟩,hit⟩:=hs;show wpAny _ _ (field (.ref<|n+N+2) 2 >>=_) _ _ _;refine zc<|yg hz rfl (x:=.bool false) rfl ?_;show wpAny _ _ (field (.ref<|n+N+2) 3 >>=_) _ _ _;refine zc<|yg hz rfl (x:=.ref<|n+N) rfl ?_;refine zc<|wpAny_seqItems hI rfl ?_;have he:(ft N λj=>Value.ref<|n+j).isEmpty=false:=by rw[Array.isEmpty_eq_false_iff];intro e;have:=congrArg Array.size e;rw[jX]at this;simp at this;lia
 dsimp only;rw[if_neg<|by rw[he];exact zd];refine zc ?_;unfold Builtin.SmallTypes.ownedTupleIsFree;refine zc<|yg hz rfl (x:=.none) rfl<|zy ?_;simp only[if_true];refine zc<|yY ?_;refine zc<|yg hz rfl (x:=.ref<|n+N+1) rfl ?_;refine zc<|wpAny_setField_rec hz (by simp) λh0 M4 q0=>?_;replace M4:IsZip h0 (n+N+2) (n+N) (n+N+1) .ellipsis:=M4;have lk:@LT.lt Nat _ (l 0) n:=lt;have J0:Heap.IsTupleIter h0 (n+0) (l 0) i:=by obtain⟨o,a1,a2⟩:=hit 0 h1;exact{o,q0.extBut _ _ (by show @Ne Nat _ _;lia) a1,a2}
 have T0:Heap.IsTuple h0 (l 0) (xs 0):=by obtain⟨o,a1,a2⟩:=t0;exact{o,q0.extBut _ _ (by show @Ne Nat _ _;lia) a1,a2}
 have e2:(ft N λj=>Value.ref<|n+j).toList.zipIdx=(Value.ref<|n+0,0)::((ft N λj=>Value.ref<|n+j).toList.zipIdx).drop 1:=by have:=yj (l:=(ft N λj=>Value.ref<|n+j).toList.zipIdx) (i:=0) (by rw[List.length_zipIdx,jh];exact h1);rw[List.drop_zero]at this;rw[this];simp[ft]
 rw[e2,List.forIn_cons];refine zc<|zc<|zc<|wpAny_onRaise ?_;show wpAny _ _ (Builtin.SmallTypes.nextOf (.ref<|n+0) >>=_) _ _ _;refine zc<|rF (s:={s with heap:=h0}) hh J0 T0 e0 λh1 e q1 he=>?_;obtain⟨oe,hoe,hce⟩:=he;have TR:IsZip h1 (n+N+2) (n+N) (n+N+1) .ellipsis:=q1 _ _ (by show @Ne Nat _ _;lia) M4;have ez:e≠n+N+2:=λx=>by subst x;rw[TR]at hoe;cases hoe;simp at hce
 refine wpAny_setField_rec (s:={s with heap:=h1}) TR (by simp) λh2 _ q2=>hE h2 e (λc o dz d0 x=>q2.extBut _ _ dz<|q1 _ _ d0<|q0.extBut _ _ dz x) {oe,q2.extBut _ _ ez hoe,hce}
end
noncomputable def RE(K:Frag)(N:Nat)(l:Nat->Addr):It:={λi H=>∃(xs:Nat->List V)(x:Nat->V),∀j,j<N->gu K H (l j) (xs j)/\(xs j)[i]?=some (x j),λi H y H'=>∃T,H T=none/\y=.ref T/\∀(xs:Nat->List V)(x:Nat->V),(∀j,j<N->gu K H (l j) (xs j)/\(xs j)[i]?=some (x j))->H'=upd H T (.tup<|(List.range N).map x),λi H=>∃xs:Nat->List V,(∀j,j<N->gu K H (l j) (xs j))/\(xs 0).length<=i}
noncomputable def TU(n N:Nat):im:=(List.range<|N+3).map λj=>n+j
theorem qJ(h:b∈TU n N):∃j,j<N+3/\b=n+j:=by obtain⟨j,hj,e⟩:=zh.mp h;exact{j,zU.mp hj,e.symm}
theorem fu(h:j<N+3):(n+j:Nat)∈TU n N:=zh.mpr {j,zU.mpr h,rfl}
theorem C_(h:∀j,j<N->RelV (x j) (u j)):Vals ((List.range N).map x) ((List.range N).map u):=by
 have:∀l:wp,(∀j∈l,j<N)->Vals (l.map x) (l.map u):=by intro l;induction l with|nil=>exact λ_=>.nil|cons a l ih=>exact λhl=>.cons (h a<|hl a zj)<|ih λj hj=>hl j<|zf _ hj
 exact this _ λj hj=>zU.mp hj
theorem vg{P:Program}{w:World}{K:Frag}{es:mt}{kk:Nat}{tp:Pos}{n N:Nat}{l:Nat->Addr}(h1:1<=N)(h3:N<=3)(lt:∀j,j<N->l j<n):Turn P w K (.Tuple es kk tp) (RE K N l) (TU n N) (n+N+2) (ZN n N l) where
 mem:=fu (j:=N+2)<|by lia
 obj:=λi h st b hb=>by
  obtain⟨j,hj,rfl⟩:=qJ hb
  by_cases q:j<N
  ·obtain⟨o,e,c,d⟩:=st.it j q;exact{o,e,λv z=>by rw[d]at z;cases z}
  ·obtain⟨arr,na,hO⟩:=st.o
   have:j=N\/j=N+1\/j=N+2:=by lia
   rcases this with rfl|rfl|rfl
   ·exact{_,st.t,λv z=>by cases z}
   ·exact{_,hO,λv z=>by cases z}
   ·exact{_,st.z,λv z=>by cases z}
 keep:=λi h h' st k=>by
  obtain⟨hz,hI,⟨arr,na,hO⟩,J⟩:=st
  exact{k _ (fu (j:=N+2)<|by lia) _ hz,k _ (fu (j:=N)<|by lia) _ hI,{arr,na,k _ (fu (j:=N+1)<|by lia) _ hO},λj hj=>N_ (λo e=>k _ (fu<|by lia) o e)<|J j hj}
 item:=by
  intro X hP hw hK hc i pins s σ H E I hf st hg
  subst hP hw hK
  obtain⟨xs,x,hx⟩:=hg
  have ex:∀j,∃(ax:dL)(u:Value),j<N->Vals (xs j) ax/\s.heap.IsTuple (l j) ax.toArray/\ax[i]?=some u/\RelV (x j) u:=λj=>by
   by_cases q:j<N
   ·obtain⟨ax,rv,p,_⟩:=I.tuple (hx j q).1
    obtain⟨u,hu,ru⟩:=rv.get (hx j q).2
    exact{ax,u,λ_=>⟨rv,p,hu,ru⟩}
   ·exact{[],.none,λh=>absurd h q}
  have fx:=Classical.axiomOfChoice ex
  obtain⟨ax,fx⟩:=fx
  obtain⟨u,fx⟩:=Classical.axiomOfChoice fx
  have hT:s.TypeIs (.ref<|n+N+2) "zip":={_,st.z,rfl}
  have lz:@LT.lt Nat _ (n+N+2) s.heap.objs.size:=zw st.z
  unfold pyNext
  refine zc<|wpAny_attempt<|wpAny_callSpecial?_slot (name:=Str.ofString "__next__") hT F.slot_zip_next<|yP F.slot_zip_next hT F.entry_zip_next (GI h1 h3 lt st (xs:=λj=>(ax j).toArray) (v:=u) (λj hj=>(fx j hj).2.1) (λj hj=>by simpa using (fx j hj).2.2.1) λg1 z1 O1 m1 T1 kp=>zy !⟨?_⟩)<|F.args_zip_next_1 _
  refine wpAny_letOwnedTupleGo_zip (s:={s with heap:=g1}) z1 λg2 z2 r2=>?_
  have Yu:∀c o,c∉TU n N->s.heap.get? c=some o->g2.get? c=some o:=λc o hc e=>r2.extBut _ _ (λz=>hc<|z ▸ fu (j:=N+2) (by lia))<|kp c o (λz=>hc<|z ▸ fu (j:=N+2) (by lia)) (λz=>hc<|z ▸ fu (j:=N+1) (by lia)) (λj hj z=>hc<|z ▸ fu (by lia)) e
  have T2:mh g2 s.heap.objs.size (ft N u):=r2.extBut _ _ (yr lz) T1
  have I2:Inv X pins σ (upd H s.heap.objs.size<|.tup<|(List.range N).map x) {s with heap:=g2}:=I.Mg (t':=s.toks) (TU n N) hf Yu (Heap.get?_none_of_le<|zr _) {by rw[zb,List.length_range];exact Z7<|zI h3<|by decide,_,C_ λj hj=>(fx j hj).2.2.2,{_,T2,rfl,rfl,_,rfl}}
  refine{.ref s.heap.objs.size,_,I2,rfl,{_,I.aG.fresh<|zr _,rfl,λys y hy=>?_},{z2,?_,{_,jX,r2.extBut _ _ (by show @Ne Nat _ _;lia) O1},λj hj=>wj r2.extBut (by show @Ne Nat _ _;lia)<|m1 j hj},λb hb=>?_}
  ·congr 2
   refine zV λj hj=>?_
   have hj:=zU.mp hj
   have:=I.nO (hy j hj).1 (hx j hj).1
   have e:=(hy j hj).2
   rw[this,(hx j hj).2]at e
   exact zT e
  ·exact r2.extBut _ _ (by show @Ne Nat _ _;lia) (kp _ _ (by show @Ne Nat _ _;lia) (by show @Ne Nat _ _;lia) (λj hj=>by show @Ne Nat _ _;lia) st.t)
  ·obtain⟨j,hj,rfl⟩:=qJ hb
   rw[aw<|by show @Ne Nat _ _;lia]
   exact(hf _ hb).1
 done:=by
  intro X hP hw hK hc i pins s σ H E I hf st hg
  subst hP hw hK
  obtain⟨xs,hx,hl⟩:=hg
  obtain⟨Jx,rv0,p0,_⟩:=I.tuple<|hx 0 h1
  have hT:s.TypeIs (.ref<|n+N+2) "zip":={_,st.z,rfl}
  have HC:=rv0.length
  unfold pyNext
  refine zc<|wpAny_attempt<|wpAny_callSpecial?_slot (name:=Str.ofString "__next__") hT F.slot_zip_next<|yP F.slot_zip_next hT F.entry_zip_next (Jw h1 (I.ok.hd hc) st (lt 0 h1) (xs:=λ_=>Jx.toArray) p0 (by simp;lia) λh1 e kp he=>?_)<|F.args_zip_next_1 _
  obtain⟨o,ho,MJ⟩:=he
  refine zc<|wpAny_isInstance (T:="StopIteration") (b:=true) ⟨o,ho,MJ⟩ isSubtype_stop<|zy {rfl,?_}
  exact I.Mf (t':=s.toks) (TU n N) hf λc o hc e=>kp c o (λz=>hc<|z ▸ fu (j:=N+2) (by lia)) (λz=>hc<|z ▸ fu (j:=0) (by lia)) e
 self:=λA' i s Q E st h=>wpAny_pyIter_zip st.z h
noncomputable def two(a b:Addr):Nat->Addr:=λj=>if j=0 then a else b
noncomputable def RF(a b c:Addr):Nat->Addr:=λj=>if j=0 then a else if j=1 then b else c
theorem YC{p:Nat->Prop}(h0:p 0)(h1:p 1):∀j,j<2->p j|0,_=>h0|1,_=>h1|j+2,h=>by lia
theorem YD{p:Nat->Prop}(h0:p 0)(h1:p 1)(h2:p 2):∀j,j<3->p j|0,_=>h0|1,_=>h1|2,_=>h2|j+3,h=>by lia
section
variable{X:Cx}{a b c:Expr}{ta:TA}{p pos tp:Pos}{es:mt}{kk:Nat}
theorem RG(hg:Gl X "zip")(hm:X.mg "zip"= none)(ha:PA X [a,b] ta)(hs:starEach [a,b] X.env=[(false,eval a X.env),(false,eval b X.env)])(t6:starEach [b] X.env=[(false,eval b X.env)]): PI X (.Tuple es kk tp) (.Call (.Name "zip" p) [a,b] [] pos) (λσ H R=>ta σ H λvs H1=>∃l0 l1,vs=[.ref l0,.ref l1]/\(∃xs,gu X.K H1 l0 xs)/\(∃xs,gu X.K H1 l1 xs)/\R (RE X.K 2<|two l0 l1) H1):=by intro pins s σ H R I h;refine Call_<|gs I hg hm boot_zip<|PyProof.Rows.callWith_type1 (ba (ha pos pins s σ H _ I h) λus s1 ⟨vs,H1,I1,r1,q1⟩=>?_) (by rw[hs,t6]) (by rw[t6];rfl);obtain⟨l0,l1,e,⟨CH,q0⟩,⟨CI,q2⟩,q⟩:=q1;subst e;obtain⟨u,v,rfl,r,r'⟩:=r1.two;cases r;cases r';obtain⟨Jx,rv0,p0,_⟩:=I1.tuple q0;obtain⟨RH,Wv,p1,_⟩:=I1.tuple q2;refine CL (show s1.heap.IsTuple l0 Jx.toArray from p0) (show s1.heap.IsTuple l1 RH.toArray from p1) λh' zs kp=>?_;have zn:ZN s1.heap.objs.size 2 (two l0 l1) 0 h':={zs.1,zs.2.1,zs.2.2.1,YC zs.2.2.2.1 zs.2.2.2.2};refine wpAny_pyIter_zip (s:={s1 with heap:=h'}) zs.1 {_,_,_,_,H1,rfl,I1.kept (t':=s1.toks) kp,vg (by decide) (by decide)<|YC p0.lt p1.lt,zn,λb hb=>?_,q};obtain⟨j,_,rfl⟩:=qJ hb;exact I1.qf (Nat.le_add_right _ _)<|I1.aG.fresh<|Nat.le_add_right _ _
theorem RJ(hg:Gl X "zip")(hm:X.mg "zip"= none)(ha:PA X [a,b,c] ta)(hs:starEach [a,b,c] X.env=[(false,eval a X.env),(false,eval b X.env),(false,eval c X.env)])(t6:starEach [b,c] X.env=[(false,eval b X.env),(false,eval c X.env)]): PI X (.Tuple es kk tp) (.Call (.Name "zip" p) [a,b,c] [] pos) (λσ H R=>ta σ H λvs H1=>∃l0 l1 l2,vs=[.ref l0,.ref l1,.ref l2]/\(∃xs,gu X.K H1 l0 xs)/\(∃xs,gu X.K H1 l1 xs)/\(∃xs,gu X.K H1 l2 xs)/\R (RE X.K 3<|RF l0 l1 l2) H1):=by intro pins s σ H R I h;refine Call_<|gs I hg hm boot_zip<|PyProof.Rows.callWith_type1 (ba (ha pos pins s σ H _ I h) λus s1 ⟨vs,H1,I1,r1,q1⟩=>?_) (by rw[hs,t6]) (by rw[t6];rfl);obtain⟨l0,l1,l2,e,⟨CH,q0⟩,⟨CI,q2⟩,⟨Tq,q3⟩,q⟩:=q1;subst e;obtain⟨u,v,z,rfl,r,r',r''⟩:=r1.three;cases r;cases r';cases r'';obtain⟨Jx,rv0,p0,_⟩:=I1.tuple q0;obtain⟨RH,Wv,p1,_⟩:=I1.tuple q2;obtain⟨nS,TM,p2,_⟩:=I1.tuple q3;refine CU (show s1.heap.IsTuple l0 Jx.toArray from p0) (show s1.heap.IsTuple l1 RH.toArray from p1) (show s1.heap.IsTuple l2 nS.toArray from p2) λh' zs kp=>?_;have zn:ZN s1.heap.objs.size 3 (RF l0 l1 l2) 0 h':={zs.1,zs.2.1,zs.2.2.1,YD zs.2.2.2.1 zs.2.2.2.2.1 zs.2.2.2.2.2};refine wpAny_pyIter_zip (s:={s1 with heap:=h'}) zs.1 {_,_,_,_,H1,rfl,I1.kept (t':=s1.toks) kp,vg (by decide) (by decide)<|YD p0.lt p1.lt p2.lt,zn,λb hb=>?_,q};obtain⟨j,_,rfl⟩:=qJ hb;exact I1.qf (Nat.le_add_right _ _)<|I1.aG.fresh<|Nat.le_add_right _ _
end
section
variable{K:Frag}{X:Cx}{a c e:Expr}{t:iX}{p pos tp:Pos}{es:mt}{kk:Nat}
theorem izn(hm:X.mg "zip"= none)(ha:DA K X [a,c] t)(hg:autoParam (Gl X "zip") qQJ)(hs:autoParam (starEach [a,c] X.env=[(false,eval a X.env),(false,eval c X.env)]) qQJ)(t6:autoParam (starEach [c] X.env=[(false,eval c X.env)]) qQJ)(hK:autoParam (X.K=K) qQJ): DI K X (.Tuple es kk tp) (.Call (.Name "zip" p) [a,c] [] pos) (Wa t):=by subst hK;exact⟨λy=>(RG (X:=y.cx) hg hm (ha.of y) hs t6).mono λτ H R ⟨σ,S,RI,Z,aB,hS,q,hR,hZ⟩=>{σ,S,_,Z,aB,hS,q,λds S1 vs H1 ⟨xs,ys,e,hl,r1⟩ v1 s1 k1=>by subst e;obtain⟨v,u,rfl,ra,rb⟩:=v1.two;obtain⟨a,va,rfl,qa,ta⟩:=ra.tup;obtain⟨b,vb,rfl,qb,tb⟩:=rb.tup;refine{a,b,rfl,{va,.of qa},{vb,.of qb},hR _ S1 _ H1 r1 (λi S2 H2 k2 s2 _=>?_) s1 k1};have WR:gu X.K H2 a va:=.of<|k2.t _ _ qa;have WS:gu X.K H2 b vb:=.of<|k2.t _ _ qb;have la:va.length=xs.length:=ta.len;let f:Nat->List V:=λj=>if j=0 then va else vb;refine{λd hd=>?_,λh=>{f,YC WR WS,by show va.length<=i;unfold ic at h;rw[List.length_zipWith]at h;lia}};unfold ic at hd;obtain⟨x,y',e1,e2,e3⟩:=List.getElem?_zipWith_eq_some.mp hd;subst e3;obtain⟨vx,f1,g1⟩:=(RvAll.ts k2 _ ta).get e1;obtain⟨vy,f2,g2⟩:=(RvAll.ts k2 _ tb).get e2;let g:Nat->V:=λj=>if j=0 then vx else vy;have ok:∀j,j<2->gu X.K H2 (two a b j) (f j)/\(f j)[i]?=some (g j):=YC ⟨WR,f1⟩ ⟨WS,f2⟩;refine{⟨f,g,ok⟩,λx' H' ⟨T,hT,e4,e5⟩=>?_};have:=e5 f g ok;subst this e4;have kk:Kp X.K H2 (upd H2 T<|.tup [vx,vy]):=.new hT;exact{nX aD<|RvAll.ts kk _<|aT g1<|aT g2 bu,kk,s2.grow hT},hZ}⟩
theorem abp(hm:X.mg "zip"= none)(ha:DA K X [a,c,e] t)(hg:autoParam (Gl X "zip") qQJ)(hs:autoParam (starEach [a,c,e] X.env=[(false,eval a X.env),(false,eval c X.env),(false,eval e X.env)]) qQJ)(t6:autoParam (starEach [c,e] X.env=[(false,eval c X.env),(false,eval e X.env)]) qQJ)(hK:autoParam (X.K=K) qQJ): DI K X (.Tuple es kk tp) (.Call (.Name "zip" p) [a,c,e] [] pos) (RA t):=by subst hK;exact⟨λy=>(RJ (X:=y.cx) hg hm (ha.of y) hs t6).mono λτ H R ⟨σ,S,RI,Z,aB,hS,q,hR,hZ⟩=>{σ,S,_,Z,aB,hS,q,λds S1 vs H1 ⟨xs,ys,zs,e,hl,N3,r1⟩ v1 s1 k1=>by subst e;obtain⟨v,u,w,rfl,ra,rb,rc⟩:=v1.thr;obtain⟨a,va,rfl,qa,ta⟩:=ra.tup;obtain⟨b,vb,rfl,qb,tb⟩:=rb.tup;obtain⟨c,vc,rfl,qc,tc⟩:=rc.tup;refine{a,b,c,rfl,{va,.of qa},{vb,.of qb},{vc,.of qc},hR _ S1 _ H1 r1 (λi S2 H2 k2 s2 _=>?_) s1 k1};have WR:gu X.K H2 a va:=.of<|k2.t _ _ qa;have WS:gu X.K H2 b vb:=.of<|k2.t _ _ qb;have qc2:gu X.K H2 c vc:=.of<|k2.t _ _ qc;have la:va.length=xs.length:=ta.len;let f:Nat->List V:=λj=>if j=0 then va else if j=1 then vb else vc;refine{λd hd=>?_,λh=>{f,YD WR WS qc2,by show va.length<=i;rw[la,<-oa hl N3];exact h}};obtain⟨x,y',z,e1,e2,e3,e4⟩:=og hd;subst e4;obtain⟨vx,f1,g1⟩:=(RvAll.ts k2 _ ta).get e1;obtain⟨vy,f2,g2⟩:=(RvAll.ts k2 _ tb).get e2;obtain⟨vz,f3,g3⟩:=(RvAll.ts k2 _ tc).get e3;let g:Nat->V:=λj=>if j=0 then vx else if j=1 then vy else vz;have ok:∀j,j<3->gu X.K H2 (RF a b c j) (f j)/\(f j)[i]?=some (g j):=YD ⟨WR,f1⟩ ⟨WS,f2⟩ ⟨qc2,f3⟩;refine{⟨f,g,ok⟩,λx' H' ⟨T,hT,e4,e5⟩=>?_};have:=e5 f g ok;subst this e4;have kk:Kp X.K H2 (upd H2 T<|.tup [vx,vy,vz]):=.new hT;exact{nX aD<|RvAll.ts kk _<|aT g1<|aT g2<|aT g3 bu,kk,s2.grow hT},hZ}⟩
end
end L2
namespace My
open PySem L2
def top(i:Nat):Stmt:=PySem.Challenge.pw_pageturns_k41_walks.main.body.getD i<|.Pass {0,0,0,0}
abbrev GJ:Stmt:=top 19
abbrev Jy:Stmt:=top 20
abbrev GK:Stmt:=top 21
abbrev qo:Stmt:=top 28
abbrev Dc:Stmt:=top 30
abbrev wL:Stmt:=top 33
abbrev kG:Stmt:=top 42
abbrev Dd:Stmt:=top 44
abbrev Jz:Stmt:=top 47
abbrev um:Stmt:=top 54
abbrev AX:Stmt:=top 55
abbrev AY:Stmt:=top 59
abbrev rZ:Stmt:=top 63
abbrev gJ:Stmt:=top 65
abbrev gL:Stmt:=top 66
abbrev fw:Stmt:=top 67
abbrev Df:Stmt:=top 92
abbrev vh:Stmt:=top 94
abbrev r9:Stmt:=top 95
abbrev vi:Stmt:=top 97
abbrev vj:Stmt:=top 98
abbrev JA:Stmt:=top 102
abbrev GL:Stmt:=top 103
abbrev GN:Stmt:=top 108
abbrev vk:Stmt:=top 110
abbrev AZ:Stmt:=top 111
abbrev cM:Stmt:=top 80
abbrev bt:Stmt:=top 83
structure eJ where
 (oh lg OJ mz r_ wM ji jj mB vm aC ar fY aO eP aI:Addr)
 (gM fz JB fZ jk:FuncData)
 (mC oi mD sj kj A1 kl mE A2 M5 WT:Tok)
 ts:List Addr
 (f JC Dg:Nat->Addr)
 (d OI RK:Nat->FuncData)
structure Txt(w:World)(K:Frag)(mg:Str->Option Value)(t:eJ):Prop where
 fn:GH K mg top t.f t.d [16,17,18,19,20,21,22,23,24,25,28,29,30,31,32,33,34,40,41,42,43,44,45,46,47,48,54,55,56,57,58,59,60,62,63,64,66,70,71,72,73,74,75,76,81,84,86,87,88,89,90,91,92,93,94,95,96,97,98,99,100,101,102,103,104,105,106,107,108,109,110,111]
 dq:C8 K t.aC "Walk." cM t.JC t.OI [0,1,2,3,4,5,6,7,8,9,10,11,12,13,14]
 d9:C8 K t.ar "Shelf." bt t.Dg t.RK [0,1,2,3,4,5,6,7,8,13]
 fA:OF K mg "sorted_by_keys" (top 65) ["rows","way"] t.oh t.gM
 dU:OF K mg "sorted_by_values" (top 67) ["columns","part","rows"] t.lg t.fz
 law:OF K mg "law" (top 112) ["_law_script"] t.OJ t.JB
 dj:OG K t.ar "worths_at" "Shelf.worths_at" (inClass bt 9) ["self","key","moment"] t.mz t.fZ
 eQ:Binds K t.fZ ["self","key","moment"] [.none]
 eW:OG K t.ar "all_at" "Shelf.all_at" (inClass bt 10) ["self","moment"] t.r_ t.jk
 oj:Binds K t.jk ["self","moment"] [.none]
 lh:mg "MOST_NAME_SIGNS"= some (.int 8 t.mC)
 mF:mg "MOST_KEY_SIGNS"= some (.int 12 t.oi)
 lj:mg "MOST_WORD_SIGNS"= some (.int 40 t.mD)
 qp:mg "MOST_COLUMNS"= some (.int 8 t.sj)
 jl:mg "MOST_PARTS_orders"= some (.int 8 t.kj)
 wN:mg "MOST_DEEP"= some (.int 8 t.A1)
 jm:mg "MOST_PARTS_sieves"= some (.int 200 t.kl)
 lq:mg "MOST_IN_A_TUPLE"= some (.int 8 t.mE)
 wO:mg "MOST_ROWS"= some (.int 1000 t.A2)
 gN:mg "START"= some (.str "start" t.M5)
 wQ:mg "END"= some (.str "end" t.WT)
 JD:mg "KINDS"= some (.ref t.wM)
 JE:∀H,Rv K H (.kt [.str "number",.str "word"])<|.ref t.wM
 ig:mg "OTHER_WAY"= some (.ref t.ji)
 jn:Hv w K t.ji [("up",.str "down"),("down",.str "up")]
 mG:mg "OTHER_END"= some (.ref t.jj)
 pF:Hv w K t.jj [("first",.str "last"),("last",.str "first")]
 uo:mg "OTHER_SIDE"= some (.ref t.mB)
 wR:Hv w K t.mB [("ahead",.str "behind"),("behind",.str "ahead")]
 Dh:mg "LENGTHS"= some (.ref t.vm)
 GO:Hv w K t.vm [("every",.int 1),("is",.int 3),("below",.int 3),("above",.int 3),("begins",.int 3),("key",.int 2),("not",.int 2),("and",.int 2),("or",.int 2)]
 aY:mg "len"= none
 kH:mg "all"= none
 OL:mg "any"= none
 ay:mg "isinstance"= none
 f9:mg "range"= none
 A3:mg "int"= none
 so:mg "str"= none
 RL:mg "bool"= none
 bC:mg "tuple"= none
 JF:mg "list"= none
 RM:mg "dict"= none
 OM:mg "set"= none
 ON:mg "zip"= none
 gO:mg "sorted"= none
 JG:mg "min"= none
 OO:mg "max"= none
 WU:mg "sum"= none
 su:mg "reversed"= none
 M6:mg "Walk"= some (.ref t.aC)
 ao:qG K t.aC
 M7:Mk K t.aC (t.JC 0)
 c_:findIn K (.ref t.aC) "shelf"= some none
 bV:findIn K (.ref t.aC) "order"= some none
 d_:findIn K (.ref t.aC) "sieve"= some none
 dF:findIn K (.ref t.aC) "size"= some none
 cw:findIn K (.ref t.aC) "fore"= some none
 bH:findIn K (.ref t.aC) "hinder"= some none
 JH:mg "Shelf"= some (.ref t.ar)
 aq:qG K t.ar
 JI:Mk K t.ar (t.Dg 0)
 cS:findIn K (.ref t.ar) "columns"= some none
 cN:findIn K (.ref t.ar) "deeds"= some none
 bW:findIn K (.ref t.ar) "runs"= some none
 f_:t.gM.code=.ref t.fY
 dG:codeHdIn K t.fY t.aO=true
 mH:t.aO∈t.ts
 eR:t.fz.code=.ref t.eP
 cY:codeHdIn K t.eP t.aI=true
 km:t.aI∈t.ts
 np:[t.aO,t.aI].Nodup
 ta:∀b∈t.ts,b=t.aO\/b=t.aI
 bl:∀(s:Shared)(u:Value),BindsTo s t.JB {[u],[]} [("_law_script",u)]
section
variable{w:World}{K:Frag}{mg:Str->Option Value}{t:eJ}(T:Txt w K mg t)
def Txt.jo:=T.fn 16<|by decide
def Txt.gQ:=T.fn 17<|by decide
def Txt.om:=T.fn 18<|by decide
def Txt.qL:=T.fn 19<|by decide
def Txt.oo:=T.fn 20<|by decide
def Txt.wU:=T.fn 21<|by decide
def Txt.wV:=T.fn 22<|by decide
def Txt.mI:=T.fn 23<|by decide
def Txt.compared:=T.fn 24<|by decide
def Txt.dr:=T.fn 25<|by decide
def Txt.gB:=T.fn 28<|by decide
def Txt.oq:=T.fn 29<|by decide
def Txt.mJ:=T.fn 30<|by decide
def Txt.fB:=T.fn 31<|by decide
def Txt.jY:=T.fn 32<|by decide
def Txt.lA:=T.fn 33<|by decide
def Txt.cF:=T.fn 34<|by decide
def Txt.wW:=T.fn 40<|by decide
def Txt.Di:=T.fn 41<|by decide
def Txt.jq:=T.fn 42<|by decide
def Txt.wX:=T.fn 43<|by decide
def Txt.jr:=T.fn 44<|by decide
def Txt.eL:=T.fn 45<|by decide
def Txt.sv:=T.fn 46<|by decide
def Txt.turned:=T.fn 47<|by decide
def Txt.lB:=T.fn 48<|by decide
def Txt.gb:=T.fn 54<|by decide
def Txt.ot:=T.fn 55<|by decide
def Txt.dH:=T.fn 56<|by decide
def Txt.js:=T.fn 57<|by decide
def Txt.gC:=T.fn 58<|by decide
def Txt.passes:=T.fn 59<|by decide
def Txt.ij:=T.fn 60<|by decide
def Txt.fC:=T.fn 62<|by decide
def Txt.ik:=T.fn 63<|by decide
def Txt.sx:=T.fn 64<|by decide
def Txt.fE:=T.fn 66<|by decide
def Txt.ou:=T.fn 70<|by decide
def Txt.lC:=T.fn 71<|by decide
def Txt.eX:=T.fn 72<|by decide
def Txt.ip:=T.fn 73<|by decide
def Txt.jt:=T.fn 74<|by decide
def Txt.wY:=T.fn 75<|by decide
def Txt.ju:=T.fn 76<|by decide
def Txt.eY:=T.fn 81<|by decide
def Txt.gf:=T.fn 84<|by decide
def Txt.dy:=T.fn 86<|by decide
def Txt.iq:=T.fn 87<|by decide
def Txt.qM:=T.fn 88<|by decide
def Txt.ox:=T.fn 89<|by decide
def Txt.qN:=T.fn 90<|by decide
def Txt.EW:=T.fn 91<|by decide
def Txt.sy:=T.fn 92<|by decide
def Txt.wZ:=T.fn 93<|by decide
def Txt.eZ:=T.fn 94<|by decide
def Txt.gR:=T.fn 95<|by decide
def Txt.w4:=T.fn 96<|by decide
def Txt.jZ:=T.fn 97<|by decide
def Txt.w5:=T.fn 98<|by decide
def Txt.lE:=T.fn 99<|by decide
def Txt.w6:=T.fn 100<|by decide
def Txt.oy:=T.fn 101<|by decide
def Txt.sA:=T.fn 102<|by decide
def Txt.w9:=T.fn 103<|by decide
def Txt.oz:=T.fn 104<|by decide
def Txt.sC:=T.fn 105<|by decide
def Txt.fF:=T.fn 106<|by decide
def Txt.e8:=T.fn 107<|by decide
def Txt.w_:=T.fn 108<|by decide
def Txt.xa:=T.fn 109<|by decide
def Txt.xb:=T.fn 110<|by decide
def Txt.oA:=T.fn 111<|by decide
def Txt.gD:=T.dq 0<|by decide
def Txt.xc:=T.dq 1<|by decide
def Txt.oB:=T.dq 2<|by decide
def Txt.lF:=T.dq 3<|by decide
def Txt.oE:=T.dq 4<|by decide
def Txt.lG:=T.dq 5<|by decide
def Txt.oF:=T.dq 6<|by decide
def Txt.gE:=T.dq 7<|by decide
def Txt.ir:=T.dq 8<|by decide
def Txt.gk:=T.dq 9<|by decide
def Txt.e_:=T.dq 10<|by decide
def Txt.dI:=T.dq 11<|by decide
def Txt.cG:=T.dq 12<|by decide
def Txt.bO:=T.dq 13<|by decide
def Txt.cI:=T.dq 14<|by decide
def Txt.fG:=T.d9 0<|by decide
def Txt.fg:=T.d9 1<|by decide
def Txt.cT:=T.d9 2<|by decide
def Txt.dW:=T.d9 3<|by decide
def Txt.cy:=T.d9 4<|by decide
def Txt.bP:=T.d9 5<|by decide
def Txt.cz:=T.d9 6<|by decide
def Txt.aM:=T.d9 7<|by decide
def Txt.fh:=T.d9 8<|by decide
def Txt.cA:=T.d9 13<|by decide
end
def A4:=bx<|top 16
def xf:=bx<|top 17
def xg:=bx<|top 18
def Dj:=bx<|top 19
def GP:=bx<|top 20
def Dk:=bx<|top 21
def Dm:=bx<|top 22
def A5:=bx<|top 23
def pG:=bx<|top 24
def dP:=bx<|top 25
def oG:=bx<|top 28
def xh:=bx<|top 29
def A6:=bx<|top 30
def uq:=bx<|top 31
def xj:=bx<|top 32
def ur:=bx<|top 33
def A7:=bx<|top 34
def GQ:=bx<|top 40
def GR:=bx<|top 41
def fH:=bx<|top 42
def Dn:=bx<|top 43
def pH:=bx<|top 44
def bI:=bx<|top 45
def pI:=bx<|top 46
def vn:=bx<|top 47
def uu:=bx<|top 48
def bJ:=bx<|top 54
def xk:=bx<|top 55
def mK:=bx<|top 56
def jv:=bx<|top 57
def dX:=bx<|top 58
def vo:=bx<|top 59
def qq:=bx<|top 60
def mL:=bx<|top 62
def iH:=bx<|top 63
def gm:=bx<|top 64
def mM:=bx<|top 65
def cJ:=bx<|top 66
def ko:=bx<|top 67
def xm:=bx<|top 70
def uv:=bx<|top 71
def qr:=bx<|top 72
def uw:=bx<|top 73
def cg:=bx<|top 74
def sD:=bx<|top 75
def jw:=bx<|top 76
def qt:=bx<|top 81
def jx:=bx<|top 84
def xn:=bx<|top 86
def cO:=bx<|top 87
def Dq:=bx<|top 88
def cU:=bx<|top 89
def sE:=bx<|top 90
def A8:=bx<|top 91
def A9:=bx<|top 92
def dY:=bx<|top 93
def cP:=bx<|top 94
def eC:=bx<|top 95
def fi:=bx<|top 96
def sF:=bx<|top 97
def fI:=bx<|top 98
def ux:=bx<|top 99
def gT:=bx<|top 100
def GS:=bx<|top 101
def GU:=bx<|top 102
def cQ:=bx<|top 103
def GV:=bx<|top 104
def GW:=bx<|top 105
def pJ:=bx<|top 106
def qu:=bx<|top 107
def bj:=bx<|top 108
def Ds:=bx<|top 109
def du:=bx<|top 110
def bQ:=bx<|top 111
def cB:=bx<|top 112
def oH:=bx<|inClass cM 0
def Du:=bx<|inClass cM 1
def xo:=bx<|inClass cM 2
def uy:=bx<|inClass cM 3
def xp:=bx<|inClass cM 4
def kI:=bx<|inClass cM 5
def mN:=bx<|inClass cM 6
def oI:=bx<|inClass cM 7
def qv:=bx<|inClass cM 8
def sG:=bx<|inClass cM 9
def eM:=bx<|inClass cM 10
def dJ:=bx<|inClass cM 11
def lH:=bx<|inClass cM 12
def lI:=bx<|inClass cM 13
def eE:=bx<|inClass cM 14
def mO:=bx<|inClass bt 0
def xq:=bx<|inClass bt 1
def qw:=bx<|inClass bt 2
def uz:=bx<|inClass bt 3
def iS:=bx<|inClass bt 4
def gU:=bx<|inClass bt 5
def dQ:=bx<|inClass bt 6
def jy:=bx<|inClass bt 7
def xr:=bx<|inClass bt 8
def fJ:=bx<|inClass bt 9
def eN:=bx<|inClass bt 10
def iT:=bx<|inClass bt 13
theorem sm(h:n<=1000):n<=sizeLine:=yN<|jU h
theorem uA:0<=sizeLine:=sm<|by decide
theorem M8:1<=sizeLine:=sm<|by decide
theorem bR:2<=sizeLine:=sm<|by decide
theorem mP:3<=sizeLine:=sm<|by decide
theorem uB:4<=sizeLine:=sm<|by decide
theorem M9:5<=sizeLine:=sm<|by decide
theorem abr:6<=sizeLine:=sm<|by decide
theorem Dz:8<=sizeLine:=sm<|by decide
theorem WV:10<=sizeLine:=sm<|by decide
theorem WW:12<=sizeLine:=sm<|by decide
def Gt(S:ak)(d:D):Prop:=(∃k,Q0 S d k)/\∀z,d=.str z->z.cps.size<=1000
noncomputable def isLet(c:Nat):Bool:=decide (97<=c)&&decide (c<=122)
noncomputable def EX(c:Nat):Bool:=decide (48<=c)&&decide (c<=57)
noncomputable def EY(c:Nat):Bool:=decide (32<=c)&&decide (c<=126)
noncomputable def mQ(z:Str):Bool:=decide (1<=z.cps.size)&&decide (z.cps.size<=8)&&z.cps.toList.all isLet
noncomputable def lJ(z:Str):Bool:=decide (1<=z.cps.size)&&decide (z.cps.size<=12)&&(z.cps.toList.head?.any isLet)&&z.cps.toList.all λc=>isLet c||EX c
noncomputable def pK(z:Str):Bool:=decide (z.cps.size<=40)&&z.cps.toList.all EY
noncomputable def ofStr(f:Str->Bool):D->Bool|.str z=>f z|_=>false
noncomputable def sH:D->Bool|.int _=>true|_=>false
noncomputable def iu(kind:Str)(d:D):Bool:=ah d||if kind ="number" then sH d else ofStr pK d
def M_(f:D->Bool):rP:=λds S R _=>∃d,ds=[d]/\Gt S d/\R (.bl<|f d) S
def JJ(f:Nat->Bool):rP:=λds S R _=>∃c,ds=[.str ⟨#[c]⟩]/\R (.bl<|f c) S
theorem pL:∀{xs ys:v0}{a b:D},Paired rel xs ys->rel a b->Paired rel (xs++[a]) (ys++[b])|_,_,_,_,.nil,r=>.cons r .nil|_,_,_,_,.cons q t,r=>.cons q<|pL t r
theorem take_snoc{α:Type}{l:List α}{i:Nat}{d:α}(h:l[i]?=some d):l.take (i+1)=l.take i++[d]:=by rw[List.take_add_one,h];rfl
theorem jz{I:lW}{S1:ak}{g:AE}{te:TD}{σ:SD}{src:List<|Option Nat}{R:KD}(rel:D->D->Prop)(aG:I.ok S1)(hz:I.xs.length<=1000)(step:∀d,d∈I.xs->∀Q:KD,(∀v,rel d v->Q v S1)->g d (mr σ src) S1 λfP S3=>te fP S3 Q Zf)(fin:∀out,Paired rel I.xs out->∀p,S1 p=none->R (.ref p) (S1.set p<|.lst out)): AG σ src g mw te R I S1:=by
 refine{λi out S=>S=S1/\Paired rel (I.xs.take i) out,{rfl,.nil},λi out S h=>by rw[h.1];exact aG,?_,?_};rintro i d out S hd ⟨rfl,hp⟩;have hlen:=yX hp;rw[yp]at hlen;refine{jU<|by lia,?_};have e:(λ(fP:SD)(S3:ak)=>mw fP S3 (λb S4=>if b=true then te fP S4 (λv S5=>S5=S/\Paired rel (I.xs.take<|i+1) (out++[v])) Zf else S4=S/\Paired rel (I.xs.take<|i+1) out) Zf)=λfP S3=>te fP S3 (λv S5=>S5=S/\Paired rel (I.xs.take<|i+1) (out++[v])) Zf:=by funext fP S3;simp[mw]
 rw[e];exact step d (zG hd) _ λv hv=>{rfl,by rw[take_snoc hd];exact pL hp hv};rintro out S2 ⟨rfl,hp⟩;rw[yK]at hp;exact fin out hp
theorem sI:∀{xs out:v0},Paired (λd v=>v=f d) xs out->out=xs.map f|_,_,.nil=>rfl|_,_,.cons r t=>by rw[r,sI t];rfl
theorem comp_map(f:D->D)(aG:I.ok S1)(hz:I.xs.length<=1000)(step:∀d,d∈I.xs->∀Q:KD,Q (f d) S1->g d (mr σ src) S1 λfP S3=>te fP S3 Q Zf)(fin:∀p,S1 p=none->R (.ref p) (S1.set p<|.lst<|I.xs.map f)): AG σ src g mw te R I S1:=jz (λd v=>v=f d) aG hz (λd hd Q h=>step d hd Q<|h _ rfl) λout hp p Na=>by rw[sI hp];exact fin p Na
theorem dA{I:lW}{S1:ak}{g:AE}{tc:lV}{te:TD}{σ:SD}{src:List<|Option Nat}{R:KD}(keep:D->Bool)(f:D->D)(aG:I.ok S1)(hz:I.xs.length<=1000)(step:∀d,d∈I.xs->∀(Q:KD)(Q':ak->Prop),(keep d=true->Q (f d) S1)->(keep d=false->Q' S1)->g d (mr σ src) S1 λfP S3=>tc fP S3 (λb S4=>if b=true then te fP S4 Q Zf else Q' S4) Zf)(fin:∀p,S1 p=none->R (.ref p) (S1.set p<|.lst<|(I.xs.filter keep).map f)): AG σ src g tc te R I S1:=by refine{λi out S=>S=S1/\out=((I.xs.take i).filter keep).map f,⟨rfl,rfl⟩,λi out S h=>by rw[h.1];exact aG,?_,?_};rintro i d out S hd ⟨rfl,rfl⟩;have hlen:((I.xs.take i).filter keep).length<=(I.xs.take i).length:=yA _ _;rw[yp]at hlen;refine{by rw[zb];exact jU<|by lia,?_};refine step d (zG hd) _ (λS4=>S4=S/\_=_) (λhk=>{rfl,?_}) λhk=>{rfl,?_};rw[take_snoc hd,List.filter_append,zN,yw,if_pos hk];rfl;rw[take_snoc hd,List.filter_append,yw,if_neg<|by rw[hk];exact zd];simp;rintro out S2 ⟨rfl,rfl⟩;rw[yK];exact fin
variable{P:Program}{w:World}{K:Frag}{mg:Str->Option Value}{base:Heap}{t:eJ}(T:Txt w K mg t)
theorem jA:Ok P w base T.jo 1 (M_ sH):=by
 obtain⟨d,e,⟨⟨k,hk⟩,hz⟩,q⟩:T.jo.F.bF A4;refine{_,(s1<|sr<|uh (cb c8 T.ay av<|ap 0<|ac (ug T.A3 rC) an)<|K7<|QY<|cb c8 T.ay av<|ap 0<|ac (ug T.RL L6) an),?_};refine !{_,_,_,_,rfl,L9,hk,_,rfl,?_};have:(CA k=true/\((sH d=true/\wg k=false)\/(sH d=false/\wg k=true)))\/(CA k=false/\sH d=false):=by cases d with|au=>(cases hk;exact .inr ⟨rfl,rfl⟩)|bl b=>(cases hk;exact .inl {rfl,.inr ⟨rfl,rfl⟩})|int b=>(cases hk;exact .inl {rfl,.inl ⟨rfl,rfl⟩})|str b=>(cases hk;exact .inr ⟨rfl,rfl⟩)|tup b=>(cases hk;exact .inr ⟨rfl,rfl⟩)|ref a=>(rcases hk with⟨rfl,_⟩|⟨rfl,_⟩<;>exact .inr ⟨rfl,rfl⟩)|_=>exact hk.elim
 rcases this with⟨h1,h2⟩|⟨h1,h2⟩;rw[h1];refine eU !{_,_,_,_,rfl,ID,hk,_,rfl,?_};rcases h2 with⟨h2,h3⟩|⟨h2,h3⟩<;>(rw[h3];rw[h2]at q;exact fo q);rw[h1];rw[h2]at q;exact aW<|fo q
theorem iw:Ok P w base T.gQ 1 (JJ isLet):=by obtain⟨c,e,q⟩:T.gQ.F.bF xf;refine{_,(s1<|sr<|cc jb jb hr.u ds (dv 0) ds),?_};refine !!⟨?_⟩;have e1:Ht "a" ⟨#[c]⟩=decide (97<=c):=jV 97 c;have e2:Ht ⟨#[c]⟩ "z"= decide (c<=122):=jV c 122;unfold isLet at q;refine b9 (λh=>?_) λh=>?_;rw[e1.symm.trans h,yk,<-e2]at q;exact fo q;rw[e1.symm.trans h,zW]at q;exact fo q
theorem xt:Ok P w base T.om 1 (JJ EX):=by obtain⟨c,e,q⟩:T.om.F.bF xg;refine{_,(s1<|sr<|cc jb jb hr.u ds (dv 0) ds),?_};refine !!⟨?_⟩;have e1:Ht "0" ⟨#[c]⟩=decide (48<=c):=jV 48 c;have e2:Ht ⟨#[c]⟩ "9"= decide (c<=57):=jV c 57;unfold EX at q;refine b9 (λh=>?_) λh=>?_;rw[e1.symm.trans h,yk,<-e2]at q;exact fo q;rw[e1.symm.trans h,zW]at q;exact fo q
theorem GX(h:d∈fq z):∃c,c∈z.cps.toList/\d=.str ⟨#[c]⟩:=by unfold fq at h;obtain⟨c,hc,e⟩:=zh.mp h;exact⟨c,hc,e.symm⟩
noncomputable def EZ(f:Nat->Bool):D->D|.str z=>.bl (z.cps.toList.head?.any f)|_=>.au
theorem GY:(fq z).map (EZ f)=(z.cps.toList.map f).map D.bl:=by unfold fq;rw[zq,zq];rfl
theorem all_map{α:Type}{l:List α}{f:α->Bool} : (l.map f).all id=l.all f:=by rw[List.all_map];rfl
theorem oJ{z:Str}{f:Nat->Bool}{g:AE}{te:TD}{σ:SD}{src:List<|Option Nat}{S:ak}{R:KD}{Z:KX}{i:Nat}(hv:σ[i]?=some (some<|.str z))(hz:z.cps.size<=1000)(step:∀c,c∈z.cps.toList->∀Q:KD,Q (.bl<|f c) S->g (.str ⟨#[c]⟩) (mr σ src) S λfP S3=>te fP S3 Q Zf)(q:R (.bl<|z.cps.toList.all f) S): Yc VR (Oc (u6 (Ou<|Vy i) src g mw te) Mv) σ S (λd S'=>Fo S'<|R d) Z:=by refine{_,hv,z,rfl,?_};refine My.comp_map (I:={fq z,λ_=>True}) (EZ f) trivial (by show(fq z).length<=1000;unfold fq;rw[zb,yd];exact hz) (λd hd Q hQ=>?_) λp hp=>?_;obtain⟨c,hc,rfl⟩:=GX hd;exact step c hc Q (by simpa [EZ]using hQ);refine{.ref p,z.cps.toList.map f,rfl,?_,S,.new hp,?_};show(S.set p<|.lst<|(fq z).map<|EZ f) p=_;rw[aa,GY];rw[all_map];exact q
theorem DB{S:ak}{d:D}{k:Kd}(hk:Q0 S d k):(∃z,d=.str z/\CB k=true)\/(CB k=false/\∀f,ofStr f d=false):=by cases d with|str b=>(cases hk;exact .inl ⟨b,rfl,rfl⟩)|au=>(cases hk;exact .inr {rfl,λ_=>rfl})|bl b=>(cases hk;exact .inr {rfl,λ_=>rfl})|int b=>(cases hk;exact .inr {rfl,λ_=>rfl})|tup b=>(cases hk;exact .inr {rfl,λ_=>rfl})|ref a=>(rcases hk with⟨rfl,_⟩|⟨rfl,_⟩<;>exact .inr {rfl,λ_=>rfl})|_=>exact hk.elim
theorem RN{S:ak}{d:D}{k:Kd}(hk:Q0 S d k):(∃ds,d=.tup ds/\rE k=true)\/(rE k=false/\∀ds,d≠.tup ds):=by cases d with|tup b=>(cases hk;exact .inl ⟨b,rfl,rfl⟩)|au=>(cases hk;exact .inr {rfl,λ_=>nofun})|bl b=>(cases hk;exact .inr {rfl,λ_=>nofun})|int b=>(cases hk;exact .inr {rfl,λ_=>nofun})|str b=>(cases hk;exact .inr {rfl,λ_=>nofun})|ref a=>(rcases hk with⟨rfl,_⟩|⟨rfl,_⟩<;>exact .inr {rfl,λ_=>nofun})|_=>exact hk.elim
theorem sJ:Ok P w base T.qL 2 (M_<|ofStr mQ):=by
 obtain⟨d,e,⟨⟨k,hk⟩,hz⟩,q⟩:T.qL.F.bF Dj;refine{_,(sc (si (twd<|twor (cX<|tv<|cb c8 T.ay av<|ap 0<|ac (ug T.so k7) an)<|tw1<|cX<|Yb jb jb hr.u di (cb br T.aY aK<|ap 0 an)<|dg (v:=.int 8) T.lh {_,rfl} λ_=>aN _) (s1<|sr db) s0)<|s1<|sr<|cb kF T.kH gz<|ac (wK (N:=["sign"]) (src:=[none]) (jW GJ) (Q_<|dv 0) pC<|aQ T.gQ (iw T) hr<|ap 0 an) an),?_};refine !{_,_,_,_,rfl,df,hk,_,rfl,?_};rcases DB hk with⟨z,rfl,h0⟩|⟨h0,h1⟩;have hz:=hz z rfl;rw[h0];refine aW ?_;refine !!⟨{sm hz,?_}⟩;refine{_,rfl,?_};have e1:decide ((1:Int)<=(z.length:Nat))=decide (1<=z.cps.size):=by rw[decide_eq_decide];show(1:Int)<=((z.cps.size:Nat):Int)↔_;omega
 have e2:decide (((z.length:Nat):Int)<=8)=decide (z.cps.size<=8):=by rw[decide_eq_decide];show((z.cps.size:Nat):Int)<=8↔_;omega
 unfold ofStr mQ at q;dsimp only at q;refine b9 (λh2=>?_) λh2=>?_;rw[e1.symm.trans h2,yk]at q;refine{_,rfl,?_};refine b9 (λh3=>?_) λh3=>?_;rw[e2.symm.trans<|nt h3,zW]at q;exact fo q;rw[e2.symm.trans<|nf h3,yk]at q;exact oJ rfl hz (λc hc Q hQ=>!⟨c,rfl,hQ⟩) q;rw[e1.symm.trans h2,zW,zW]at q;refine{_,rfl,?_};exact eU<|fo q;rw[h0];rw[h1]at q;exact eU<|eU<|fo q
def az(c:Str×Str):D:=.tup [.str c.1,.str c.2]
def Gd(cs:ww):Prop:=cs.length<=8/\(cs.map Prod.fst).Nodup/\∀c∈cs,mQ c.1=true/\(c.2 ="number"\/c.2 ="word")
noncomputable def mR(cs:ww):D->Bool|.tup ws=>decide (ws.length=cs.length)&&(List.zipWith (λc v=>iu c.2 v) cs ws).all id|_=>false
noncomputable def oK(cs:ww)(k v:D):Bool:=ofStr lJ k&&mR cs v
def TV(S:ak)(d:D):Prop:=Gt S d/\∀ws,d=.tup ws->ws.length<=1000/\∀v∈ws,Gt S v
theorem j0:Ok P w base T.oo 2 (M_<|ofStr lJ):=by
 obtain⟨d,e,⟨⟨k,hk⟩,hz⟩,q⟩:T.oo.F.bF GP;refine{_,(sc (si (twd<|twor (cX<|tv<|cb c8 T.ay av<|ap 0<|ac (ug T.so k7) an)<|tw1<|cX<|Yb jb jb hr.u di (cb br T.aY aK<|ap 0 an)<|dg (v:=.int 12) T.mF {_,rfl} λ_=>aN _) (s1<|sr db) s0)<|sc (si (cX<|tv<|aQ T.gQ (iw T) hr<|ac (bn (dv 0) di) an) (s1<|sr db) s0)<|s1<|sr<|cb kF T.kH gz<|ac (wK (N:=["sign"]) (src:=[none]) (jW Jy) (Q_<|dv 0) pC<|eor (aQ T.gQ (iw T) hr<|ap 0 an)<|K7<|aQ T.om (xt T) hr<|ap 0 an) an),?_};refine !{_,_,_,_,rfl,df,hk,_,rfl,?_};rcases DB hk with⟨z,rfl,h0⟩|⟨h0,h1⟩;have hz:=hz z rfl;rw[h0];refine aW ?_;refine !!⟨{sm hz,?_}⟩;refine{_,rfl,?_};have e1:decide ((1:Int)<=(z.length:Nat))=decide (1<=z.cps.size):=by rw[decide_eq_decide];show(1:Int)<=((z.cps.size:Nat):Int)↔_;omega
 have e2:decide (((z.length:Nat):Int)<=12)=decide (z.cps.size<=12):=by rw[decide_eq_decide];show((z.cps.size:Nat):Int)<=12↔_;omega
 unfold ofStr lJ at q;dsimp only at q;refine b9 (λh2=>?_) λh2=>?_;have Z6:=e1.symm.trans h2;rw[Z6,yk]at q;refine{_,rfl,?_};refine b9 (λh3=>?_) λh3=>?_;rw[e2.symm.trans<|nt h3,zW,zW]at q;exact fo q;rw[e2.symm.trans<|nf h3,yk]at q;obtain⟨c,r,ec⟩:=len_pos (z:=z)<|zC Z6;have eh:z.cps.toList.head?.any isLet=isLet c:=by rw[ec];rfl
 rw[eh]at q;refine !{c,sm hz,at0 ec,c,rfl,_,rfl,?_};refine b9 (λh4=>?_) λh4=>?_;rw[nt h4,zW]at q;exact fo q;rw[nf h4,yk]at q;refine oJ (f:=λc=>isLet c||EX c) rfl hz (λc hc Q hQ=>?_) q;refine !{c,rfl,_,rfl,?_};refine b9 (λh5=>?_) λh5=>?_;rw[h5,Bool.true_or]at hQ;exact hQ;rw[h5,Bool.false_or]at hQ;exact{_,rfl,c,rfl,hQ};rw[e1.symm.trans h2,zW,zW,zW]at q;refine{_,rfl,?_};exact eU<|fo q;rw[h0];rw[h1]at q;exact eU<|eU<|fo q
theorem DC:Ok P w base T.wU 2 (M_<|ofStr pK):=by
 obtain⟨d,e,⟨⟨k,hk⟩,hz⟩,q⟩:T.wU.F.bF Dk;refine{_,(sc (si (twd<|twor (cX<|tv<|cb c8 T.ay av<|ap 0<|ac (ug T.so k7) an)<|tw1<|bi qk (cb br T.aY aK<|ap 0 an)<|dg (v:=.int 40) T.lj {_,rfl} λ_=>aN _) (s1<|sr db) s0)<|s1<|sr<|cb kF T.kH gz<|ac (wK (N:=["sign"]) (src:=[none]) (jW GK) (Q_<|dv 0) pC<|cc jb jb hr.u ds (dv 0) ds) an),?_};refine !{_,_,_,_,rfl,df,hk,_,rfl,?_};rcases DB hk with⟨z,rfl,h0⟩|⟨h0,h1⟩;have hz:=hz z rfl;rw[h0];refine aW ?_;refine !!⟨{sm hz,?_}⟩;refine{_,rfl,?_};have e2:decide ((40:Int)<((z.length:Nat):Int))=!decide (z.cps.size<=40):=by rw[yo];simp only[decide_eq_true_iff,Bool.not_eq_true',yq];show(40:Int)<((z.cps.size:Nat):Int)↔_;omega
 unfold ofStr pK at q;dsimp only at q;refine b9 (λh3=>?_) λh3=>?_;rw[nt<|e2.symm.trans h3,zW]at q;exact fo q;rw[nf<|e2.symm.trans h3,yk]at q;refine oJ (f:=EY) rfl hz (λc hc Q hQ=>?_) q;refine !!⟨?_⟩;have e3:Ht " " ⟨#[c]⟩=decide (32<=c):=jV 32 c;have e4:Ht ⟨#[c]⟩ "~"= decide (c<=126):=jV c 126;unfold EY at hQ;refine b9 (λh=>?_) λh=>?_;rw[e3.symm.trans h,yk,<-e4]at hQ;exact hQ;rw[e3.symm.trans h,zW]at hQ;exact hQ;rw[h0];rw[h1]at q;exact eU<|eU<|fo q
inductive sL(ds:v0)(S:ak)(R:KD)(Z:KX):Prop where
 |mk (kind d)(h0:ds=[.str kind,d])(h1:Gt S d)(h2:R (.bl<|iu kind d) S)
theorem pM:Ok P w base T.mI 3 sL:=by obtain⟨kind,d,e,hd,q⟩:T.mI.F.bF A5;refine{_,(sc (si (bi ib (dv 1) dn) (s1<|sr db) s0)<|sc (si (bi aL (dv 0) ds) (s1<|sr<|aQ T.jo (jA T) hr<|ap 1 an) s0)<|s1<|sr<|aQ T.wU (DC T) hr<|ap 1 an),?_};refine !!⟨?_⟩;unfold iu at q;refine b9 (λh=>?_) λh=>?_;rw[h,Bool.true_or]at q;exact fo q;rw[h,Bool.false_or]at q;refine !!⟨?_⟩;refine b9 (λh=>?_) λh=>?_;rw[if_pos<|zC h]at q;exact !{d,rfl,hd,fo q};rw[if_neg<|zZ h]at q;exact !{d,rfl,hd,fo q}
theorem gt_str(h:z.cps.size<=1000):Gt S (.str z):={{.str,rfl},λy e=>by cases e;exact h}
theorem oM(h:mQ z=true):z.cps.size<=1000:=by unfold mQ at h;simp only[zA,zS]at h;lia
theorem GZ(h:∀c v,f (.tup [az c,v])=.bl (iu c.2 v)):(ic (cs.map az) ws).map f=(List.zipWith (λc v=>iu c.2 v) cs ws).map D.bl:=by unfold ic;induction cs generalizing ws with|nil=>(cases ws<;>rfl)|cons c cs ih=>cases ws with|nil=>rfl|cons v ws=>show f (.tup [az c,v])::(List.zipWith _ (cs.map az) ws).map f=.bl (iu c.2 v)::_;rw[h,ih]
noncomputable def pairF:D->D|.tup [.tup [_,.str k],v]=>.bl (iu k v)|_=>.au
inductive vp(ds:v0)(S:ak)(R:KD)(Z:KX):Prop where
 |mk (z)(h0:ds=[.str z])(h1:(z ="number"\/z ="word"))(h2:R (.bl true) S)
theorem DD:Ok P w base T.wV 1 vp:=by
 obtain⟨z,e,hz,q⟩:T.wV.F.bF Dm;refine{_,(s1<|sr<|uh (cb c8 T.ay av<|ap 0<|ac (ug T.so k7) an)<|K7<|be rN (dv 0)<|dg (v:=.ref t.wM) T.JD rfl T.JE),?_};refine !{_,_,_,_,rfl,df,rfl,_,rfl,eU !{rfl,rfl,?_}};have e:wa (kh<|.str z) ([D.str "number",D.str "word"].map kh)=true:=by rcases hz with rfl|rfl<;>decide +kernel
 show Fo S (R<|.bl<|if false=true then _ else wa (kh<|.str z) ([D.str "number",D.str "word"].map kh));rw[if_neg zd,e];exact fo q
inductive pN(ds:v0)(S:ak)(R:KD)(Z:KX):Prop where
 |mk (c)(h0:ds=[az c])(h1:mQ c.1=true)(h2:(c.2 ="number"\/c.2 ="word"))(h3:R (.bl true) S)
theorem xu:Ok P w base T.oq 3 pN:=by obtain⟨c,e,h1,h2,q⟩:T.oq.F.bF xh;refine{_,(sc (si (twd<|twor (cX<|tv<|cb c8 T.ay av<|ap 0<|ac (ug T.bC aX) an)<|tw1<|bi k9 (cb br T.aY aK<|ap 0 an) di) (s1<|sr db) s0)<|s1<|sr<|uh (aQ T.qL (sJ T) hr<|ac (bn (dv 0) di) an)<|K7<|aQ T.wV (DD T) hr<|ac (bn (dv 0) di) an),?_};refine !{_,_,_,_,rfl,bh,rfl,_,rfl,?_};refine aW !!!⟨aW ?_⟩;refine !!!{gt_str<|oM h1,_,rfl,?_};show if mQ c.1=true then _ else _;rw[h1];exact eU !!!{h2,fo q}
inductive sM(ds:v0)(S:ak)(R:KD)(Z:KX):Prop where
 |mk (cs:ww)(h0:ds=[.tup<|cs.map az])(h1:cs.length<=8)(h2:∀p,S p=none->R (.ref p) (S.set p<|.lst<|(cs.map Prod.fst).map D.str))
theorem pO:Ok P w base T.mJ 1 sM:=by
 obtain⟨cs,e,hl,q⟩:T.mJ.F.bF A6;refine{_,(s1<|sr<|TB (N:=["name","kind"]) (src:=[none,none]) (jW Dc) (EF<|dv 0) (We<|show(["name","kind"]:j4).Nodup by trivial) (me rfl rfl) mx (λ_ _ _ _ _=>pC) λ_ _ _ _ _=>(dv 0)),?_};refine !{_,.inl rfl,?_};refine comp_map (λd=>match d with|.tup (x::_)=>x|_=>.au) trivial (by show(cs.map az).length<=1000;rw[zb];lia) (λd hd Q hQ=>?_) λp hp=>?_;obtain⟨c,hc,rfl⟩:=zh.mp hd;exact !{rfl,_,_,rfl,_,_,rfl,rfl,_,rfl,hQ};have e:(cs.map az).map (λd=>match d with|.tup (x::_)=>x|_=>.au)=(cs.map Prod.fst).map D.str:=by rw[zq,zq];rfl
 show Fo (S.set p<|.lst<|(cs.map az).map _) (R<|.ref p);rw[e];exact fo<|q p hp
inductive iI(ds:v0)(S:ak)(R:KD)(Z:KX):Prop where
 |mk (cs)(h0:ds=[.tup<|cs.map az])(h1:Gd cs)(h2:R .au S)
theorem oN:Ok P w base T.gB 4 iI:=by
 obtain⟨cs,e,⟨hl,hn,hg⟩,q⟩:T.gB.F.bF oG;refine{_,(sc (si (twd<|twor (cX<|tv<|cb c8 T.ay av<|ap 0<|ac (ug T.bC aX) an)<|tw1<|bi qk (cb br T.aY aK<|ap 0 an)<|dg (v:=.int 8) T.qp {_,rfl} λ_=>aN _) (s1 y7) s0)<|sc (si (cX<|tv<|cb kF T.kH gz<|ac (wK (N:=["column"]) (src:=[none]) (jW qo) (EF<|dv 0) pC<|aQ T.oq (xu T) hr<|ap 0 an) an) (s1 y7) s0)<|s1<|si (bi k9 (lse (aQ T.mJ (pO T) hr<|ap 0 an) T.aY T.OM)<|cb br T.aY aK<|ap 0 an) (s1 y7) s0),?_};refine !{_,_,_,_,rfl,bh,rfl,_,rfl,?_};have e1:decide ((8:Int)<((cs.map az).length:Nat))=false:=zx (by rw[zb];lia);refine aW !!!⟨?_⟩;show if decide ((8:Int)<((cs.map az).length:Nat))=true then _ else _;rw[e1];refine aW ?_;refine !{_,.inl rfl,?_};refine comp_map (λ_=>.bl true) trivial (by show(cs.map az).length<=1000;rw[zb];lia) (λd hd Q hQ=>?_) λp hp=>?_;obtain⟨c,hc,rfl⟩:=zh.mp hd;exact !{c,rfl,(hg c hc).1,(hg c hc).2,hQ};have e2:(cs.map az).map (λ_=>D.bl true)=(cs.map λ_=>true).map D.bl:=by rw[zq,zq];rfl
 have e3:(cs.map λ_=>true).all id=true:=by rw[all_map];exact zR.mpr λ_ _=>rfl
 refine{.ref p,cs.map λ_=>true,rfl,?_,_,rfl,?_};show(S.set p<|.lst<|(cs.map az).map _) p=_;rw[aa,e2];rw[e3];refine aW ?_;refine !{cs,rfl,hl,λp2 eT=>?_};refine{cs.map Prod.fst,aa,by rw[zb];lia,_,rfl,_,rfl,_,rfl,?_};have e4:decide ((((ja<|cs.map Prod.fst).length:Nat):Int)=(((cs.map az).length:Nat):Int))=true:=zu (by rw[(u3 _).mpr hn,zb,zb]);show if (if true=true then !decide ((((ja<|cs.map Prod.fst).length:Nat):Int)=(((cs.map az).length:Nat):Int)) else _)=true then _ else _;rw[if_pos rfl,e4];exact aW {S,(Sub.new hp).trans<|.new eT,q}
inductive mS(ds:v0)(S:ak)(R:KD)(Z:KX):Prop where
 |mk (cs d)(h0:ds=[.tup<|cs.map az,d])(h1:cs.length<=8)(h2:TV S d)(h3:R (.bl<|mR cs d) S)
theorem uC:Ok P w base T.lA 4 mS:=by
 obtain⟨cs,d,e,hl,⟨⟨⟨k,hk⟩,hz⟩,hw⟩,q⟩:T.lA.F.bF ur;refine{_,(sc (si (twd<|twor (cX<|tv<|cb c8 T.ay av<|ap 1<|ac (ug T.bC aX) an)<|tw1<|bi k9 (cb br T.aY aK<|ap 1 an)<|cb br T.aY aK<|ap 0 an) (s1<|sr db) s0)<|s1<|sr<|cb kF T.kH gz<|ac (TB (N:=["column","value"]) (src:=[none,none]) (jW wL) (izn T.ON<|ap 0<|ap 1 an) (We<|show(["column","value"]:j4).Nodup by trivial) (me rfl rfl) mx (λ_ _ _ _ _=>pC) λ_ _ _ _ _=>(aQ T.mI (pM T) hr<|ac (bn (dv 0) di)<|ap 1 an)) an),?_};refine !{_,_,_,_,rfl,bh,hk,_,rfl,?_};rcases RN hk with⟨ws,rfl,h0⟩|⟨h0,h1⟩;obtain⟨hw1,VY⟩:=hw ws rfl;rw[h0];refine aW !!!!!⟨?_⟩;have e1:decide (((ws.length:Nat):Int)=(((cs.map az).length:Nat):Int))=decide (ws.length=cs.length):=by rw[decide_eq_decide,zb];lia
 unfold mR at q;dsimp only at q;show if (if true=true then !decide (((ws.length:Nat):Int)=(((cs.map az).length:Nat):Int)) else _)=true then _ else _;rw[if_pos rfl,e1];refine b9 (λh=>?_) λh=>?_;rw[nt h,zW]at q;exact fo q;have h:=nf h;rw[h,yk]at q;have h:=zC h;refine !!{cs.map az,ws,rfl,by rw[zb];exact h.symm,?_};refine comp_map pairF trivial (by show(ic (cs.map az) ws).length<=1000;unfold ic;rw[List.length_zipWith,zb];lia) (λd hd Q hQ=>?_) λp hp=>?_;unfold ic at hd;obtain⟨i,ei⟩:=yE hd;obtain⟨x,y,e2,e3,e4⟩:=List.getElem?_zipWith_eq_some.mp ei;subst e4;rw[zm]at e2;cases e5:cs[i]? with|none=>(rw[e5]at e2;cases e2)|some c=>rw[e5]at e2;cases e2;exact !{rfl,_,_,rfl,_,_,rfl,rfl,_,rfl,_,rfl,_,rfl,c.2,y,rfl,VY y<|zG e3,hQ}
 refine{.ref p,List.zipWith (λc v=>iu c.2 v) cs ws,rfl,?_,S,.new hp,q};show(S.set p<|.lst<|(ic (cs.map az) ws).map pairF) p=_;rw[aa,GZ λ_ _=>rfl];rw[h0];have e:mR cs d=false:=by cases d with|tup ws=>exact absurd rfl (h1 ws)|_=>rfl
 rw[e]at q;exact eU<|eU<|fo q
inductive pP(t:eJ)(ds:v0)(S:ak)(R:KD)(Z:KX):Prop where
 |mk (cs k v)(h0:ds=[.tup<|cs.map az,.tup [k,v]])(h1:cs.length<=8)(h2:Gt S k)(h3:TV S v)(h4:(oK cs k v=true->R .au S))(h5:oK cs k v=false->False)
theorem mT:Ok P w base T.jY 5 (pP t):=by obtain⟨cs,k,v,e,hl,hk,hv,q1,q2⟩:T.jY.F.bF xj;refine{_,(sc (si (twd<|twor (cX<|tv<|cb c8 T.ay av<|ap 1<|ac (ug T.bC aX) an)<|tw1<|bi k9 (cb br T.aY aK<|ap 1 an) di) (s1 y7) s0)<|sc (si (cX<|tv<|aQ T.oo (j0 T) hr<|ac (bn (dv 1) di) an) (s1 y7) s0)<|s1<|si (cX<|tv<|aQ T.lA (uC T) hr<|ap 0<|ac (bn (dv 1) di) an) (s1 y7) s0),?_};refine !{_,_,_,_,rfl,bh,rfl,_,rfl,?_};refine aW !!!⟨aW ?_⟩;refine !!{k,rfl,hk,_,rfl,?_};unfold oK at q1 q2;refine b9 (λh=>?_) λh=>?_;rw[nt h,zW]at q2;exact q2 rfl;rw[nf h,yk]at q1 q2;refine !!!{cs,v,rfl,hl,hv,_,rfl,?_};refine b9 (λh=>?_) λh=>?_;exact q2<|nt h;exact fo<|q1<|nf h
theorem bg(h:n<=100000):n<sizeLine:=by rw[yf];lia
structure Std where
 b:Nat
 e:Option Nat
 ws:List D
abbrev wE:=List Std
def eD:Option Nat->D|none=>.au|some n=>.int (n:Nat)
def jB(s:Std):D:=.tup [.int (s.b:Nat),eD s.e,.tup s.ws]
noncomputable def TY:List Std->Int->D|[],_=>.au|s::r,m=>if (s.b:Int)<=m then (match s.e with|none=>.tup s.ws|some n=>if m<=(n:Int) then .tup s.ws else .au) else TY r m
noncomputable def wt(l:wE)(m:Int):D:=TY l.reverse m
abbrev Ra:=List<|Str×Addr×List Std
abbrev mU:=List<|Str×List Std
def gW(ra:Ra):mU:=ra.map λr=>(r.1,r.2.2)
def dM(ra:Ra):wf:=ra.map λr=>(Sum.inr r.1,D.ref r.2.1)
noncomputable def lu(rs:mU)(k:Str):Option (List Std):=(rs.find? λr=>decide<|r.1=k).map (·.2)
noncomputable def tT(ra:Ra)(k:Str):Option (Addr×List Std):=(ra.find? λr=>decide<|r.1=k).map (·.2)
noncomputable def tU(ra:Ra)(k:Str)(s:wE):Ra:=ra.map λr=>if r.1=k then (r.1,r.2.1,s) else r
noncomputable def DF(rs:mU)(k:Str)(s:wE):mU:=if (lu rs k).isSome then rs.map λr=>if r.1=k then (r.1,s) else r else rs++[(k,s)]
theorem gF(ra:Ra)(k:Str):lu (gW ra) k=(tT ra k).map (·.2):=by unfold lu tT gW;induction ra with|nil=>rfl|cons r ra ih=>rw[zt,yb,yb];by_cases h:r.1=k;rw[zu h];rfl;rw[zx h];exact ih
theorem gX(ra:Ra)(k:Str):cn (dM ra) (.inr k)=(tT ra k).map λp=>D.ref p.1:=by unfold cn tT dM;induction ra with|nil=>rfl|cons r ra ih=>rw[zt,yb,yb];by_cases h:r.1=k;rw[zu h];have:decide ((Sum.inr r.1:Key)=.inr k)=true:=zu (by rw[h]);dsimp only;rw[this];rfl;rw[zx h];have:decide ((Sum.inr r.1:Key)=.inr k)=false:=zx λe=>h<|yM e;dsimp only;rw[this];exact ih
theorem dk(h:tT ra k=some (l,s)):(k,l,s)∈ra:=by unfold tT at h;cases q:ra.find? λr=>decide (r.1=k) with|none=>(rw[q]at h;cases h)|some r=>rw[q]at h;have h1:=List.find?_some q;have h2:=List.mem_of_find?_eq_some q;obtain⟨k',l',s'⟩:=r;have e:k'=k:=zC h1;cases h;rw[<-e];exact h2
theorem mV(h:tT ra k=none):∀r∈ra,r.1≠k:=by unfold tT at h;intro r hr e;have:=List.find?_eq_none.mp (Option.map_eq_none_iff.mp h) r hr;simp[e]at this
theorem iy:∀{l:List α}{x y:α},(l.map f).Nodup->x∈l->y∈l->f x=f y->x=y|z::l,x,y,nd,hx,hy,e=>by rw[zt]at nd;obtain⟨n1,n2⟩:=yi.mp nd;rcases zi.mp hx with ex|FI;rcases zi.mp hy with ey|UZ;rw[ex,ey];exact absurd (zh.mpr {y,UZ,by rw[<-e,ex]}) n1;rcases zi.mp hy with ey|UZ;exact absurd (zh.mpr {x,FI,by rw[e,ey]}) n1;exact iy n2 FI UZ e
structure DH(C:Addr)(S:ak)(a ld lr:Addr)(cs:ww)(dl:v0)(ra:Ra):Prop where
 ins:S a=some (.ins C [("columns",.tup<|cs.map az),("deeds",.ref ld),("runs",.ref lr)])
 A_:S ld=some (.lst dl)
 run:S lr=some (.cj<|dM ra)
 cell:∀r∈ra,S r.2.1=some (.lst<|r.2.2.map jB)
 kn:(ra.map (·.1)).Nodup
 an:(ld::ra.map (·.2.1)).Nodup
 sz:∀r∈ra,r.2.2.length<=dl.length
def fp(a ld lr:Addr)(ra:Ra):im:=a::ld::lr::ra.map (·.2.1)
def bY(C:Addr)(S:ak)(a:Addr)(F:im)(cs:ww)(dl:v0)(rs:mU):Prop:=∃ld lr ra,DH C S a ld lr cs dl ra/\F=fp a ld lr ra/\rs=gW ra
def DJ(F F':im)(S S':ak):Prop:=∀b c,b∉F->S b=some c->b∉F'/\S' b=some c
theorem DJ.trans(a:DJ F F1 S S1)(b:DJ F1 F2 S1 S2):DJ F F2 S S2:=λp c h e=>by obtain⟨h1,e1⟩:=a p c h e;exact b p c h1 e1
section
variable{C a ld lr:Addr}{S:ak}{cs:ww}{dl:v0}{ra:Ra}
theorem DH.DK(h:DH C S a ld lr cs dl ra){l:Addr}{ds:v0}(e:S l=some (.lst ds)):l≠a/\l≠lr:=by constructor;rintro rfl;rw[h.ins]at e;cases e;rintro rfl;rw[h.run]at e;cases e
theorem DH.put(h:DH C S a ld lr cs dl ra)(hk:tT ra k=some (l,s))(hs:s'.length<=dl.length):DH C (S.set l<|.lst<|s'.map jB) a ld lr cs dl (tU ra k s'):=by
 have hm:=dk hk;have hl:=h.cell _ hm;obtain⟨n1,n2⟩:=h.DK hl;obtain⟨nd1,nd2⟩:=yi.mp h.an;have n3:l≠ld:=λe=>nd1 (by rw[<-e];exact zh.mpr {_,hm,rfl});have e1:(tU ra k s').map (·.1)=ra.map (·.1):=by unfold tU;rw[zq];exact zV λr _=>by dsimp only[Function.comp];split<;>rfl
 have e2:(tU ra k s').map (·.2.1)=ra.map (·.2.1):=by unfold tU;rw[zq];exact zV λr _=>by dsimp only[Function.comp];split<;>rfl
 have e3:dM (tU ra k s')=dM ra:=by unfold dM tU;rw[zq];exact zV λr _=>by dsimp only[Function.comp];split<;>rfl
 refine{by rw[ae n1.symm];exact h.ins,by rw[ae n3.symm];exact h.A_,by rw[ae n2.symm,e3];exact h.run,λr hr=>?_,by rw[e1];exact h.kn,by rw[e2];exact h.an,λr hr=>?_};unfold tU at hr;obtain⟨r0,E1,e⟩:=zh.mp hr;by_cases q:r0.1=k;rw[if_pos q]at e;have er:r0=(k,l,s):=iy h.kn E1 hm q;subst er e;rw[aa];rw[if_neg q]at e;subst e;have:r0.2.1≠l:=λe=>q (by have:=iy nd2 E1 hm e;rw[this]);rw[ae this];exact h.cell _ E1;unfold tU at hr;obtain⟨r0,E1,e⟩:=zh.mp hr;by_cases q:r0.1=k;rw[if_pos q]at e;subst e;exact hs;rw[if_neg q]at e;subst e;exact h.sz _ E1
theorem DH.add(h:DH C S a ld lr cs dl ra)(hk:tT ra k=none)(hl:S l=none)(hs:s.length<=dl.length)(e1:S' l=some (.lst<|s.map jB))(e2:S' lr=some (.cj<|dM<|ra++[(k,l,s)]))(e3:∀b,b≠l->b≠lr->S' b=S b):DH C S' a ld lr cs dl (ra++[(k,l,s)]):=by
 have n1:a≠l:=fk h.ins hl;have n2:ld≠l:=fk h.A_ hl;have n3:a≠lr:=by rintro rfl;have:=h.run;rw[h.ins]at this;cases this
 have n4:ld≠lr:=by rintro rfl;have:=h.run;rw[h.A_]at this;cases this
 refine{by rw[e3 _ n1 n3];exact h.ins,by rw[e3 _ n2 n4];exact h.A_,e2,λr hr=>?_,?_,?_,λr hr=>?_};rcases zP.mp hr with hr|hr;have hc:=h.cell r hr;rw[e3 _ (fk hc hl) (h.DK hc).2];exact hc;rw[zK.mp hr];exact e1;rw[zN];exact l_ h.kn λm=>by obtain⟨r,hr,e⟩:=zh.mp m;exact mV hk r hr e
 rw[zN,<-List.cons_append];refine l_ h.an λm=>?_;rcases zi.mp m with e|m;exact n2 e.symm;obtain⟨r,hr,e⟩:=zh.mp m;exact fk (h.cell r hr) hl e;rcases zP.mp hr with hr|hr;exact h.sz r hr;rw[zK.mp hr];exact hs
theorem DH.RO(h:DH C S a ld lr cs dl ra)(d:D):DH C (S.set ld<|.lst<|dl++[d]) a ld lr cs (dl++[d]) ra:=by obtain⟨n1,n2⟩:=h.DK h.A_;obtain⟨nd1,nd2⟩:=yi.mp h.an;refine{by rw[ae n1.symm];exact h.ins,aa,by rw[ae n2.symm];exact h.run,λr hr=>?_,h.kn,h.an,λr hr=>by rw[zE];exact zI (h.sz r hr)<|Nat.le_add_right _ _};rw[ae λe=>nd1<|by rw[<-e];exact zh.mpr ⟨r,hr,rfl⟩];exact h.cell r hr
end
inductive OP(C:Addr)(ds:v0)(S:ak)(R:KD)(Z:KX):Prop where
 |mk (a F cs dl rs)(h0:ds=[.ref a])(h1:bY C S a F cs dl rs)(h2:R (.int (dl.length:Nat)) S)
theorem xw:lY P w mg base T.fh 1 (OP t.ar):=by obtain⟨a,F,cs,dl,rs,e,⟨ld,lr,ra,h,_⟩,q⟩:T.fh.F.bF xr;refine{_,(s1<|sr<|cb br T.aY aK<|ac (fl T.aq T.cN<|dv 0) an),?_};exact !{a,_,_,rfl,h.ins,rfl,_,rfl,.inl {dl,h.A_,fo q}}
inductive eS(t:eJ)(ds:v0)(S:ak)(R:KD)(Z:KX):Prop where
 |mk (a F cs dl rs)(h0:ds=[.ref a])(h1:bY t.ar S a F cs dl rs)(h2:R (.tup<|cs.map az) S)
theorem bK:lY P w mg base T.aM 1 (eS t):=by obtain⟨a,F,cs,dl,rs,e,⟨ld,lr,ra,h,_⟩,q⟩:T.aM.F.bF jy;refine{_,(s1<|sr<|fl T.aq T.cS<|dv 0),?_};exact !{a,_,_,rfl,h.ins,rfl,fo q}
noncomputable def uD(n:Nat):D->Option Int|.au=>some n|.int i=>(if 0<=i/\i<=(n:Int) then some i else none)|_=>none
inductive E3(C:Addr)(ds:v0)(S:ak)(R:KD)(Z:KX):Prop where
 |mk (a F cs dl rs m)(h0:ds=[.ref a,m])(h1:bY C S a F cs dl rs)(h2:Gt S m)(h3:(∀i,uD dl.length m=some i->R (.int i) S))(h4:uD dl.length m=none->False)
theorem iJ:lY P w mg base T.cA 2 (E3 t.ar):=by
 obtain⟨a,F,cs,dl,rs,m,e,hS,hm,q1,q2⟩:T.cA.F.bF iT;obtain⟨ld,lr,ra,h,hF,tR⟩:=id hS;refine{_,(sc (si (bi ib (dv 1) dn) (s1<|sr<|fS (dv 0) T.aq T.fh (xw T) hr) s0)<|sc (si (twd<|twor (cX<|tv<|aQ T.jo (jA T) hr<|ap 1 an)<|tw1<|cX<|Yb jb jb hr.u di (dv 1)<|fS (dv 0) T.aq T.fh (xw T) hr) (s1 y7) s0)<|s1<|sr<|dv 1),?_};refine !!⟨?_⟩;refine b9 (λh1=>?_) λh1=>?_;have e:m=.au:=by cases m<;>first|rfl|cases h1
 subst e;exact !{a,_,rfl,h.ins,rfl,a,F,cs,dl,rs,rfl,hS,fo<|q1 _ rfl};refine !{m,rfl,hm,_,rfl,?_};refine b9 (λh2=>?_) λh2=>?_;have h2:=nt h2;have e:uD dl.length m=none:=by cases m with|au=>(cases h1)|int i=>(cases h2)|_=>rfl
 exact eU<|q2 e;have h2:=nf h2;obtain⟨i,rfl⟩:∃i,m=.int i:=by cases m<;>first|exact{_,rfl}|cases h2
 refine !!⟨?_⟩;refine b9 (λh3=>?_) λh3=>?_;have h3:0<=i:=zC h3;refine !{a,_,rfl,h.ins,rfl,a,F,cs,dl,rs,rfl,hS,_,rfl,?_};refine b9 (λh4=>?_) λh4=>?_;have h4:¬i<=((dl.length:Nat):Int):=zZ<|nt h4;exact q2<|if_neg λz=>h4 z.2;have h4:i<=((dl.length:Nat):Int):=zC<|nf h4;exact{_,rfl,fo<|q1 i<|if_pos ⟨h3,h4⟩};have h3:¬0<=i:=zZ h3;exact{_,rfl,eU<|q2<|if_neg λz=>h3 z.1}
inductive kJ(ds:v0)(S:ak)(R:KD)(Z:KX):Prop where
 |mk (l vq m)(h0:ds=[.ref l,.int m])(h1:S l=some (.lst<|vq.map jB))(h2:R (wt vq m) S)
theorem jC:Ok P w base T.gf 1 kJ:=by
 obtain⟨l,vq,m,e,hl,q⟩:T.gf.F.bF jx;refine{_,(sc (ql<|Hy (irv T.su<|ap 0 an) (gn (i:=2) jx.nd)<|s1<|si (bi jb (bn (dv 2) di)<|dv 1) (s1<|sr<|VB (twd<|twor (bi ib (bn (dv 2) di) dn)<|tw1<|bi jb (dv 1)<|bn (dv 2) di) (bn (dv 2) di) dn) s0)<|s1<|sr dn),?_};refine{λaA S'=>S'=S/\wt vq m=.au,?_,?_};refine !{_,_,rfl,hl,?_};refine{λi aA S'=>(∃o,aA=[some<|.ref l,some<|.int m,o])/\S'=S/\wt vq m=TY (vq.reverse.drop i) m,{⟨none,rfl⟩,rfl,by rw[List.drop_zero];rfl},λi aA S' h=>by rw[h.2.1];exact hl,?_,?_};rintro i d aA S' hd ⟨⟨o,rfl⟩,rfl,hw⟩;rw[<-List.map_reverse,zm]at hd;cases e1:vq.reverse[i]? with|none=>(rw[e1]at hd;cases hd)|some sd=>rw[e1]at hd;cases hd;have e2:vq.reverse.drop i=sd::vq.reverse.drop (i+1):=(by obtain⟨hi,e⟩:=ze.mp e1;rw[yj hi,e]);obtain⟨sb,se,sw⟩:=sd;rw[e2]at hw;refine !!!!⟨?_⟩;unfold TY at hw;refine b9 (λh=>?_) λh=>?_;rw[if_pos<|zC h]at hw;refine !!!⟨?_⟩;(cases se with|none=>refine eU<|eU !!⟨?_⟩;rw[hw]at q;exact fo q|some n=>refine aW !!!!⟨?_⟩;dsimp only at hw;refine b9 (λh=>?_) λh=>?_;rw[if_pos<|zC h]at hw;rw[hw]at q;exact !!⟨fo q⟩;rw[if_neg<|zZ h]at hw;rw[hw]at q;exact fo q);rw[if_neg<|zZ h]at hw;exact{{_,rfl},rfl,hw}
 rintro aA S' ⟨_,rfl,hw⟩;refine fo {rfl,?_};rw[hw,yI,zb,List.drop_eq_nil_of_le<|by rw[yI];exact zr _];rfl;rintro aA S' ⟨rfl,hw⟩;rw[hw]at q;exact fo q
noncomputable def B6(rs:mU)(k:D)(i:Int):D:=match k with|.str z=>(if lJ z=true then wt ((lu rs z).getD []) i else .au)|_=>.au
inductive OQ(C:Addr)(ds:v0)(S:ak)(R:KD)(Z:KX):Prop where
 |mk (a F cs dl rs k m)(h0:ds=[.ref a,k,m])(h1:bY C S a F cs dl rs)(h2:Gt S k)(h3:Gt S m)(h4:(∀i,uD dl.length m=some i->R (B6 rs k i) S))(h5:uD dl.length m=none->False)
theorem mW:lY P w mg base T.dj 3 (OQ t.ar):=by
 obtain⟨a,F,cs,dl,rs,k,m,e,hS,hk,hm,q1,q2⟩:T.dj.F.bF fJ;obtain⟨ld,lr,ra,h,hF,tR⟩:=id hS;refine{_,(sc (ck (i:=3) fJ.nd<|lZ (dv 0) T.aq T.cA (iJ T) hr<|ap 2 an)<|sc (si (cX<|tv<|aQ T.oo (j0 T) hr<|ap 1 an) (s1<|sr dn) s0)<|s1<|sr<|aQ T.gf (jC T) hr<|ac (ca (fl T.aq T.bW<|dv 0) (dv 1)<|cK an)<|ap 3 an),?_};refine !{a,_,rfl,h.ins,rfl,_,rfl,a,F,cs,dl,rs,m,rfl,hS,hm,λi hi=>?_,q2};have q:=q1 i hi;refine !{k,rfl,hk,_,rfl,?_};refine b9 (λh1=>?_) λh1=>?_;have e:B6 rs k i=.au:=by cases k with|str z=>exact if_neg (by rw[show lJ z=false from nt h1];exact zd)|_=>rfl
 rw[e]at q;exact fo q;have h1:=nf h1;obtain⟨z,rfl⟩:∃z,k=.str z:=by cases k with|str z=>exact⟨z,rfl⟩|_=>cases h1
 have e:B6 rs (.str z) i=wt ((lu rs z).getD []) i:=if_pos h1;rw[e]at q;refine !{a,_,_,rfl,h.ins,rfl,lr,_,rfl,h.run,_,rfl,sm<|by decide,λp hp=>{dM ra,.inr z,?_,rfl,?_}};rw[ae<|fk h.run hp];exact h.run;rw[gX];refine{_,rfl,?_};cases e1:tT ra z with|none=>have e2:lu rs z=none:=(by rw[tR,gF,e1];rfl);rw[e2]at q;exact{p,[],i,rfl,aa,S,.new hp,q}|some ls=>obtain⟨l,vq⟩:=ls;have e2:lu rs z=some vq:=(by rw[tR,gF,e1];rfl);rw[e2]at q;have hc:=h.cell _<|dk e1;exact{l,vq,i,rfl,by rw[ae<|fk hc hp];exact hc,S,.new hp,q}
theorem OR(h:tT ra k=some (l,s)):DF (gW ra) k s'=gW (tU ra k s'):=by unfold DF;rw[gF,h,if_pos<|show(Option.map (λx:Addr×List Std=>x.2)<|some (l,s)).isSome=true from rfl];unfold gW tU;rw[zq,zq];exact zV λr _=>by dsimp only[Function.comp];split<;>rfl
theorem RP(h:tT ra k=none):DF (gW ra) k s=gW (ra++[(k,l,s)]):=by unfold DF;rw[gF,h,if_neg<|show ¬(Option.map (λx:Addr×List Std=>x.2) none).isSome=true from zd];unfold gW;rw[zN];rfl
theorem RQ(h:tT ra k=none):dput (dM ra) (.inr k) (.ref l)=dM (ra++[(k,l,s)]):=by
 unfold dput;have e:((dM ra).any λkv=>decide<|kv.1=.inr k)=false:=by rw[List.any_eq_false];intro x hx;unfold dM at hx;obtain⟨r,hr,rfl⟩:=zh.mp hx;simp only[zS];exact λe=>mV h r hr<|yM e
 rw[e,if_neg zd];unfold dM;rw[zN];rfl
theorem JK:fp a ld lr (tU ra k s)=fp a ld lr ra:=by unfold fp tU;rw[zq];congr 3;exact zV λr _=>by dsimp only[Function.comp];split<;>rfl
theorem sN(h:l∈F):DJ F F S (S.set l c):=λb x hb e=>{hb,by rw[ae<|show b≠l from λz=>hb<|by rw[z];exact h];exact e}
theorem JL(h:r∈ra):r.2.1∈fp a ld lr ra:=zf _<|zf _<|zf _<|zh.mpr ⟨r,h,rfl⟩
inductive E6(C:Addr)(ds:v0)(S:ak)(R:KD)(Z:KX):Prop where
 |mk (a F cs dl rs z ws)(h0:ds=[.ref a,.str z,.tup ws])(h1:bY C S a F cs dl rs)(h2:((lu rs z).getD []).length<dl.length)(h3:dl.length<=9000)(h4:rs.length<=9000)(h5:∀S' F',bY C S' a F' cs dl (DF rs z<|(lu rs z).getD []++[Std.mk dl.length none ws])->DJ F F' S S'->R .au S')
theorem Ba:lY P w mg base T.bP 2 (E6 t.ar):=by
 refine T.bP.F.bF gU ?_;rintro _ _ _ _ _ _ _ S R Z hr ⟨a,F,cs,dl,rs,z,ws,e,⟨ld,lr,ra,h,hF,tR⟩,hl,hd,hn,q⟩;subst e hF tR;have NS:(dM ra).length<=9000:=by unfold gW at hn;unfold dM;rw[zb]at hn⊢;exact hn
 refine{_,(s1<|se<|bm zM z0 ya cL (ms2 (fl T.aq T.bW<|dv 0) (dv 1)<|cK an)<|ac (bc<|ac (fS (dv 0) T.aq T.fh (xw T) hr)<|ac dn<|ap 2 an) an),?_};refine !{a,_,_,rfl,h.ins,rfl,lr,dM ra,rfl,h.run,_,rfl,sm<|by decide,λp hp=>{dM ra,.inr z,?_,rfl,bg<|by lia,λd B9=>?_,λhn=>?_}};rw[ae<|fk h.run hp];exact h.run;rw[gX]at B9;cases e1:tT ra z with|none=>(rw[e1]at B9;cases B9)|some ls=>obtain⟨l,vq⟩:=ls;rw[e1]at B9;cases B9;have e2:lu (gW ra) z=some vq:=(by rw[gF,e1];rfl);rw[e2]at q hl;have hc:=h.cell _<|dk e1;have Pq:(S.set p<|.lst []) l=some (.lst<|vq.map jB):=(by rw[ae<|fk hc hp];exact hc);have hi':(S.set p<|.lst []) a=some (.ins t.ar [("columns",.tup<|cs.map az),("deeds",.ref ld),("runs",.ref lr)]):=(by rw[ae<|fk h.ins hp];exact h.ins);have qI:DH t.ar (S.set p<|.lst []) a ld lr cs dl ra:={hi',by rw[ae<|fk h.A_ hp];exact h.A_,by rw[ae<|fk h.run hp];exact h.run,λr hr=>by rw[ae<|fk (h.cell r hr) hp];exact h.cell r hr,h.kn,h.an,h.sz};refine{{rfl,_,Pq},_,rfl,a,_,rfl,hi',rfl,a,_,cs,dl,_,rfl,⟨ld,lr,ra,qI,rfl,rfl⟩,_,rfl,mP,?_};have hle:vq.length<dl.length:=hl;refine{l,vq.map jB,_,rfl,rfl,Pq,bg<|by rw[zb];lia,S.set l<|.lst<|(vq++[Std.mk dl.length none ws]).map jB,λb c hb=>?_,q _ _ {ld,lr,_,h.put e1<|by rw[zE];show vq.length+1<=_;lia,rfl,OR e1} ?_};by_cases hbl:b=l;subst hbl;rw[aa]at hb⊢;rw[zN]at hb;exact hb;rw[ae hbl]at hb;rw[ae hbl,ae<|fk hb hp];exact hb;rw[JK];exact sN<|JL<|dk e1
 rw[gX]at hn;cases e1:tT ra z with|some ls=>(rw[e1]at hn;cases hn)|none=>have e2:lu (gW ra) z=none:=(by rw[gF,e1];rfl);rw[e2]at q hl;have npr:p≠lr:=(fk h.run hp).symm;generalize Bb:(S.set p<|.lst []).set lr _=S1;have s1p:S1 p=some (.lst []):=(by rw[<-Bb,ae npr,aa]);have s1r:S1 lr=some (.cj<|dM<|ra++[(z,p,[])]):=(by rw[<-Bb,aa,RQ e1]);have s1o:∀b,b≠p->b≠lr->S1 b=S b:=λb h1 h2=>(by rw[<-Bb,ae h2,ae h1]);have qI:DH t.ar S1 a ld lr cs dl (ra++[(z,p,[])]):=h.add e1 hp (zY _) s1p s1r s1o;refine{{rfl,_,s1p},_,rfl,a,_,rfl,qI.ins,rfl,a,_,cs,dl,_,rfl,{ld,lr,_,qI,rfl,rfl},_,rfl,mP,?_};refine{p,[],_,rfl,rfl,s1p,bg<|by show 0<=_;lia,S1.set p<|.lst<|[Std.mk dl.length none ws].map jB,.refl _,q _ _ {ld,lr,ra++[(z,p,[Std.mk dl.length none ws])],h.add e1 hp (by show 1<=_;have:0<dl.length:=hl;lia) aa ?_ λb h1 h2=>by rw[ae h1];exact s1o b h1 h2,rfl,RP e1} ?_};rw[ae npr.symm,s1r];unfold dM;rw[zN,zN];rfl;intro b c hb e;have h1:b≠p:=fk e hp;have h2:b≠lr:=λz=>hb (by rw[z];exact zf _<|zf _ zj);refine{λm=>?_,by rw[ae h1,s1o b h1 h2];exact e};unfold fp at m hb;rw[zN]at m;rcases zi.mp m with m|m;exact hb<|m ▸ zj;rcases zi.mp m with m|m;exact hb<|m ▸ zf _ zj;rcases zi.mp m with m|m;exact h2 m;rcases zP.mp m with m|m;exact hb<|zf _<|zf _<|zf _ m;exact h1<|zK.mp m
noncomputable def oO(n:Nat)(l:wE):wE:=l.dropLast++(l.getLast?.map λs=>Std.mk s.b (some n) s.ws).toList
noncomputable def sO(rs:mU)(z:Str)(n:Nat):mU:=DF rs z<|oO n<|(lu rs z).getD []
noncomputable def Bc(rs:mU)(z:Str)(n:Nat)(ws:v0):mU:=DF rs z<|(lu rs z).getD []++[Std.mk n none ws]
theorem JM(h:bY C S a F cs dl rs)(z:Str):((lu rs z).getD []).length<=dl.length:=by obtain⟨ld,lr,ra,h,_,rfl⟩:=h;rw[gF];cases e:tT ra z with|none=>exact zY _|some ls=>exact h.sz _<|dk (l:=ls.1) (s:=ls.2) e
theorem Nb(rs:mU)(z:Str)(s:wE):(DF rs z s).length<=rs.length+1:=by unfold DF;split;rw[zb];lia;rw[zE];exact zr _
theorem fb:lu (r::rs) k=if r.1=k then some r.2 else lu rs k:=by unfold lu;rw[yb];by_cases h:r.1=k;rw[zu h,if_pos h];rfl;rw[zx h,if_neg h]
theorem oP:lu (DF rs z s) k=if k=z then some s else lu rs k:=by
 unfold DF;by_cases hs:(lu rs z).isSome=true;rw[if_pos hs];by_cases hk:k=z;subst hk;rw[if_pos rfl];induction rs with|nil=>(cases hs)|cons r rs ih=>rw[zt,fb];by_cases h:r.1=k;rw[if_pos h,if_pos h];rw[if_neg h,if_neg h];rw[fb,if_neg h]at hs;exact ih hs
 rw[if_neg hk];clear hs;induction rs with|nil=>rfl|cons r rs ih=>rw[zt,fb,fb,ih];by_cases h:r.1=z;rw[if_pos h,if_neg<|show ¬r.1=k from λe=>hk<|e.symm.trans h,if_neg<|show ¬r.1=k from λe=>hk<|e.symm.trans h];rw[if_neg h]
 rw[if_neg hs];have hn:lu rs z=none:=by cases e:lu rs z<;>simp_all
 clear hs;induction rs with|nil=>rw[List.nil_append,fb];by_cases hk:k=z;rw[if_pos hk,if_pos hk.symm];rw[if_neg hk,if_neg λe=>hk e.symm]|cons r rs ih=>rw[fb]at hn;by_cases h:r.1=z;rw[if_pos h]at hn;cases hn;rw[if_neg h]at hn;rw[List.cons_append,fb,fb,ih hn];by_cases h2:r.1=k;rw[if_pos h2,if_pos h2,if_neg<|show ¬k=z from λe=>h<|h2.trans e];rw[if_neg h2,if_neg h2]
inductive OS(C:Addr)(ds:v0)(S:ak)(R:KD)(Z:KX):Prop where
 |mk (a F cs dl rs z)(h0:ds=[.ref a,.str z])(h1:bY C S a F cs dl rs)(h2:(∃s,lu rs z=some s/\s≠[]))(h3:dl.length<=9000)(h4:∀S',bY C S' a F cs dl (sO rs z dl.length)->DJ F F S S'->R .au S')
theorem qO(h:l≠[]):∃r s,l=r++[s]:={l.dropLast,l.getLast h,(List.dropLast_concat_getLast h).symm}
theorem jD(n:Nat)(r:wE)(s:Std):oO n (r++[s])=r++[Std.mk s.b (some n) s.ws]:=by unfold oO;rw[List.dropLast_concat,List.getLast?_concat];rfl
theorem JN:lY P w mg base T.cz 2 (OS t.ar):=by refine T.cz.F.bF dQ ?_;rintro _ _ _ _ _ _ _ S R Z hr ⟨a,F,cs,dl,rs,z,e,⟨ld,lr,ra,h,hF,tR⟩,⟨s0,Tr,kK⟩,hd,q⟩;subst e hF tR;rw[gF]at Tr;cases e1:tT ra z with|none=>(rw[e1]at Tr;cases Tr)|some ls=>obtain⟨l,vq⟩:=ls;rw[e1]at Tr;cases Tr;obtain⟨r,sd,rfl⟩:=qO kK;have hlen:=h.sz _<|dk e1;dsimp only at hlen;rw[zE]at hlen;have hlen:r.length+1<=dl.length:=hlen;have hc:=h.cell _<|dk e1;dsimp only at hc;have ed:cn (dM ra) (.inr z)=some (.ref l):=(by rw[gX,e1];rfl);refine{_,(sc (ck (i:=2) dQ.nd<|bm0 zM PySem.F.slot_list_pop PySem.F.type_list_pop VL<|ix hr.u (fl T.aq T.bW<|dv 0)<|dv 1)<|s1<|se<|bm zM z0 ya cL (ix hr.u (fl T.aq T.bW<|dv 0)<|dv 1)<|ac (bc<|ac (ix hr.u (dv 2) di)<|ac (fS (dv 0) T.aq T.fh (xw T) hr)<|ac (ix hr.u (dv 2) di) an) an),?_};refine !{a,_,_,rfl,h.ins,rfl,_,rfl,dM ra,_,h.run,ed,{rfl,_,hc},l,_,jB sd,rfl,rfl,hc,?_,?_};rw[zN,zE];show(r.map jB++[jB sd])[(r.map jB).length+1-1]?=_;simp;have e2:((r++[sd]).map jB).dropLast=r.map jB:=(by rw[zN];exact List.dropLast_concat);rw[e2];have h1:DH t.ar (S.set l<|.lst<|r.map jB) a ld lr cs dl (tU ra z r):=h.put e1 (by lia);generalize Bb:S.set l _=S1 at h1;have e1':tT (tU ra z r) z=some (l,r):=(by have hm:(z,l,r)∈tU ra z r:=(by unfold tU;exact zh.mpr {_,dk e1,if_pos rfl});cases e3:tT (tU ra z r) z with|none=>exact absurd rfl (mV e3 _ hm)|some x=>exact congrArg some<|congrArg Prod.snd<|iy (f:=λr:Str×Addr×List Std=>r.1) h1.kn (dk (l:=x.1) (s:=x.2) e3) hm rfl);have ed':cn (dM<|tU ra z r) (.inr z)=some (.ref l):=(by rw[gX,e1'];rfl);have YE:=h1.cell _<|dk e1';refine !{a,_,_,rfl,h1.ins,rfl,_,rfl,_,_,h1.run,ed',{rfl,_,YE},_,rfl,_,rfl,_,rfl,a,_,rfl,h1.ins,rfl,a,_,cs,dl,_,rfl,{ld,lr,_,h1,rfl,rfl},_,rfl,_,rfl,mP,l,_,_,rfl,rfl,YE,bg<|by rw[zb];show r.length<=_;lia,?_};have h2:=h1.put (s':=r++[Std.mk sd.b (some dl.length) sd.ws]) e1' (by rw[zE];exact hlen);have e4:sO (gW ra) z dl.length=gW (tU (tU ra z r) z<|r++[Std.mk sd.b (some dl.length) sd.ws]):=(by unfold sO;rw[gF,e1];show DF (gW ra) z (oO dl.length<|r++[sd])=_;rw[jD,OR e1];unfold gW tU;rw[zq,zq,zq];exact zV λx _=>by dsimp only[Function.comp];by_cases hx:x.1=z<;>simp[hx]);refine{_,?_,q _ {ld,lr,_,h2,by rw[JK,JK],e4} ?_};show Sub (S1.set l<|.lst<|(r++[_]).map jB) (S1.set l<|.lst<|r.map jB++[_]);rw[zN];exact .refl _;rw[<-Bb,aJ];exact sN<|JL<|dk e1
theorem E7(h:ofStr lJ d=true):∃z,d=.str z/\lJ z=true:=by cases d with|str z=>exact⟨z,rfl,h⟩|_=>cases h
theorem E8(h:oK cs k v=true):∃z ws,k=.str z/\v=.tup ws/\lJ z=true:=by unfold oK at h;rw[zA]at h;obtain⟨z,rfl,hz⟩:=E7 h.1;cases v with|tup ws=>exact⟨z,ws,rfl,rfl,hz⟩|_=>exact absurd h.2 zd
theorem sP:Gt S .au:={{.au,rfl},λ_=>nofun}
theorem OT(h:ah (wt l m)=false):l≠[]:=by rintro rfl;cases h
theorem xx(hz:lJ z=true)(i:Int):B6 rs (.str z) i=wt ((lu rs z).getD []) i:=if_pos hz
inductive eF(t:eJ)(ds:v0)(S:ak)(R:KD)(Z:KX):Prop where
 |mk (a F cs dl rs k)(h0:ds=[.ref a,k])(h1:bY t.ar S a F cs dl rs)(h2:Gt S k)(h3:(ah (B6 rs k dl.length)=false->R .au S))(h4:ah (B6 rs k dl.length)=true->False)
theorem iK:lY P w mg base T.cy 4 (eF t):=by obtain⟨a,F,cs,dl,rs,k,e,hS,hk,q1,q2⟩:T.cy.F.bF iS;obtain⟨ld,lr,ra,h,_⟩:=id hS;refine{_,(s1<|si (bi ib (cme (dv 0) T.aq T.dj.e ((mW T).mono<|by decide) hr T.eQ d1<|ap 1 an) dn) (s1 y7) s0),?_};refine !{a,_,rfl,h.ins,rfl,_,rfl,a,F,cs,dl,rs,k,.au,rfl,hS,hk,sP,λi hi=>?_,λhn=>by cases hn};cases hi;refine{_,rfl,?_};refine b9 (λh1=>?_) λh1=>?_;exact q2 h1;exact fo<|q1 h1
inductive jE(t:eJ)(ds:v0)(S:ak)(R:KD)(Z:KX):Prop where
 |mk (a F cs dl rs k v)(h0:ds=[.ref a,k,v])(h1:bY t.ar S a F cs dl rs)(h2:cs.length<=8)(h3:Gt S k)(h4:TV S v)(h5:dl.length<=8000)(h6:rs.length<=8000)(h7:oK cs k v=false->False)(h8:(oK cs k v=true->ah (B6 rs k dl.length)=false->False))(h9:(∀z ws,k=.str z->v=.tup ws->oK cs k v=true->ah (B6 rs k dl.length)=true->∀S' F',bY t.ar S' a F' cs (dl++[.tup [.str "put",k,v]]) (Bc rs z (dl.length+1) ws)->DJ F F' S S'->R .au S'))
theorem RS:lY P w mg base T.fg 6 (jE t):=by obtain⟨a,F,cs,dl,rs,k,v,e,hS,hc,hk,hv,hd,hn,q1,q2,q3⟩:T.fg.F.bF xq;obtain⟨ld,lr,ra,h,hF,tR⟩:=id hS;refine{_,(sc (se<|aQ T.jY (mT T) hr<|ac (fl T.aq T.cS<|dv 0)<|ac (bc<|ap 1<|ap 2 an) an)<|sc (si (bi jc (cme (dv 0) T.aq T.dj.e ((mW T).mono<|by decide) hr T.eQ d1<|ap 1 an) dn) (s1 y7) s0)<|sc (se<|bm zM z0 ya cL (fl T.aq T.cN<|dv 0)<|ac (bc<|ac ds<|ap 1<|ap 2 an) an)<|s1<|se<|lZ (dv 0) T.aq T.bP (Ba T) hr<|ap 1<|ap 2 an),?_};refine !{a,_,_,rfl,h.ins,rfl,_,rfl,_,rfl,bR,cs,k,v,rfl,hc,hk,hv,λG0=>?_,q1};refine !{a,_,rfl,h.ins,rfl,_,rfl,a,F,cs,dl,rs,k,.au,rfl,hS,hk,sP,λi hi=>?_,λhn=>by cases hn};cases hi;refine{_,rfl,?_};refine b9 (λh1=>?_) λh1=>?_;exact q2 G0<|nt h1;obtain⟨z,ws,rfl,rfl,hz⟩:=E8 G0;refine !{a,_,_,rfl,h.ins,rfl,{rfl,_,h.A_},_,rfl,_,rfl,mP,ld,dl,_,rfl,rfl,h.A_,bg<|by lia,?_};have Gm:=h.RO<|.tup [.str "put",.str z,.tup ws];have Bb:bY t.ar (S.set ld<|.lst<|dl++[.tup [.str "put",.str z,.tup ws]]) a F cs (dl++[.tup [.str "put",.str z,.tup ws]]) rs:=⟨ld,lr,ra,Gm,hF,tR⟩;have hl:=JM hS z;refine !{a,_,rfl,Gm.ins,rfl,_,rfl,_,rfl,a,F,cs,_,rs,z,ws,rfl,Bb,by rw[zE];exact Nat.lt_succ_of_le hl,by rw[zE];show dl.length+1<=_;lia,by lia,λS' F' qI hK=>fo<|q3 z ws rfl rfl G0 (nf h1) S' F' ?_ ?_};have:(dl++[D.tup [.str "put",.str z,.tup ws]]).length=dl.length+1:=zE;rw[this]at qI;exact qI;refine DJ.trans (sN ?_) hK;rw[hF];exact zf _ zj
inductive fK(t:eJ)(ds:v0)(S:ak)(R:KD)(Z:KX):Prop where
 |mk (a F cs dl rs k v)(h0:ds=[.ref a,k,v])(h1:bY t.ar S a F cs dl rs)(h2:cs.length<=8)(h3:Gt S k)(h4:TV S v)(h5:dl.length<=8000)(h6:rs.length<=8000)(h7:oK cs k v=false->False)(h8:(oK cs k v=true->ah (B6 rs k dl.length)=true->False))(h9:(∀z ws,k=.str z->v=.tup ws->oK cs k v=true->ah (B6 rs k dl.length)=false->∀S' F',bY t.ar S' a F' cs (dl++[.tup [.str "change",k,v]]) (Bc (sO rs z dl.length) z (dl.length+1) ws)->DJ F F' S S'->R .au S'))
theorem G1:lY P w mg base T.cT 6 (fK t):=by
 obtain⟨a,F,cs,dl,rs,k,v,e,hS,hc,hk,hv,hd,hn,q1,q2,q3⟩:T.cT.F.bF qw;obtain⟨ld,lr,ra,h,hF,tR⟩:=id hS;refine{_,(sc (se<|aQ T.jY (mT T) hr<|ac (fl T.aq T.cS<|dv 0)<|ac (bc<|ap 1<|ap 2 an) an)<|sc (se<|lZ (dv 0) T.aq T.cy (iK T) hr<|ap 1 an)<|sc (se<|lZ (dv 0) T.aq T.cz (JN T) hr<|ap 1 an)<|sc (se<|bm zM z0 ya cL (fl T.aq T.cN<|dv 0)<|ac (bc<|ac ds<|ap 1<|ap 2 an) an)<|s1<|se<|lZ (dv 0) T.aq T.bP (Ba T) hr<|ap 1<|ap 2 an),?_};refine !{a,_,_,rfl,h.ins,rfl,_,rfl,_,rfl,bR,cs,k,v,rfl,hc,hk,hv,λG0=>?_,q1};refine !{a,_,rfl,h.ins,rfl,_,rfl,a,F,cs,dl,rs,k,rfl,hS,hk,λh1=>?_,q2 G0};obtain⟨z,ws,rfl,rfl,hz⟩:=E8 G0;have kK:∃s,lu rs z=some s/\s≠[]:=by rw[xx hz]at h1;have:=OT h1;cases e:lu rs z with|none=>rw[e]at this;exact absurd rfl this|some s=>rw[e]at this;exact⟨s,rfl,this⟩
 refine !{a,_,rfl,h.ins,rfl,_,rfl,a,F,cs,dl,rs,z,rfl,hS,kK,by lia,λS1 Bb WX=>?_};obtain⟨TZ,lr1,ra1,Gm,WY,RT⟩:=id Bb;refine !{a,_,_,rfl,Gm.ins,rfl,{rfl,_,Gm.A_},_,rfl,_,rfl,mP,TZ,dl,_,rfl,rfl,Gm.A_,bg<|by lia,?_};have h2:=Gm.RO<|.tup [.str "change",.str z,.tup ws];have hS2:bY t.ar (S1.set TZ<|.lst<|dl++[.tup [.str "change",.str z,.tup ws]]) a F cs (dl++[.tup [.str "change",.str z,.tup ws]]) (sO rs z dl.length):=⟨TZ,lr1,ra1,h2,WY,RT⟩;have hl:=JM Bb z;have EK:(sO rs z dl.length).length<=rs.length+1:=Nb _ _ _;refine !{a,_,rfl,h2.ins,rfl,_,rfl,_,rfl,a,F,cs,_,_,z,ws,rfl,hS2,by rw[zE];exact Nat.lt_succ_of_le hl,by rw[zE];show dl.length+1<=_;lia,by lia,λS' F' qI hK=>fo<|q3 z ws rfl rfl G0 h1 S' F' ?_ ?_};have:(dl++[D.tup [.str "change",.str z,.tup ws]]).length=dl.length+1:=zE;rw[this]at qI;exact qI;refine WX.trans<|DJ.trans (sN ?_) hK;rw[WY];exact zf _ zj
inductive iz(t:eJ)(ds:v0)(S:ak)(R:KD)(Z:KX):Prop where
 |mk (a F cs dl rs k)(h0:ds=[.ref a,k])(h1:bY t.ar S a F cs dl rs)(h2:Gt S k)(h3:dl.length<=8000)(h4:ofStr lJ k=false->False)(h5:(ofStr lJ k=true->ah (B6 rs k dl.length)=true->False))(h6:(∀z,k=.str z->lJ z=true->ah (B6 rs k dl.length)=false->∀S',bY t.ar S' a F cs (dl++[.tup [.str "take",k]]) (sO rs z dl.length)->DJ F F S S'->R .au S'))
theorem Nc:lY P w mg base T.dW 6 (iz t):=by
 obtain⟨a,F,cs,dl,rs,k,e,hS,hk,hd,q1,q2,q3⟩:T.dW.F.bF uz;obtain⟨ld,lr,ra,h,hF,tR⟩:=id hS;refine{_,(sc (si (cX<|tv<|aQ T.oo (j0 T) hr<|ap 1 an) (s1 y7) s0)<|sc (se<|lZ (dv 0) T.aq T.cy (iK T) hr<|ap 1 an)<|sc (se<|lZ (dv 0) T.aq T.cz (JN T) hr<|ap 1 an)<|s1<|se<|bm zM z0 ya cL (fl T.aq T.cN<|dv 0)<|ac (bc<|ac ds<|ap 1 an) an),?_};refine !{k,rfl,hk,_,rfl,?_};refine b9 (λh0=>?_) λh0=>?_;exact q1<|nt h0;have h0:=nf h0;refine !{a,_,rfl,h.ins,rfl,_,rfl,a,F,cs,dl,rs,k,rfl,hS,hk,λh1=>?_,q2 h0};obtain⟨z,rfl,hz⟩:=E7 h0;have kK:∃s,lu rs z=some s/\s≠[]:=by rw[xx hz]at h1;have:=OT h1;cases e:lu rs z with|none=>rw[e]at this;exact absurd rfl this|some s=>rw[e]at this;exact⟨s,rfl,this⟩
 refine !{a,_,rfl,h.ins,rfl,_,rfl,a,F,cs,dl,rs,z,rfl,hS,kK,by lia,λS1 Bb WX=>?_};obtain⟨TZ,lr1,ra1,Gm,WY,RT⟩:=id Bb;refine !{a,_,_,rfl,Gm.ins,rfl,{rfl,_,Gm.A_},_,rfl,bR,TZ,dl,_,rfl,rfl,Gm.A_,bg<|by lia,?_};refine fo<|q3 z rfl hz h1 _ {TZ,lr1,ra1,Gm.RO _,WY,RT}<|WX.trans<|sN ?_;rw[WY];exact zf _ zj
inductive gY(t:eJ)(ds:v0)(S:ak)(R:KD)(Z:KX):Prop where
 |mk (a cs)(h0:ds=[.ref a,.tup<|cs.map az])(h1:Gd cs)(h2:S a=some (.ins t.ar []))(h3:∀S' F,bY t.ar S' a F cs [] []->DJ [a] F S S'->R .au S')
theorem Nd:lY P w mg base T.fG 5 (gY t):=by
 obtain⟨a,cs,e,hg,ha,q⟩:T.fG.F.bF mO;refine{_,(sc (se<|aQ T.gB (oN T) hr<|ap 1 an)<|sc (sf T.aq T.cS (dv 0)<|dv 1)<|sc (sf T.aq T.cN (dv 0)<|cK an)<|s1<|sf T.aq T.bW (dv 0) VC),?_};refine !{cs,rfl,hg,_,rfl,_,rfl,a,[],rfl,ha,(show 0<1000 by decide),?_};refine{uA,λld T4=>!{a,[("columns",.tup<|cs.map az)],rfl,?_,(show 1<1000 by decide),λlr EK=>!{a,[("columns",.tup<|cs.map az),("deeds",.ref ld)],rfl,?_,(show 2<1000 by decide),?_}}};have nl:a≠ld:=by rintro rfl;rw[aa]at T4;cases T4
 rw[ae nl,aa];rfl;have nl:a≠lr:=by rintro rfl;rw[aa]at EK;cases EK
 rw[ae nl,aa];rfl;have n1:a≠ld:=by rintro rfl;rw[aa]at T4;cases T4
 have n2:a≠lr:=by rintro rfl;rw[aa]at EK;cases EK
 have n3:ld≠lr:=by rintro rfl;rw[ae n1.symm,aa]at EK;cases EK
 rw[ae n1.symm]at T4;rw[ae n2.symm,ae n3.symm,ae n2.symm]at EK;refine fo<|q _ (fp a ld lr []) {ld,lr,[],{aa,?_,?_,λr hr=>(nomatch hr),List.nodup_nil,(by simp),λr hr=>(nomatch hr)},rfl,rfl} λb c hb e=>?_;rw[ae n1.symm,ae n3,ae n1.symm,aa];rw[ae n2.symm,aa];rfl;have b1:b≠a:=λz=>hb (by rw[z];exact zj);have b2:b≠ld:=fk e T4;have b3:b≠lr:=fk e EK;refine{λm=>?_,by rw[ae b1,ae b3,ae b1,ae b2,ae b1];exact e};unfold fp at m;simp only[yQ,zi,zH,or_false]at m;rcases m with m|m|m;exact b1 m;exact b2 m;exact b3 m
noncomputable def xy(rs:mU)(i:Int)(z:Str):D:=.tup [.str z,wt ((lu rs z).getD []) i]
noncomputable def lK(rs:mU)(i:Int)(ss:j4):v0:=(ss.filter λz=>!ah (wt ((lu rs z).getD []) i)).map<|xy rs i
noncomputable def xA:D->Bool|.tup [_,x]=>!ah x|_=>false
theorem Bd(ss:j4):((ss.map<|xy rs i).filter xA).map id=lK rs i ss:=by unfold lK;rw[List.map_id,List.filter_map];rfl
inductive OU(C:Addr)(ds:v0)(S:ak)(R:KD)(Z:KX):Prop where
 |mk (a F cs dl rs m)(h0:ds=[.ref a,m])(h1:bY C S a F cs dl rs)(h2:rs.length<64)(h3:Gt S m)(h4:(∀i ss,uD dl.length m=some i->ss.Perm (rs.map (·.1))->PyProof.Rows.sortedS ss=true->∀p,S p=none->R (.ref p) (S.set p<|.lst<|lK rs i ss)))(h5:uD dl.length m=none->False)
theorem vt:lY P w mg base T.eW 3 (OU t.ar):=by
 obtain⟨a,F,cs,dl,rs,m,e,hS,hn,hm,q1,q2⟩:T.eW.F.bF eN;obtain⟨ld,lr,ra,h,hF,tR⟩:=id hS;have ek:(dM ra).map (·.1)=(rs.map (·.1)).map Sum.inr:=by rw[tR];unfold dM gW;rw[zq,zq,zq];rfl
 have el:(dM ra).length<64:=by rw[tR]at hn;unfold gW at hn;unfold dM;rw[zb]at hn⊢;exact hn
 refine{_,(sc (ck (i:=2) eN.nd<|lZ (dv 0) T.aq T.cA (iJ T) hr<|ap 1 an)<|sc (qm (N:=["key","then","self"]) (src:=[none,some 2,some 0]) 3 eN.nd (jW<|inClass bt 10) (il<|cb AI T.gO fe<|ac (fl T.aq T.bW<|dv 0) an) pC<|bc<|ap 0<|ac (aQ T.gf (jC T) hr<|ac (bn (fl T.aq T.bW<|dv 2)<|dv 0)<|ap 1 an) an)<|s1<|sr<|wK (N:=["row"]) (src:=[none]) (jW<|inClass bt 10) (il<|dv 3) (if1<|bi jc (bn (dv 0) di) dn)<|dv 0),?_};refine !{a,_,rfl,h.ins,rfl,_,rfl,a,F,cs,dl,rs,m,rfl,hS,hm,λi hi=>?_,q2};refine !{a,_,_,rfl,h.ins,rfl,lr,dM ra,rs.map (·.1),rfl,h.run,ek,el,λss hp hs p j5=>?_};have hlen:ss.length<64:=by rw[hp.length_eq,zb];exact hn
 refine{_,aa,?_};refine comp_map (λd=>match d with|.str z=>xy rs i z|_=>.au) aa (by show(ss.map D.str).length<=1000;rw[zb];omega) (λd hd Q hQ=>?_) λp2 eT=>?_;obtain⟨z,hz,rfl⟩:=zh.mp hd;have hz':z∈rs.map (·.1):=hp.mem_iff.mp hz;obtain⟨r,dO,e⟩:=zh.mp hz';rw[tR]at dO;unfold gW at dO;obtain⟨r0,E1,rfl⟩:=zh.mp dO;have e1:tT ra z=some r0.2:=by cases e3:tT ra z with|none=>exact absurd e (mV e3 _ E1)|some x=>exact congrArg some<|congrArg Prod.snd<|iy (f:=λr:Str×Addr×List Std=>r.1) h.kn (dk (l:=x.1) (s:=x.2) e3) E1 e.symm
 have ed:cn (dM ra) (.inr z)=some (.ref r0.2.1):=by rw[gX,e1];rfl
 have hc:=h.cell _ E1;have eq:(lu rs z).getD []=r0.2.2:=by rw[tR,gF,e1];rfl
 have hQ:Q (.tup [.str z,wt ((lu rs z).getD []) i]) (S.set p<|.lst<|ss.map D.str):=hQ;rw[eq]at hQ;have hi1:(S.set p<|.lst<|ss.map D.str) a=_:=(ae<|fk h.ins j5).trans h.ins;have G0:(S.set p<|.lst<|ss.map D.str) lr=_:=(ae<|fk h.run j5).trans h.run;have YE:(S.set p<|.lst<|ss.map D.str) r0.2.1=_:=(ae<|fk hc j5).trans hc;exact !!{a,_,_,rfl,hi1,rfl,_,rfl,dM ra,_,G0,ed,_,rfl,_,_,i,rfl,YE,bR,hQ};have em:(ss.map D.str).map (λd=>match d with|.str z=>xy rs i z|_=>.au)=ss.map (xy rs i):=by rw[zq];rfl
 refine !{ss.map<|xy rs i,by show((S.set p _).set p2<|.lst<|(ss.map D.str).map _) p2=_;rw[aa,em],?_};refine dA xA id (by show((S.set p _).set p2<|.lst<|(ss.map D.str).map _) p2=_;rw[aa,em]) (by show(ss.map<|xy rs i).length<=1000;rw[zb];omega) (λd hd Q Q' hQ DL=>?_) λp3 YF=>?_;obtain⟨z,hz,rfl⟩:=zh.mp hd;refine !!!⟨?_⟩;exact b9 (λh=>!⟨hQ h⟩) λh=>DL h;have abA:S p3=none:=by cases e:S p3 with|none=>rfl|some c=>exact absurd YF<|by rw[ae (fk e<|by have:(S.set p<|.lst<|ss.map D.str) p2=none:=eT;cases e':S p2 with|none=>rfl|some c'=>rw[ae<|fk e' j5,e']at this;cases this),ae<|fk e j5,e];exact nofun
 refine{S.set p3<|.lst<|lK rs i ss,λb c hb=>?_,q1 i ss hi hp hs p3 abA};show((((S.set p<|.lst<|ss.map D.str).set p2 _).set p3<|.lst<|((ss.map<|xy rs i).filter xA).map id)) b=some c;rw[Bd];by_cases hb3:b=p3;subst hb3;rw[aa]at hb⊢;exact hb;rw[ae hb3]at hb;have abC:S p2=none:=by cases e':S p2 with|none=>rfl|some c'=>have:(S.set p<|.lst<|ss.map D.str) p2=none:=eT;rw[ae<|fk e' j5,e']at this;cases this
 rw[ae hb3,ae<|fk hb abC,ae<|fk hb j5];exact hb
theorem G4{S:ak}{p:Addr}{c:Ce}(h:S p=some c):S.set p c=S:=by funext b;by_cases e:b=p;subst e;rw[aa,h];rw[ae e]
theorem JO{S:ak}{p q:Addr}{c e:Ce}(h:S q=none)(hn:p≠q):Sub (S.set p c) ((S.set q e).set p c):=λb x hb=>by by_cases WZ:b=p;subst WZ;rw[aa]at hb⊢;exact hb;rw[ae WZ]at hb⊢;exact(Sub.new h) _ _ hb
theorem dpI:∀xs:sB,DpAll S (xs.map D.int) (xs.map PyData.int)/\PyData.canLayAll0 (xs.map PyData.int)=true/\PyData.depthAll (xs.map PyData.int)<=0|[]=>{by simp only[yQ,DpAll],rfl,zY _}|x::xs=>by obtain⟨a,b,c⟩:=dpI (S:=S) xs;exact{by simp only[zt,DpAll];exact{_,_,rfl,by simp only[Dp],a},by simp only[zt,PyData.canLayAll0,PyData.canLay0,b,Bool.and_self],by simp only[zt,PyData.depthAll,PyData.depth];lia}
theorem Nf{S:ak}{a b:Addr}{xs:sB}{R:KD}(e1:S a=some (.lst<|xs.map D.int))(e2:S b=some (.lst []))(q:R (.bl xs.isEmpty) S):EB false (.ref a) (.ref b) S R:=by obtain⟨k1,k2,k3⟩:=dpI (S:=S) xs;refine{.list<|xs.map PyData.int,.list [],{_,_,e1,rfl,k1},{[],[],e2,rfl,by simp only[DpAll]},by simp only[PyData.canLay0];exact k2,by simp only[PyData.canLay0,PyData.canLayAll0],.inl<|by simp only[PyData.depth];lia,?_};rw[if_neg zd,show PyData.eqv (.list<|xs.map PyData.int) (.list [])=xs.isEmpty by cases xs<;>simp[PyData.eqv,PyData.eqvAll]];exact q
theorem Ng{k n:Nat}(h:k<n):seqIndex? ((k:Nat):Int) n=some k:=by have e:(if ((k:Nat):Int)<0 then ((k:Nat):Int)+(n:Int) else ((k:Nat):Int))=((k:Nat):Int):=if_neg (by lia);unfold seqIndex?;dsimp only;rw[e,if_pos<|by simp;lia];rfl
theorem jF{p:Bool}{A B:Prop}(h:p=false)(q:B):if p=true then A else B:=by rw[h];exact aW q
theorem RU{p:Bool}{A B:Prop}(h:p=true)(q:A):if p=true then A else B:=by rw[h];exact eU q
theorem cC{L:v0}{S:ak}{p:Addr}{n:Int}{R:KD}(h0:0<=n)(h1:n<(L.length:Int))(hp:S p=none)(q:∀d,d∈L->R d S):AtL p n (S.set p<|.lst L) λd S'=>Fo S' (R d):=by obtain⟨v,e1,e2⟩:=mf (l:=L) h0 h1;exact{L,v,aa,e1,S,.new hp,q v<|zG e2}
theorem mX{xs:sB}{i:Int}{P:Int->Prop}(h0:0<=i)(h1:i<((xs.map D.int).length:Int))(h:∀x∈xs,P x):∃x,iW (xs.map D.int) i=some (.int x)/\P x:=by obtain⟨d,e1,e2⟩:=mf (l:=xs.map D.int) h0 h1;obtain⟨x,hx,rfl⟩:=zh.mp<|zG e2;exact{x,e1,h x hx}
inductive pQ(ds:v0)(S:ak)(R:KD)(Z:KX):Prop where
 |mk (ns:sB)(k:Nat)(h0:ds=[.k8<|ns.map D.int,.int k])(h1:∀c:Int,c=ns.getD k 0->R (.int c) S)
theorem dZ:Ok P w base T.dy 1 pQ:=by
 obtain⟨ns,k,e,q⟩:T.dy.F.bF xn;refine{_,(sc (si (bi rL (dv 1)<|cb br T.aY aK<|ap 0 an) (s1<|sr<|bn (dv 0)<|dv 1) s0)<|s1<|sr di),?_};refine !!!!⟨?_⟩;refine b9 (λh=>?_) λh=>?_;have h:(k:Int)<(((ns.map D.int).length:Nat):Int):=zC h;have hk:k<ns.length:=by rw[zb]at h;lia
 exact !!{.int ns[k],bZ<|by rw[zm];simp[hk],fo<|q _<|by rw[zB,zg hk];rfl};have h:¬(k:Int)<(((ns.map D.int).length:Nat):Int):=zZ h;rw[zb]at h;exact fo<|q 0<|by rw[zB,List.getElem?_eq_none<|by lia];rfl
inductive Dv(S:ak)(c:Int)(n:Nat)(lf:Addr)(aA:SD)(S':ak):Prop where
 |mk (r:Int)(xs:sB)(h0:aA=[some<|.int c,some<|.int (n:Nat),some<|.ref lf,some<|.int r,none,none])(h1:S'=S.set lf (.lst<|xs.map D.int))(h2:xs.length<=n)(h3:∀x∈xs,0<=x):Dv S c n lf aA S'
inductive Dw(S:ak)(c:Int)(n:Nat)(lf:Addr)(m:Nat)(aA:SD)(S':ak):Prop where
 |mk (r:Int)(xs:sB)(h0:aA=[some<|.int c,some<|.int (n:Nat),some<|.ref lf,some<|.int r,none,none])(h1:S'=S.set lf (.lst<|xs.map D.int))(h2:xs.length+m=n)(h3:∀x∈xs,0<=x):Dw S c n lf m aA S'
inductive Dx(S:ak)(c:Int)(n:Nat)(lf:Addr)(r:Int)(aA:SD)(S':ak):Prop where
 |mk (o4 o5:wn)(xs:sB)(h0:aA=[some<|.int c,some<|.int (n:Nat),some<|.ref lf,some<|.int r,o4,o5])(h1:S'=S.set lf (.lst<|xs.map D.int))(h2:n<=xs.length)(h3:xs.length<=40)(h4:∀x∈xs,0<=x):Dx S c n lf r aA S'
inductive Dy(S:ak)(c:Int)(n:Nat)(lf:Addr)(r:Int)(xl i:Nat)(aA:SD)(S':ak):Prop where
 |mk (nu:Int)(o5:wn)(xs:sB)(h0:aA=[some<|.int c,some<|.int (n:Nat),some<|.ref lf,some<|.int r,some<|.int nu,o5])(h1:0<=nu)(h2:nu<1000000000000048280)(h3:S'=S.set lf (.lst<|xs.map D.int))(h4:xs.length=xl+(i-3))(h5:∀x∈xs,0<=x):Dy S c n lf r xl i aA S'
inductive vA(ds:v0)(S:ak)(R:KD)(Z:KX):Prop where
 |mk (c:Int)(n:Nat)(h0:ds=[.int c,.int (n:Nat)])(h1:n<=20)(h2:∀(xs:sB) p,xs.length=n->(∀x∈xs,0<=x)->S p=none->R (.ref p) (S.set p<|.lst<|xs.map D.int))
theorem jG:Ok P w base T.iq 1 vA:=by
 obtain⟨c,n,e,hn,q⟩:T.iq.F.bF cO;refine{_,(sc (ck (i:=2) cO.nd<|cK an)<|sc (ck (i:=3) cO.nd di)<|sc (ql<|si (bi aap (dv 0)<|bd mm di di) (s1<|ck (i:=3) cO.nd<|bd mj (dv 0)<|bd mm di di) s0)<|sc (ql<|swh (twd<|twand (bi qk (dv 3) di)<|tw1<|bi rL (cb br T.aY aK<|ap 2 an)<|dv 1)<|sc (se<|bm zM z0 ya cL (dv 2)<|ac (bd bq (dv 3)<|bd mm di di) an)<|s1<|ck (i:=3) cO.nd<|bd bU (dv 3)<|bd mm di di)<|sc (ck (i:=4) cO.nd<|bd bw (bd bq (dv 0)<|bd bw (bd mm di di) di) di)<|sc (ql<|Hy (Oo T.f9<|ac (bd bw (dv 1) di) an) (gn (i:=5) cO.nd)<|sc (ck (i:=4) cO.nd<|bd bq (bd bw (bd bw (bd rK (dv 4)<|dv 4)<|bd rK di<|dv 4)<|dv 5)<|bd bw (bd mm di di) di)<|s1<|si (bi qk (dv 5) di) (s1<|se<|bm zM z0 ya cL (dv 2)<|ac (bd bq (bd rK (dv 4)<|bd bw (bd bU (dv 4) di) di)<|bd bw (bd mm di di) di) an) s0)<|s1<|sr<|MY (dv 2) o0<|o1<|dv 1),?_};refine{uA,λlf G5=>?_};refine{λaA S'=>∃r:Int,aA=[some<|.int c,some<|.int (n:Nat),some<|.ref lf,some<|.int r,none,none]/\S'=S.set lf (.lst []),?_,?_};refine{_,rfl,{by decide,by decide,by decide},_,rfl,b9 (λh=>?_) λh=>fo {0,rfl,rfl}};exact{_,rfl,{by decide,by decide,by decide},fo !⟨rfl⟩};rintro aA S' ⟨r,rfl,rfl⟩;refine{Dv S c n lf,?_,?_};refine{Dw S c n lf,{n,r,[],rfl,rfl,Nat.zero_add _,λ_ h=>(nomatch h)},?_};rintro m aA S' ⟨r,xs,rfl,rfl,hl,hx⟩;have hS:(S.set lf<|.lst<|xs.map D.int) lf=some (.lst<|xs.map D.int):=aa;refine !!⟨b9 (λh1=>!!⟨.inl {_,hS,_,rfl,_,rfl,b9 (λh2=>?_) λh2=>?_}⟩) λh1=>aW<|fo {r,xs,rfl,rfl,by lia,hx}⟩;have h2:(((xs.map D.int).length:Nat):Int)<((n:Nat):Int):=zC h2;rw[zb]at h2;refine{_,rfl,{rfl,_,hS},_,rfl,{by decide,by decide,by decide},by decide,lf,_,_,rfl,rfl,hS,bg<|by rw[zb];lia,?_};refine{_,rfl,{by decide,by decide,by decide},{by decide,by trivial},m-1,by lia,_,xs++[r%10^(15:Int).toNat],rfl,?_,by rw[zE];show xs.length+1+_=_;lia,λx FI=>?_};rw[aJ,zN];rfl;rcases zP.mp FI with h|h;exact hx x h;rw[zK.mp h];exact zO _ (by decide);exact fo {r,xs,rfl,rfl,by lia,hx};rintro aA S' ⟨r,xs,rfl,rfl,hl,hx⟩;have nb:∀z:Int,0<=z%1000000000000000009/\z%1000000000000000009<1000000000000000009:=λz=>{zO z<|by decide,zL z<|by decide};have e18:((10:Int)^(18:Int).toNat+9)=1000000000000000009:=by decide
 refine{_,rfl,{by decide,by decide,by decide},by decide,?_};refine{Dx S c n lf r,?_,?_};refine !{((n:Nat):Int)+3,rfl,by lia,by lia,?_};refine{Dy S c n lf r xs.length,?_,λ_ _ _ _=>trivial,?_,?_};have:=nb c;rw[e18];exact{_,none,xs,rfl,by lia,by lia,rfl,rfl,hx};rintro i d aA S' hd ⟨nu,o5,ys,rfl,n0,n1,rfl,hyl,hy⟩;have hd:(dS 0 (((n:Nat):Int)+3).toNat)[i]?=some d:=hd;obtain⟨hi,rfl⟩:=c9 hd;refine !!{.inl {by lia,by lia},_,rfl,.inl {by decide,by decide},_,rfl,{by decide,by decide,by decide},by decide,?_};rw[e18];have b1:=nb<|nu*nu+48271*nu+(0+(i:Nat));generalize (nu*nu+48271*nu+(0+(i:Nat)))%1000000000000000009=nu2 at b1⊢;have hS:(S.set lf<|.lst<|ys.map D.int) lf=some (.lst<|ys.map D.int):=aa;refine !!⟨b9 (λh=>?_) λh=>?_⟩;have h:(2:Int)<0+((i:Nat):Int):=zC h;refine{_,rfl,{rfl,_,hS},_,rfl,_,rfl,{by decide,by trivial},.inl {by lia,by lia},{by decide,by decide,by decide},by decide,lf,_,_,rfl,rfl,hS,bg<|by rw[zb];lia,?_};refine{nu2,_,ys++[nu2*(nu2/1009+69621)%(10^(18:Int).toNat+9)],rfl,by lia,by lia,?_,by rw[zE];show ys.length+1=_;lia,λx FI=>?_};rw[aJ,zN];rfl;rcases zP.mp FI with h|h;exact hy x h;rw[zK.mp h];exact zO _ (by decide);have h:¬(2:Int)<0+((i:Nat):Int):=zZ h;exact{nu2,_,ys,rfl,by lia,by lia,rfl,by lia,hy};rintro aA S' ⟨nu,o5,ys,rfl,_,_,rfl,hyl,hy⟩;rw[show({dS 0 (((n:Nat):Int)+3).toNat,λ_=>True}:lW).xs.length=(((n:Nat):Int)+3).toNat from cE]at hyl;exact fo {_,_,ys,rfl,rfl,by lia,by lia,hy};rintro aA S' ⟨o4,o5,ys,rfl,rfl,Oz,NZ,hy⟩;refine !!!{_,aa,λp hp=>?_};have RV:S p=none:=by rw[ae<|show p≠lf by rintro rfl;rw[aa]at hp;cases hp]at hp;exact hp
 have e:cq (ys.map D.int) none (some ((n:Nat):Int))=(ys.take n).map D.int:=by unfold cq;rw[HT.sIx_nat,HT.sIx_none,zb,Nat.min_eq_left Oz,List.drop_zero,Nat.sub_zero,List.map_take]
 rw[e];refine{_,λb x hb=>?_,q (ys.take n) p (by rw[yp];lia) (λx FI=>hy x<|List.mem_of_mem_take FI) RV};by_cases WZ:b=p;subst WZ;rw[aa]at hb⊢;exact hb;rw[ae WZ]at hb⊢;exact(Sub.new G5) _ _ hb
inductive vB(ds:v0)(S:ak)(R:KD)(Z:KX):Prop where
 |mk (p:Addr)(xs:sB)(h0:ds=[.ref p])(h1:S p=some (.lst<|xs.map D.int))(h2:xs.length<=20)(h3:∀x∈xs,0<=x)(h4:∀(x:Int)(ys:sB),0<=x->ys.length<=xs.length->(∀y∈ys,0<=y)->R (.int x) (S.set p<|.lst<|ys.map D.int))
theorem Be:Ok P w base T.qM 1 vB:=by obtain⟨p,xs,e,hp,hl,hx,q⟩:T.qM.F.bF Dq;refine{_,(sc (si (bi aL (dv 0)<|cK an) (s1<|sr di) s0)<|s1<|sr<|bm zM PySem.F.slot_list_pop PySem.F.type_list_pop Mz (dv 0)<|ac di an),?_};refine !{uA,λp2 eT=>Nf ((Sub.new eT) _ _ hp) aa !⟨?_⟩};cases xs with|nil=>refine RU rfl {S.set p<|.lst [],?_,q 3 [] (by decide) (zr _) λ_ h=>(nomatch h)};rw[G4<|show S p=some (.lst []) from hp];exact .new eT|cons x xs=>refine jF rfl !⟨{rfl,_,(Sub.new eT) _ _ hp},p,_,_,0,.int x,rfl,rfl,(Sub.new eT) _ _ hp,by decide,by decide,Ng (k:=0)<|by simp,rfl,?_⟩;refine{_,?_,q x xs (hx x zj) (by simp) λy hy=>hx y<|zf _ hy};exact JO eT λe=>by rw[e,eT]at hp;cases hp
noncomputable abbrev KW:j4:=["a","ab","b","abc","z","a1","b22","aa","m","m0","ba","zzzzzzzzz"]
noncomputable abbrev KU:j4:=["","0","b7","zz","9"]
noncomputable abbrev KS:j4:=KW.flatMap λa=>KU.map λb=>a++b
theorem fL:∀z∈KS,lJ z=true/\z.cps.size<=12/\PyData.strOk z=true:=by trivial
theorem W0:∀a∈KW,∀b∈KU,a.length+b.length<=1000:=by trivial
noncomputable abbrev xB:j4:=["key","a","ab","at","up","mark","b","price"]
theorem xC:∀z∈xB,mQ z=true/\PyData.strOk z=true:=by trivial
noncomputable abbrev WDS:j4:=["","a","ab","b","a b","B","~","=b"]
theorem RW:∀z∈WDS,pK z=true:=by trivial
noncomputable def a_:D->Bool|.au=>true|.int _=>true|.str z=>decide (z.cps.size<=40)&&PyData.strOk z|_=>false
theorem fc(h:a_ d=true):d=.au\/(∃i,d=.int i)\/∃z,d=.str z:=by cases d<;>first|exact .inl rfl|exact .inr (.inl {_,rfl})|exact .inr (.inr {_,rfl})|cases h
def Vg(kind:Str)(d:D):Prop:=iu kind d=true/\a_ d=true
theorem Nh(h:pK z=true):a_ (.str z)=true:=by unfold pK at h;rw[zA,zR]at h;show(decide (z.cps.size<=40)&&PyData.strOk z)=true;rw[h.1,yk];unfold PyData.strOk;rw[<-Array.all_toList,zR];intro c hc;have:=h.2 c hc;unfold EY at this;simp only[zA,zS]at this⊢;lia
theorem RX{k:Str}(h:k ="number")(i:Int):Vg k (.int i):={by rw[h];rfl,rfl}
theorem RY{k:Str}(h:¬k ="number")(hz:pK z=true):Vg k (.str z):={by unfold iu;rw[if_neg h];exact hz,Nh hz}
theorem RZ(k:Str):Vg k .au:=⟨rfl,rfl⟩
inductive vE(ds:v0)(S:ak)(R:KD)(Z:KX):Prop where
 |mk (k:Str)(x:Int)(h0:ds=[.str k,.int x])(h1:∀d,Vg k d->R d S)
theorem Bf:Ok P w base T.qN 1 vE:=by obtain⟨k,x,e,q⟩:T.qN.F.bF sE;refine{_,(sc (si (bi aL (bd bq (dv 1) di) di) (s1<|sr dn) s0)<|sc (si (bi aL (dv 0) ds) (sc (ck (i:=2) sE.nd<|bd rK (bd bq (bd bU (dv 1) di)<|bd mm di di)<|bd mm di di)<|s1<|sr<|wD<|bn (cK<|ac di<|ac di<|ac di<|ac di<|ac (Gu di)<|ac (Gu di)<|ap 2<|ac (bd mj di<|dv 2) an)<|bd bq (bd bU (dv 1) di) di) s0)<|s1<|sr<|wD<|bn (cK<|ac ds<|ac ds<|ac ds<|ac ds<|ac ds<|ac ds<|ac ds<|ac ds an)<|bd bq (bd bU (dv 1) di) di),?_};refine !{by decide,_,rfl,b9 (λ_=>fo<|q _<|RZ k) λ_=>!!⟨?_⟩};have i0:0<=x/5%8:=zO _ (by decide);have i1:x/5%8<8:=zL _ (by decide);refine b9 (λh=>?_) λh=>?_;have h:k ="number":=zC h;have g0:0<=x/40%10^(15:Int).toNat:=zO _ (by decide);have g1:x/40%10^(15:Int).toNat<10^(15:Int).toNat:=zL _ (by decide);refine{_,rfl,{by decide,by trivial},{by decide,by decide,by decide},by decide,{by decide,by decide,by decide},.inl {Int.lt_of_lt_of_le (by decide) g0,Int.lt_trans g1<|by decide},?_};generalize x/40%10^(15:Int).toNat*10^(44:Int).toNat=gr;refine !!!!{Dz,λp hp=>!⟨{by decide,by trivial},by decide,cC i0 i1 hp λd hd=>?_⟩};have hd:d∈[D.int 0,.int 1,.int 2,.int 10,.int (-1),.int (-2),.int gr,.int<|0-gr]:=hd;simp only[zi,zH,or_false]at hd;rcases hd with rfl|rfl|rfl|rfl|rfl|rfl|rfl|rfl<;>exact fo (q _<|RX h _);refine{Dz,λp hp=>!⟨{by decide,by trivial},by decide,cC i0 i1 hp λd hd=>?_⟩};have hd:d∈WDS.map D.str:=hd;obtain⟨z,hz,rfl⟩:=zh.mp hd;exact fo<|q _<|RY (zZ h)<|RW z hz
inductive E9(ds:v0)(S:ak)(R:KD)(Z:KX):Prop where
 |mk (x:Int)(h0:ds=[.int x])(h1:∀z∈KS,R (.str z) S)
theorem JP:Ok P w base T.EW 1 E9:=by
 obtain⟨x,e,q⟩:T.EW.F.bF A8;refine{_,(sc (ck (i:=1) A8.nd<|wD<|bn (cK<|ac ds<|ac ds<|ac ds<|ac ds<|ac ds<|ac ds<|ac ds<|ac ds<|ac ds<|ac ds<|ac ds<|ac ds an)<|bd bq (dv 0) di)<|s1<|sr<|bd bw (dv 1)<|wD<|bn (cK<|ac ds<|ac ds<|ac ds<|ac ds<|ac ds<|ac ds<|ac ds<|ac ds an)<|bd bq (bd bU (dv 0) di) di),?_};refine{WW,λp hp=>!{by decide,cC (zO _<|by decide) (zL _<|by decide) hp λd hd=>?_}};have hd:d∈KW.map D.str:=hd;obtain⟨a,ha,rfl⟩:=zh.mp hd;refine !{Dz,λp hp=>!⟨{by decide,by trivial},by decide,cC (zO _<|by decide) (zL _<|by decide) hp λd hd=>?_⟩};obtain⟨b,hb,rfl⟩:∃b∈KU,d=.str b:=by have hd:d∈[D.str "",.str "",.str "",.str "",.str "0",.str "b7",.str "zz",.str "9"]:=hd;simp only[zi,zH,or_false]at hd;rcases hd with h|h|h|h|h|h|h|h<;>exact{_,by simp,h}
 exact{sm<|W0 a ha b hb,fo<|q _<|List.mem_flatMap.mpr {a,ha,zh.mpr ⟨b,hb,rfl⟩}}
theorem dD{α β:Type}{rel:α->β->Prop}{l:List α}{m:List β}(h:Paired rel l m):∀{i:Nat}{b:β},m[i]?=some b->∃a,l[i]?=some a/\rel a b:=by induction h with|nil=>intro i a h;simp at h|cons r t ih=>intro i a h;cases i with|zero=>(rw[List.getElem?_cons_zero]at h⊢;cases h;exact{_,rfl,r})|succ i=>rw[List.getElem?_cons_succ]at h⊢;exact ih h
theorem vF{α β:Type}{rel:α->β->Prop} : ∀{l:List α}{m:List β},m.length=l.length->(∀(i:Nat) a b,l[i]?=some a->m[i]?=some b->rel a b)->Paired rel l m|[],[],_,_=>.nil|a::l,b::m,h,k=>.cons (k 0 a b rfl rfl)<|vF (by simpa using h) λi x y e1 e2=>k (i+1) x y (by rw[List.getElem?_cons_succ];exact e1)<|by rw[List.getElem?_cons_succ];exact e2
def Wg(cs:ww)(ws:v0):Prop:=Paired (λ(c:Str×Str) v=>Vg c.2 v) cs ws
noncomputable def sQ(tr j:Nat):Str:=xB.getD ((tr+3*j)%8) ""
theorem JQ:∀tr<8,∀i<9,((List.range i).map<|sQ tr).Nodup:=by trivial
theorem R1(tr j:Nat):sQ tr j∈xB:=by have:(tr+3*j)%8<8:=Nat.mod_lt _ (by decide);unfold sQ;rw[zB,zg<|show(tr+3*j)%8<xB.length from this];exact List.getElem_mem _
theorem R3(tr j:Nat):sQ (tr%8) j=sQ tr j:=by unfold sQ;rw[show(tr%8+3*j)%8=(tr+3*j)%8 by lia]
def Cg(cs:ww):Prop:=Gd cs/\∀c∈cs,c.1∈xB
inductive Nw(S:ak)(c:Int)(lx ln lf:Addr)(m tr:Nat)(x0:Int)(i:Nat)(aA:SD)(S':ak):Prop where
 |mk (cs:ww)(y2:Int)(o6:wn)(h0:aA=[some<|.int c,some<|.ref lx,some<|.ref ln,some<|.int (m:Nat),some<|.ref lf,o6])(h1:cs.map Prod.fst=(List.range i).map (sQ tr))(h2:(∀c∈cs,c.2 ="number"\/c.2 ="word"))(h3:S' lx=some (.lst<|[x0,((tr:Nat):Int),y2].map D.int))(h4:S' ln=some (.lst<|xB.map D.str))(h5:S' lf=some (.lst<|cs.map az))(h6:Sub S S'):Nw S c lx ln lf m tr x0 i aA S'
inductive pR(ds:v0)(S:ak)(R:KD)(Z:KX):Prop where
 |mk (c:Int)(h0:ds=[.int c])(h1:∀cs,Cg cs->R (.tup<|cs.map az) S)
theorem DM:Ok P w base T.ox 2 pR:=by
 obtain⟨c,e,q⟩:T.ox.F.bF cU;refine{_,(sc (ck (i:=1) cU.nd<|aQ T.iq (jG T) hr<|ap 0<|ac di an)<|sc (ck (i:=2) cU.nd<|cK<|ac ds<|ac ds<|ac ds<|ac ds<|ac ds<|ac ds<|ac ds<|ac ds an)<|sc (ck (i:=3) cU.nd<|wD<|bn (cK<|ac di<|ac di<|ac di<|ac di<|ac di<|ac di<|ac di<|ac di an)<|bd bq (bn (dv 1) di) di)<|sc (ck (i:=4) cU.nd<|cK an)<|sc (ql<|Hy (Oo T.f9<|ap 3 an) (gn (i:=5) cU.nd)<|sc (se<|bm zM z0 ya cL (dv 4)<|ac (bc<|ac (bn (dv 2)<|bd bq (bd bw (bn (dv 1) di)<|bd rK di<|dv 5) di)<|ac (wD<|bn (cK<|ac ds<|ac ds an)<|bd bq (bn (dv 1) di) di) an) an)<|s1<|sls (dv 1) di<|bd bU (bn (dv 1) di) di)<|s1<|sr<|ct eV T.bC aX<|ap 4 an),?_};refine !{c,3,rfl,by decide,λxs lx HD hx Aq=>?_};obtain⟨x0,x1,x2,rfl⟩:∃x0 x1 x2,xs=[x0,x1,x2]:=by match xs,HD with|[a,b,c],_=>exact⟨a,b,c,rfl⟩
 obtain⟨tr,rfl⟩:=Int.eq_ofNat_of_zero_le<|hx x1 (by simp);refine{Dz,λln V9=>?_};have Hz:((S.set lx<|.lst<|[x0,((tr:Nat):Int),x2].map D.int).set ln<|.lst<|xB.map D.str) lx=some (.lst<|[x0,((tr:Nat):Int),x2].map D.int):=(ae<|fk aa V9).trans aa;have Oz:((S.set lx<|.lst<|[x0,((tr:Nat):Int),x2].map D.int).set ln<|.lst<|xB.map D.str) ln=some (.lst<|xB.map D.str):=aa;have s1:=(Sub.new (c:=.lst<|[x0,((tr:Nat):Int),x2].map D.int) Aq).trans<|.new (c:=.lst<|xB.map D.str) V9;have nxn:lx≠ln:=fk aa V9;rw[show[D.str "key",.str "a",.str "ab",.str "at",.str "up",.str "mark",.str "b",.str "price"]=xB.map D.str from rfl];generalize (S.set lx<|.lst<|[x0,((tr:Nat):Int),x2].map D.int).set ln (.lst<|xB.map D.str)=S1 at Hz Oz s1⊢;refine{Dz,λp hp=>!{_,_,(Sub.new hp) _ _ Hz,rfl,by decide,cC (zO _<|by decide) (zL _<|by decide) hp λd hd=>?_}};obtain⟨m,rfl,hm⟩:∃m:Nat,d=.int m/\m<=8:=by have hd:d∈[D.int 1,.int 2,.int 3,.int 0,.int 2,.int 1,.int 8,.int 3]:=hd;simp only[zi,zH,or_false]at hd;rcases hd with h|h|h|h|h|h|h|h;exact{1,h,by decide};exact{2,h,by decide};exact{3,h,by decide};exact{0,h,by decide};exact{2,h,by decide};exact{1,h,by decide};exact{8,h,by decide};exact{3,h,by decide}
 refine{uA,λlf G5=>?_};have afk:S1 lx≠none:=by rw[Hz];nofun
 have nxf:lx≠lf:=fk Hz G5;have nnf:ln≠lf:=fk Oz G5;have sz:=s1.trans<|Sub.new (c:=.lst []) G5;have R4:S lf=none:=by cases e:S lf with|none=>rfl|some z=>have:=s1 _ _ e;rw[G5]at this;cases this
 refine{λaA S'=>∃(cs:ww)(o6:wn),aA=[some<|.int c,some<|.ref lx,some<|.ref ln,some<|.int (m:Nat),some<|.ref lf,o6]/\Cg cs/\S' lf=some (.lst<|cs.map az)/\Sub S S',?_,?_};refine !{((m:Nat):Int),rfl,by lia,by lia,?_};refine{Nw S c lx ln lf m tr x0,{[],x2,none,rfl,rfl,λ_ h=>(nomatch h),(ae nxf).trans Hz,(ae nnf).trans Oz,aa,sz},λ_ _ _ _=>trivial,?_,?_};rintro i d aA S' hd ⟨cs,y2,o6,rfl,hn,hk,hX,hN,hF,hs⟩;have hd:(dS 0 ((m:Nat):Int).toNat)[i]?=some d:=hd;obtain⟨hi,rfl⟩:=c9 hd;have Ap:cs.length=i:=by have:=congrArg List.length hn;simpa using this
 have enm:iW (xB.map D.str) ((((tr:Nat):Int)+3*(0+((i:Nat):Int)))%8)=some (.str<|sQ tr i):=by rw[show(((tr:Nat):Int)+3*(0+((i:Nat):Int)))%8=(((tr+3*i)%8:Nat):Int) by lia];have eI:(tr+3*i)%8<8:=Nat.mod_lt _ (by decide);refine bZ ?_;rw[zm];unfold sQ;rw[zB,zg<|show(tr+3*i)%8<xB.length from eI];rfl
 refine{_,rfl,{rfl,_,hF},_,rfl,_,rfl,_,_,hX,rfl,_,rfl,.inl {by decide,by decide},by decide,_,_,hN,enm,bR,λp hp=>!{_,_,(Sub.new hp) _ _ hX,rfl,by decide,cC (zO _<|by decide) (zL _<|by decide) hp λd hd=>?_}};obtain⟨kd,rfl,W2⟩:∃kd:Str,d=.str kd/\(kd ="number"\/kd ="word"):=by have hd:d∈[D.str "number",.str "word"]:=hd;simp only[zi,zH,or_false]at hd;rcases hd with h|h;exact{_,h,.inl rfl};exact{_,h,.inr rfl}
 refine{bR,lf,_,_,rfl,rfl,hF,bg<|by rw[zb];lia,?_};have E_:(S'.set lf<|.lst<|cs.map az++[.tup [.str<|sQ tr i,.str kd]]) lx=some (.lst<|[x0,((tr:Nat):Int),y2].map D.int):=(ae nxf).trans hX;refine !{_,_,E_,rfl,{by decide,by trivial},_,rfl,lx,_,2,2,rfl,rfl,E_,rfl,?_};refine{cs++[(sQ tr i,kd)],y2/2,_,rfl,?_,?_,aa,(ae nxn.symm).trans<|(ae nnf).trans hN,?_,λb x hb=>?_};rw[zN,hn,List.range_succ,zN];rfl;intro c hc;rcases zP.mp hc with h|h;exact hk c h;rw[zK.mp h];exact W2;rw[ae nxf.symm,aa,zN];rfl;have hbx:b≠lx:=fk hb Aq;rw[ae hbx,ae<|fk hb R4];exact hs b x hb;rintro aA S' ⟨cs,y2,o6,rfl,hn,hk,hX,hN,hF,hs⟩;rw[show({dS 0 ((m:Nat):Int).toNat,λ_=>True}:lW).xs.length=((m:Nat):Int).toNat from cE,show((m:Nat):Int).toNat=m by lia]at hn;have Ap:cs.length=m:=by have:=congrArg List.length hn;simpa using this
 have B4:∀c∈cs,c.1∈xB:=λc hc=>by have:c.1∈cs.map Prod.fst:=zh.mpr ⟨c,hc,rfl⟩;rw[hn]at this;obtain⟨j,_,e⟩:=zh.mp this;rw[<-e];exact R1 tr j
 have hnd:(cs.map Prod.fst).Nodup:=by rw[hn,zV λj _=>(R3 tr j).symm];exact JQ (tr%8) (Nat.mod_lt _<|by decide) m<|by lia
 exact fo {cs,_,rfl,{{by lia,hnd,λc hc=>{(xC _<|B4 c hc).1,hk c hc}},B4},hF,hs};rintro aA S' ⟨cs,o6,rfl,hc,hF,hs⟩;exact !{_,_,rfl,.inl hF,S,hs,q cs hc}
inductive sR(ds:v0)(S:ak)(R:KD)(Z:KX):Prop where
 |mk (cs:ww)(l:Addr)(xs:sB)(h0:ds=[.tup<|cs.map az,.ref l])(h1:Gd cs)(h2:S l=some (.lst<|xs.map D.int))(h3:cs.length<=xs.length)(h4:∀ws,Wg cs ws->R (.tup ws) S)
theorem G6:Ok P w base T.sy 2 sR:=by
 obtain⟨cs,l,xs,e,hg,hl,HD,q⟩:T.sy.F.bF A9;have h8:=hg.1;refine{_,(s1<|sr<|ct eV T.bC aX<|ac (wK (N:=["_law_k","_law_xs","_law_columns_here"]) (src:=[none,some 1,some 0]) (jW Df) (Oo T.f9<|ac (cb br T.aY aK<|ap 0 an) an) pC<|aQ T.qN (Bf T) hr<|ac (bn (bn (dv 2)<|dv 0) di)<|ac (bn (dv 1)<|dv 0) an) an),?_};refine !!!{by rw[zb];lia,by rw[zb];lia,?_};rw[zb];refine jz (λd v=>∃(j:Nat)(c:Str×Str),d=.int (0+(j:Nat))/\cs[j]?=some c/\Vg c.2 v) trivial (by show(dS 0 _).length<=_;rw[cE];lia) (λd hd Q hQ=>?_) λout hp p j5=>?_;obtain⟨j,hj⟩:=yE hd;have hj:(dS 0 ((cs.length:Nat):Int).toNat)[j]?=some d:=hj;obtain⟨hjn,rfl⟩:=c9 hj;have hjc:j<cs.length:=by lia
 have ec:=zg hjc;generalize cs[j]=c at ec;have ex:(xs.map D.int)[j]?=some (.int<|xs[j]'(by lia)):=by rw[zm,zg<|show j<xs.length by lia];rfl
 generalize xs[j]'_=x at ex;have ej:(0:Int)+((j:Nat):Int)=((j:Nat):Int):=Int.zero_add _;refine !!{az c,by rw[ej];exact bZ<|by rw[zm,ec];rfl,_,rfl,_,rfl,_,rfl,_,_,hl,by rw[ej];exact bZ ex,c.2,x,rfl,λv hv=>hQ v ⟨j,c,rfl,ec,hv⟩};have hw:Wg cs out:=by have hlen:=yX hp;rw[show({dS 0 ((cs.length:Nat):Int).toNat,λ_=>True}:lW).xs=dS 0 ((cs.length:Nat):Int).toNat from rfl,cE]at hlen;refine vF (by lia) λj c v ec ev=>?_;obtain⟨d,hd,j',c',e1,e2,hv⟩:=dD hp ev;have hd:(dS 0 ((cs.length:Nat):Int).toNat)[j]?=some d:=hd;obtain⟨_,e3⟩:=c9 hd;rw[e3]at e1;have e1:(0:Int)+((j:Nat):Int)=0+((j':Nat):Int):=D.int.inj e1;obtain rfl:j=j':=(by lia);rw[ec]at e2;cases e2;exact hv
 exact{_,out,rfl,.inl aa,S,.new j5,q out hw}
abbrev Kn:=List<|Str×List D
noncomputable def hG(kn:Kn):wf:=kn.map λr=>(Sum.inr r.1,D.tup r.2)
noncomputable def iU(kn:Kn)(z:Str):Option (List D):=(kn.find? λr=>decide<|r.1=z).map (·.2)
structure KI(cs:ww)(kn:Kn):Prop where
 nd:(kn.map (·.1)).Nodup
 ok:∀r∈kn,r.1∈KS/\Wg cs r.2
theorem bS:iU (r::kn) k=if r.1=k then some r.2 else iU kn k:=by unfold iU;rw[yb];by_cases h:r.1=k;rw[zu h,if_pos h];rfl;rw[zx h,if_neg h]
theorem sS(kn:Kn)(k:Str):cn (hG kn) (.inr k)=(iU kn k).map D.tup:=by induction kn with|nil=>rfl|cons r kn ih=>rw[bS];unfold cn hG at *;rw[zt,yb];by_cases h:r.1=k;have:decide ((Sum.inr r.1:Key)=.inr k)=true:=zu (by rw[h]);dsimp only;rw[this,if_pos h];rfl;have:decide ((Sum.inr r.1:Key)=.inr k)=false:=zx λe=>h<|yM e;dsimp only;rw[this,if_neg h];exact ih
theorem mY(h:iU kn k=some ws):(k,ws)∈kn:=by induction kn with|nil=>(cases h)|cons r kn ih=>rw[bS]at h;by_cases hk:r.1=k;rw[if_pos hk]at h;cases h;rw[<-hk];exact zj;rw[if_neg hk]at h;exact zf _<|ih h
theorem jH(h:k∈kn.map (·.1)):∃ws,iU kn k=some ws:=by induction kn with|nil=>(cases h)|cons r kn ih=>rw[bS];by_cases hk:r.1=k;exact{r.2,if_pos hk};rw[if_neg hk];rw[zt]at h;rcases zi.mp h with e|h;exact absurd e.symm hk;exact ih h
theorem sub_len[DecidableEq α]:∀{l m:List α},l.Nodup->(∀x∈l,x∈m)->l.length<=m.length|[],m,_,_=>zY _|a::l,m,nd,h=>by obtain⟨n1,n2⟩:=yi.mp nd;have h1:=sub_len (m:=m.erase a) n2 λx hx=>(List.mem_erase_of_ne λe=>n1<|by rw[<-e];exact hx).mpr<|h x<|zf _ hx;have h2:=List.length_erase_of_mem<|h a zj;have h3:0<m.length:=List.length_pos_of_mem<|h a zj;rw[zQ];omega
theorem KI.len(h:KI cs kn):kn.length<=60:=by
 have:=sub_len h.nd (m:=KS) λx hx=>by obtain⟨r,hr,rfl⟩:=zh.mp hx;exact(h.ok r hr).1
 rw[zb]at this;exact zI this<|by trivial
noncomputable def qx(kn:Kn)(z:Str)(ws:v0):Kn:=if (iU kn z).isSome then kn.map λr=>if r.1=z then (r.1,ws) else r else kn++[(z,ws)]
noncomputable def xD(kn:Kn)(z:Str):Kn:=kn.filter λr=>decide<|r.1≠z
theorem JR(kn:Kn)(z:Str)(ws:v0):dput (hG kn) (.inr z) (.tup ws)=hG (qx kn z ws):=by
 unfold dput qx;have e:((hG kn).any λkv=>decide<|kv.1=.inr z)=(iU kn z).isSome:=by induction kn with|nil=>rfl|cons r kn ih=>unfold hG at *;rw[zt,yT,ih,bS];by_cases h:r.1=z;rw[if_pos h,zu<|by rw[h],Bool.true_or];rfl;rw[if_neg h,zx λe=>h<|yM e,Bool.false_or]
 rw[e];split;unfold hG;rw[zq,zq];refine zV λr _=>?_;dsimp only[Function.comp];by_cases h:r.1=z;rw[if_pos h,if_pos<|by rw[h]];rw[if_neg h,if_neg λe=>h<|yM e];unfold hG;rw[zN];rfl
theorem R5(kn:Kn)(z:Str):AA (hG kn) (.inr z)=hG (xD kn z):=by unfold AA xD hG;rw[List.filter_map];congr 1;refine List.filter_congr λr _=>?_;dsimp only[Function.comp];rw[decide_eq_decide];exact{λh e=>h<|by rw[e],λh e=>h<|yM e}
theorem Ni:iU (qx kn z ws) k=if k=z then some ws else iU kn k:=by
 unfold qx;by_cases hs:(iU kn z).isSome=true;rw[if_pos hs];by_cases hk:k=z;subst hk;rw[if_pos rfl];induction kn with|nil=>(cases hs)|cons r rs ih=>rw[zt,bS];by_cases h:r.1=k;rw[if_pos h,if_pos h];rw[if_neg h,if_neg h];rw[bS,if_neg h]at hs;exact ih hs
 rw[if_neg hk];clear hs;induction kn with|nil=>rfl|cons r rs ih=>rw[zt,bS,bS,ih];by_cases h:r.1=z;rw[if_pos h,if_neg<|show ¬r.1=k from λe=>hk<|e.symm.trans h,if_neg<|show ¬r.1=k from λe=>hk<|e.symm.trans h];rw[if_neg h]
 rw[if_neg hs];have hn:iU kn z=none:=by cases e:iU kn z<;>simp_all
 clear hs;induction kn with|nil=>rw[List.nil_append,bS];by_cases hk:k=z;rw[if_pos hk,if_pos hk.symm];rw[if_neg hk,if_neg λe=>hk e.symm]|cons r rs ih=>rw[bS]at hn;by_cases h:r.1=z;rw[if_pos h]at hn;cases hn;rw[if_neg h]at hn;rw[List.cons_append,bS,bS,ih hn];by_cases h2:r.1=k;rw[if_pos h2,if_pos h2,if_neg<|show ¬k=z from λe=>h<|h2.trans e];rw[if_neg h2,if_neg h2]
theorem Nj:iU (xD kn z) k=if k=z then none else iU kn k:=by unfold xD;induction kn with|nil=>(split<;>rfl)|cons r kn ih=>rw[yw,bS];by_cases h:r.1=z;rw[if_neg<|by simp[h],ih];by_cases hk:k=z;rw[if_pos hk,if_pos hk];rw[if_neg hk,if_neg hk,if_neg<|show ¬r.1=k from λe=>hk<|e.symm.trans h];rw[if_pos<|by simp[h],bS,ih];by_cases hk:k=z;rw[if_pos hk,if_pos hk,if_neg<|show ¬r.1=k from λe=>h<|e.trans hk];rw[if_neg hk,if_neg hk]
theorem KI.put(h:KI cs kn)(hz:z∈KS)(hw:Wg cs ws):KI cs (qx kn z ws):=by
 unfold qx;split;refine{?_,λr hr=>?_};have:(kn.map λr=>if r.1=z then (r.1,ws) else r).map (·.1)=kn.map (·.1):=by rw[zq];exact zV λr _=>by dsimp only[Function.comp];split<;>rfl
 rw[this];exact h.nd;obtain⟨r0,E1,e⟩:=zh.mp hr;by_cases q:r0.1=z;rw[if_pos q]at e;subst e;exact{(h.ok r0 E1).1,hw};rw[if_neg q]at e;subst e;exact h.ok r0 E1;rename_i hs;refine{?_,λr hr=>?_};rw[zN];refine l_ h.nd λm=>hs ?_;obtain⟨YG,e⟩:=jH m;show(iU kn z).isSome=true;rw[show iU kn z=some YG from e];rfl;rcases zP.mp hr with hr|hr;exact h.ok r hr;rw[zK.mp hr];exact⟨hz,hw⟩
theorem KI.del(h:KI cs kn)(z:Str):KI cs (xD kn z):={(List.Sublist.map _ yJ).nodup h.nd,λr hr=>h.ok r (yn.mp hr).1}
def GD(ks:j4)(cs:ww)(kn:Kn)(d:D):Prop:=(∃z ws,z∈ks/\Wg cs ws/\iU kn z=none/\d=.tup [.str "put",.str z,.tup ws])\/(∃z ws,z∈KS/\Wg cs ws/\(iU kn z).isSome=true/\d=.tup [.str "change",.str z,.tup ws])\/∃z,z∈KS/\(iU kn z).isSome=true/\d=.tup [.str "take",.str z]
def Ly(S:ak)(n:Nat)(d:D):Prop:=∃p,Dp S d p/\p.canLay0=true/\p.depth<=n
theorem Ly.all:∀{ds:v0},(∀d∈ds,Ly S n d)->∃ps:u8,DpAll S ds ps/\PyData.canLayAll0 ps=true/\PyData.depthAll ps<=n/\ps.length=ds.length|[],_=>{[],by simp only[DpAll],rfl,zY _,rfl}|d::ds,h=>by obtain⟨p,h1,h2,h3⟩:=h d zj;obtain⟨ps,k1,k2,k3,k4⟩:=Ly.all λx hx=>h x<|zf _ hx;refine{p::ps,by simp only[DpAll];exact⟨p,ps,rfl,h1,k1⟩,by simp only[PyData.canLayAll0,h2,k2,Bool.and_self],by simp only[PyData.depthAll];lia,by rw[zQ,zQ,k4]}
theorem Ly.tup{S:ak}{n:Nat}{ds:v0}(h:∀d∈ds,Ly S n d):Ly S (n+1) (.tup ds):=by obtain⟨ps,k1,k2,k3,_⟩:=Ly.all h;exact{.tuple ps,by simp only[Dp];exact⟨ps,rfl,k1⟩,by simp only[PyData.canLay0];exact k2,by simp only[PyData.depth];lia}
theorem Ly.str(h:PyData.strOk z=true):Ly S 0 (.str z):={.str z,by simp only[Dp],by simp only[PyData.canLay0];exact h,by simp only[PyData.depth];lia}
theorem Ly.le(h:Ly S n d)(l:n<=m):Ly S m d:=by obtain⟨p,a,b,c⟩:=h;exact{p,a,b,zI c l}
theorem Ly.au:Ly S 0 .au:={.none,by simp only[Dp],by simp only[PyData.canLay0],by simp only[PyData.depth];lia}
theorem Ly.plain(h:a_ d=true):Ly S 0 d:=by cases d with|au=>exact Ly.au|int i=>exact{.int i,by simp only[Dp],by simp only[PyData.canLay0],by simp only[PyData.depth];lia}|str z=>have h:(decide (z.cps.size<=40)&&PyData.strOk z)=true:=h;rw[zA]at h;exact Ly.str h.2|_=>cases h
theorem Ly.dl(h:Ly S n d):∃p,Dl S d p/\p.canLay0=true/\p.depth<=n:=by obtain⟨p,a,b,c⟩:=h;refine{p,?_,b,c};cases d with|ref x=>simp only[Dp]at a|_=>exact a
theorem Ly.lst{S:ak}{n:Nat}{a:Addr}{ds:v0}(e:S a=some (.lst ds))(h:∀d∈ds,Ly S n d):∃p,Dl S (.ref a) p/\p.canLay0=true/\p.depth<=n+1/\∀b,S b=some (.lst ds)->Dl S (.ref b) p:=by obtain⟨ps,k1,k2,k3,_⟩:=Ly.all h;exact{.list ps,⟨ds,ps,e,rfl,k1⟩,by simp only[PyData.canLay0];exact k2,by simp only[PyData.depth];lia,λb hb=>⟨ds,ps,hb,rfl,k1⟩}
theorem eq_self(h:Ly S 64 d)(q:R (.bl<|!neg) S):EB neg d d S R:=by
 obtain⟨p,a,b,c⟩:=h.dl;have e:(if neg then !PyData.eqv p p else PyData.eqv p p)=!neg:=by rw[SeqAt.eqv_refl p b];cases neg<;>rfl
 have W3:∃p q,Dl S d p/\Dl S d q/\p.canLay0=true/\q.canLay0=true/\(p.depth<=64\/q.depth<=64)/\R (.bl<|if neg then !PyData.eqv p q else PyData.eqv p q) S:={p,p,a,a,b,b,.inl c,by rw[e];exact q};cases d with|int i=>(show R (.bl<|if neg then !decide (i=i) else decide (i=i)) S;rw[zu rfl];cases neg<;>exact q)|str i=>(show R (.bl<|if neg then !decide (i=i) else decide (i=i)) S;rw[zu rfl];cases neg<;>exact q)|_=>exact W3
theorem Bh{S:ak}{a b:Addr}{ds:v0}{R:KD}{neg:Bool}(e1:S a=some (.lst ds))(e2:S b=some (.lst ds))(h:∀d∈ds,Ly S 60 d)(q:R (.bl<|!neg) S):EB neg (.ref a) (.ref b) S R:=by
 obtain⟨p,k1,k2,k3,k4⟩:=Ly.lst e1 h;have e:(if neg then !PyData.eqv p p else PyData.eqv p p)=!neg:=by rw[SeqAt.eqv_refl p k2];cases neg<;>rfl
 exact{p,p,k1,k4 b e2,k2,k2,.inl<|by lia,by rw[e];exact q}
theorem JS(ps:u8):PyData.eqv (.list ps) (.list [])=ps.isEmpty:=by cases ps<;>simp[PyData.eqv,PyData.eqvAll]
theorem JT(ps:u8):PyData.eqv (.tuple ps) (.tuple [])=ps.isEmpty:=by cases ps<;>simp[PyData.eqv,PyData.eqvAll]
theorem Nk{S:ak}{ds:v0}{R:KD}(h:∀d∈ds,Ly S 60 d)(q:R (.bl ds.isEmpty) S):EB false (.tup ds) (.tup []) S R:=by obtain⟨ps,k1,k2,k3,k4⟩:=Ly.all h;refine{.tuple ps,.tuple [],by simp only[Dl,Dp];exact⟨ps,rfl,k1⟩,by simp only[Dl,Dp];exact{[],rfl,by simp only[DpAll]},by simp only[PyData.canLay0];exact k2,by simp only[PyData.canLay0,PyData.canLayAll0],.inl<|by simp only[PyData.depth];lia,?_};rw[if_neg zd,JT,show ps.isEmpty=ds.isEmpty by cases ps<;>cases ds<;>first|rfl|cases k4];exact q
theorem Wg.all(h:Wg cs ws):∀d∈ws,a_ d=true:=by unfold Wg at h;induction h with|nil=>exact λ_ h=>(nomatch h)|cons r t ih=>intro d hd;rcases zi.mp hd with e|hd;rw[e];exact r.2;exact ih d hd
theorem Wg.ly{cs:ww}{ws:v0}(h:Wg cs ws){S:ak} : Ly S 1 (.tup ws):=Ly.tup λd hd=>Ly.plain<|h.all d hd
def Mo(sp:rP):rP:=λds S R Z=>∃R0 Z0,sp ds S R0 Z0/\(∀d S',R0 d S'->R d S')/\∀C S',Z0 C S'->Z C S'
theorem R6(F:bT P w K mg base (fR P w mg) k f fd ps<|tQ K sp):bT P w K mg base (fR P w mg) k f fd ps (tQ K<|Mo sp):=F.imp<|by rintro vs H Q E ⟨ds,S,R,Z,v,hS,⟨R0,Z0,h,h1,h2⟩,hR,hZ⟩;exact{ds,S,R0,Z0,v,hS,h,λd S' u H' r=>hR d S' u H'<|h1 _ _ r,λC S' H' z=>hZ C S' H'<|h2 _ _ z}
abbrev OV:=jE
abbrev Bi:=fK
abbrev JU:=iz
def KnD(kn:Kn)(d:D)(oQ:Kn):Prop:=(∃(n:Str) (z:Str) (ws:v0),(n ="put"\/n ="change")/\d=.tup [.str n,.str z,.tup ws]/\oQ=qx kn z ws)\/∃z,(iU kn z).isSome=true/\d=.tup [.str "take",.str z]/\oQ=xD kn z
inductive DN(t:eJ)(ds:v0)(S:ak)(R:KD)(Z:KX):Prop where
 |mk (a fs)(h0:S a=some (.ins t.ar fs))(h1:fs.map Prod.fst=(["columns","deeds","runs"]:j4))(h2:((∃k v,ds=[.ref a,.tup [.str "put",k,v]]/\OV t [.ref a,k,v] S R Z)\/(∃k v,ds=[.ref a,.tup [.str "change",k,v]]/\Bi t [.ref a,k,v] S R Z)\/∃k,ds=[.ref a,.tup [.str "take",k]]/\JU t [.ref a,k] S R Z))
theorem lk0:∀{fs:wl},m∉fs.map Prod.fst->fs.lookup m=none|[],_=>rfl| (a,b)::fs,h=>by rw[zt,zi]at h;rw[zX,show(m==a)=false from beq_false_of_ne λe=>h<|.inl e];exact lk0 λq=>h<|.inr q
theorem lk3{fs:wl}(h:fs.map Prod.fst=(["columns","deeds","runs"]:j4)){m:Str}(hm:m∉(["columns","deeds","runs"]:j4)):fs.lookup m=none:=lk0<|by rw[h];exact hm
def OW(t:eJ):rP:=λds S R Z=>DN t ds S (λ_=>R .au) Z
theorem Fc:Ok P w base T.oy 7 (OW t):=by have jI:lY P w mg base T.fg 6 (Mo<|OV t):=R6<|RS T;have fM:lY P w mg base T.cT 6 (Mo<|Bi t):=R6<|G1 T;have iA:lY P w mg base T.dW 6 (Mo<|JU t):=R6<|Nc T;refine T.oy.F.ok GS (λds S R Z ⟨_,_,_,_,h⟩=>by rcases h with⟨_,_,e,_⟩|⟨_,_,e,_⟩|⟨_,e,_⟩<;>rw[e]<;>rfl) λfV A outer s H E ds S R Z hr ⟨a,fs,ha,hf,h⟩=>?_;rcases h with⟨k,v,e,h⟩|⟨k,v,e,h⟩|⟨k,e,h⟩;subst e;refine{_,(s1<|si (aV aL hr.u (ix hr.u (dv 1) di) ds) (s1<|se<|lZ (dv 0) T.aq T.fg jI hr<|ac (ix hr.u (dv 1) di)<|ac (ix hr.u (dv 1) di) an)<|s1<|si (aV aL hr.u (ix hr.u (dv 1) di) ds) (s1<|se<|lZ (dv 0) T.aq T.cT fM hr<|ac (ix hr.u (dv 1) di)<|ac (ix hr.u (dv 1) di) an)<|s1<|se<|lZ (dv 0) T.aq T.dW iA hr<|ac (ix hr.u (dv 1) di) an),?_};refine !!!⟨?_⟩;refine b9 (λ_=>?_) λh=>absurd h (by decide);exact !{a,_,rfl,ha,lk3 hf<|by decide,_,rfl,_,rfl,_,rfl,_,rfl,_,Z,h,λd S' r=>fo r,λC S' z=>fo z};subst e;refine{_,(s1<|si (aV aL hr.u (ix hr.u (dv 1) di) ds) (s1<|se<|lZ (dv 0) T.aq T.fg jI hr<|ac (ix hr.u (dv 1) di)<|ac (ix hr.u (dv 1) di) an)<|s1<|si (aV aL hr.u (ix hr.u (dv 1) di) ds) (s1<|se<|lZ (dv 0) T.aq T.cT fM hr<|ac (ix hr.u (dv 1) di)<|ac (ix hr.u (dv 1) di) an)<|s1<|se<|lZ (dv 0) T.aq T.dW iA hr<|ac (ix hr.u (dv 1) di) an),?_};refine !!!⟨?_⟩;refine b9 (λh=>absurd h<|by decide) λ_=>?_;refine !!!⟨?_⟩;refine b9 (λ_=>?_) λh=>absurd h (by decide);exact !{a,_,rfl,ha,lk3 hf<|by decide,_,rfl,_,rfl,_,rfl,_,rfl,_,Z,h,λd S' r=>fo r,λC S' z=>fo z};subst e;refine{_,(s1<|si (aV aL hr.u (ix hr.u (dv 1) di) ds) (s1<|se<|lZ (dv 0) T.aq T.fg jI hr<|ac (ix hr.u (dv 1) di)<|ac (ix hr.u (dv 1) di) an)<|s1<|si (aV aL hr.u (ix hr.u (dv 1) di) ds) (s1<|se<|lZ (dv 0) T.aq T.cT fM hr<|ac (ix hr.u (dv 1) di)<|ac (ix hr.u (dv 1) di) an)<|s1<|se<|lZ (dv 0) T.aq T.dW iA hr<|ac (ix hr.u (dv 1) di) an),?_};refine !!!⟨?_⟩;refine b9 (λh=>absurd h<|by decide) λ_=>?_;refine !!!⟨?_⟩;refine b9 (λh=>absurd h<|by decide) λ_=>?_;exact !{a,_,rfl,ha,lk3 hf<|by decide,_,rfl,_,rfl,_,Z,h,λd S' r=>fo r,λC S' z=>fo z}
noncomputable def p3(p:Str×Str×Str):D:=.tup [.str p.1,.str p.2.1,.str p.2.2]
noncomputable def kr(z:Str):Bool:=decide (z ="up")||decide (z ="down")
noncomputable def Bj(z:Str):Bool:=decide (z ="first")||decide (z ="last")
theorem OX(z a b:Str)(x y:V):(([(a,x),(b,y)]:ge).lookup z).isSome=(decide (z=a)||decide (z=b)):=by rw[zX,zX];by_cases h:z=a;rw[show(z==a)=true by simp[h],zu h];rfl;rw[show(z==a)=false by simp[h],zx h];by_cases h2:z=b;rw[show(z==b)=true by simp[h2],zu h2];rfl;rw[show(z==b)=false by simp[h2],zx h2];rfl
noncomputable def sT(cs:ww)(p:Str×Str×Str):Bool:=decide (p.1∈cs.map Prod.fst)&&(kr p.2.1&&Bj p.2.2)
noncomputable def Bk(cs:ww)(ps:List<|Str×Str×Str)(wy:Str):Bool:=decide (ps.length<=8)&&(ps.all (sT cs)&&(decide ((ps.map Prod.fst).Nodup)&&kr wy))
theorem xE(l:wl)(z:Str)(h:cn (rS l) (.inr z)=some d):∃p∈l,p.1=z/\d=p.2:=by
 have all:∀(l:wl)(c:wf),cn (l.foldl (λc p=>dput c (.inr p.1) p.2) c) (.inr z)=some d->(∃p∈l,p.1=z/\d=p.2)\/cn c (.inr z)=some d:=by intro l;induction l with|nil=>intro c h;exact .inr h|cons p l ih=>intro c h;rcases ih _ h with⟨q,hq,e⟩|h;exact .inl {q,zf _ hq,e};rw[AJ]at h;by_cases e:(.inr z:Key)=.inr p.1;rw[if_pos e]at h;exact .inl {p,zj,(yM e).symm,(zT h).symm};rw[if_neg e]at h;exact .inr h
 rcases all l [] h with h|h;exact h;cases h
def Pok(p:Str×Str×Str):Prop:=p.1.cps.size<=1000/\p.2.1.cps.size<=1000/\p.2.2.cps.size<=1000
inductive Bl(ds:v0)(S:ak)(R:KD)(Z:KX):Prop where
 |mk (z)(h0:ds=[.str z])(h1:R (.bl<|kr z) S)
theorem vG:Ok P w base T.wW 1 Bl:=by obtain⟨z,e,q⟩:T.wW.F.bF GQ;refine{_,(s1<|sr<|uh (cb c8 T.ay av<|ap 0<|ac (ug T.so k7) an)<|K7<|cmk T.jn (dv 0)<|dg (v:=.ref t.ji) T.ig rfl λ_=>ia _),?_};refine !{_,_,_,_,rfl,df,rfl,_,rfl,eU !{z,rfl,rfl,?_}};rw[OX];exact fo q
inductive Bn(ds:v0)(S:ak)(R:KD)(Z:KX):Prop where
 |mk (z)(h0:ds=[.str z])(h1:R (.bl<|Bj z) S)
theorem G7:Ok P w base T.Di 1 Bn:=by obtain⟨z,e,q⟩:T.Di.F.bF GR;refine{_,(s1<|sr<|uh (cb c8 T.ay av<|ap 0<|ac (ug T.so k7) an)<|K7<|cmk T.pF (dv 0)<|dg (v:=.ref t.jj) T.mG rfl λ_=>ia _),?_};refine !{_,_,_,_,rfl,df,rfl,_,rfl,eU !{z,rfl,rfl,?_}};rw[OX];exact fo q
inductive mZ(ds:v0)(S:ak)(R:KD)(Z:KX):Prop where
 |mk (cs z)(h0:ds=[.tup<|cs.map az,.str z])(h1:Gd cs)(h2:z.cps.size<=1000)(h3:(∀k,(z,k)∈cs->R (.str k) S))(h4:(z∉cs.map Prod.fst->R .au S))
theorem kL:Ok P w base T.fB 3 mZ:=by
 obtain⟨cs,z,e,hg,hz,q1,q2⟩:T.fB.F.bF uq;refine{_,(sc (si (cX<|tv<|aQ T.qL (sJ T) hr<|ap 1 an) (s1<|sr dn) s0)<|s1<|sr<|bv (ct Rf T.RM L7<|ap 0 an)<|dv 1),?_};refine !{.str z,rfl,gt_str hz,_,rfl,?_};refine b9 (λh=>?_) λh=>?_;have h:mQ z=false:=nt h;refine fo<|q2 λm=>?_;obtain⟨c,hc,rfl⟩:=zh.mp m;rw[(hg.2.2 c hc).1]at h;cases h;have ek:cs.map az=(cs.map λc=>(c.1,D.str c.2)).map I_:=by rw[zq];rfl
 refine !{(cs.map λc=>(c.1,D.str c.2)),by rw[ek],λp hp=>{p,_,rfl,aa,_,rfl,_,.inr z,aa,rfl,S,.new hp,?_}};have h1:=Gz (cs.map λc=>(c.1,D.str c.2)) z;cases q3:cn (rS<|cs.map λc=>(c.1,D.str c.2)) (.inr z) with|none=>(rw[q3]at h1;refine q2 λm=>?_;obtain⟨c,hc,e⟩:=zh.mp m;have:(cs.map λc=>(c.1,D.str c.2)).any (λp=>decide<|p.1=z)=true:=List.any_eq_true.mpr {_,zh.mpr ⟨c,hc,rfl⟩,zu e};rw[this]at h1;cases h1)|some d=>obtain⟨p,hp,e1,rfl⟩:=xE _ _ q3;obtain⟨c,hc,rfl⟩:=zh.mp hp;have e1:c.1=z:=e1;exact q1 c.2<|by rw[<-e1];exact hc
inductive vH(ds:v0)(S:ak)(R:KD)(Z:KX):Prop where
 |mk (cs p)(h0:ds=[.tup<|cs.map az,p3 p])(h1:Gd cs)(h2:Pok p)(h3:R (.bl<|sT cs p) S)
theorem DP:Ok P w base T.wX 4 vH:=by
 have xG:Ok P w base T.fB 3 (λds S R _=>∃cs z,ds=[.tup<|cs.map az,.str z]/\Gd cs/\z.cps.size<=1000/\∀d,ah d=!decide (z∈cs.map Prod.fst)->R d S):=(kL T).Q8 <| by rintro ds S R Z ⟨cs,z,e,hg,hz,q⟩;exact{cs,z,e,hg,hz,λk hk=>q _<|by rw[zu<|zh.mpr {_,hk,rfl}];rfl,λhn=>q _<|by rw[zx hn];rfl}
 obtain⟨cs,p,e,hg,hp,q⟩:T.wX.F.bF Dn;refine{_,(sc (si (twd<|twor (cX<|tv<|cb c8 T.ay av<|ap 1<|ac (ug T.bC aX) an)<|tw1<|bi k9 (cb br T.aY aK<|ap 1 an) di) (s1<|sr db) s0)<|s1<|sr<|uh (be jc (aQ T.fB xG hr<|ap 0<|ac (bn (dv 1) di) an) dn)<|uh (aQ T.wW (vG T) hr<|ac (bn (dv 1) di) an)<|K7<|aQ T.Di (G7 T) hr<|ac (bn (dv 1) di) an),?_};refine !{_,_,_,_,rfl,bh,rfl,_,rfl,aW !!!⟨aW ?_⟩};refine !!!{cs,p.1,rfl,hg,hp.1,λd hd=>!⟨?_⟩};unfold sT at q;refine b9 (λh=>?_) λh=>?_;have h:(!ah d)=true:=h;rw[hd,Bool.not_not]at h;rw[h,yk]at q;refine !!{p.2.1,rfl,_,rfl,?_};refine b9 (λh2=>?_) λh2=>?_;rw[h2,yk]at q;exact !!{p.2.2,rfl,fo q};rw[h2,zW]at q;exact fo q;have h:(!ah d)=false:=h;rw[hd,Bool.not_not]at h;rw[h,zW]at q;exact fo q
inductive kM(ds:v0)(S:ak)(R:KD)(Z:KX):Prop where
 |mk (cs ps wy)(h0:ds=[.tup<|cs.map az,.tup [.tup<|ps.map p3,.str wy]])(h1:Gd cs)(h2:(∀p∈ps,Pok p))(h3:Bk cs ps wy=true)(h4:R .au S)
theorem sU:Ok P w base T.jq 5 kM:=by obtain⟨cs,ps,wy,e,hg,hp,hb,q⟩:T.jq.F.bF fH;have hml:(ps.map p3).length=ps.length:=zb _;unfold Bk at hb;simp only[zA,zS,zR]at hb;obtain⟨h8,ha,hn,hw⟩:=hb;refine{_,(sc (si (twd<|twor (cX<|tv<|cb c8 T.ay av<|ap 1<|ac (ug T.bC aX) an)<|tw1<|bi k9 (cb br T.aY aK<|ap 1 an) di) (s1 y7) s0)<|sc (ck (i:=2) fH.nd<|bn (dv 1) di)<|sc (si (twd<|twor (cX<|tv<|cb c8 T.ay av<|ap 2<|ac (ug T.bC aX) an)<|tw1<|bi qk (cb br T.aY aK<|ap 2 an)<|dg (v:=.int 8) T.jl {_,rfl} λ_=>aN _) (s1 y7) s0)<|sc (si (cX<|tv<|cb kF T.kH gz<|ac (wK (N:=["part","columns"]) (src:=[none,some 0]) (jW kG) (EF<|dv 2) pC<|aQ T.wX (DP T) hr<|ap 1<|ap 0 an) an) (s1 y7) s0)<|sc (qm (N:=["part"]) (src:=[none]) 3 fH.nd (jW kG) (EF<|dv 2) pC<|bn (dv 0) di)<|sc (si (bi k9 (lse (dv 3) T.aY T.OM)<|cb br T.aY aK<|ap 3 an) (s1 y7) s0)<|s1<|si (cX<|tv<|aQ T.wW (vG T) hr<|ac (bn (dv 1) di) an) (s1 y7) s0),?_};refine !{_,_,_,_,rfl,bh,rfl,_,rfl,aW !!!⟨aW ?_⟩};refine !!!{_,_,_,_,rfl,bh,rfl,_,rfl,aW !!!⟨b8 ?_<|zx<|by rw[hml];lia⟩};refine !{_,.inl rfl,?_};refine comp_map (λ_=>.bl true) trivial (by show(ps.map p3).length<=_;lia) (λd hd Q hQ=>?_) λp j5=>?_;obtain⟨p,Nl,rfl⟩:=zh.mp hd;refine !!{cs,p,rfl,hg,hp p Nl,?_};rw[ha p Nl];exact hQ;rw[show({ps.map p3,λ_=>True}:lW).xs.map (λ_=>D.bl true)=(ps.map λ_=>true).map D.bl by show(ps.map p3).map _=_;rw[zq,zq];rfl];refine{.ref p,ps.map λ_=>true,rfl,aa,_,rfl,?_};rw[show(ps.map λ_=>true).all id=true by rw[all_map];exact zR.mpr λ_ _=>rfl];refine aW !{_,.inl rfl,?_};refine comp_map (λd=>match d with|.tup (x::_)=>x|_=>.au) trivial (by show(ps.map p3).length<=_;lia) (λd hd Q hQ=>?_) λp2 eT=>?_;obtain⟨p,Nl,rfl⟩:=zh.mp hd;exact !!⟨hQ⟩;rw[show({ps.map p3,λ_=>True}:lW).xs.map (λd=>match d with|.tup (x::_)=>x|_=>.au)=(ps.map Prod.fst).map D.str by show(ps.map p3).map _=_;rw[zq,zq];rfl];refine !{ps.map Prod.fst,aa,by rw[zb];lia,_,rfl,_,rfl,.inl {_,aa,_,rfl,b8 ?_ ?_}};refine !!{wy,rfl,_,rfl,?_};rw[hw];exact aW {S,(Sub.new j5).trans<|.new eT,q};rw[if_pos rfl,zu<|by rw[(u3 _).mpr hn,zb,zb,zb],Bool.not_true]
def xH(o:Str)(c:Str×Str)(v:D):Prop:=o ="is"\/(v≠.au/\(o ="below"\/o ="above"\/(o ="begins"/\c.2 ="word")))
def Lf(cs:ww)(d:D):Prop:=d=.tup [.str "every"]\/(∃ks:j4,d=.tup [.str "key",.tup<|ks.map .str]/\ks.length<=8/\∀k∈ks,k∈KS)\/∃(o:Str) (c:Str×Str) (v:D),c∈cs/\Vg c.2 v/\xH o c v/\d=.tup [.str o,.str c.1,v]
def Sg(cs:ww):Nat->D->Prop|0,_=>False|n+1,d=>Lf cs d\/(∃e,d=.tup [.str "not",e]/\Sg cs n e)\/∃(o:Str) (ds:v0),(o ="and"\/o ="or")/\d=.tup [.str o,.tup ds]/\ds.length<=8/\∀e∈ds,Sg cs n e
theorem JV(h:Vg k v):Gt S v:=by have h:=h.2;cases v with|au=>(exact{{_,rfl},λz e=>by cases e})|int i=>(exact{{_,rfl},λz e=>by cases e})|str z=>unfold a_ at h;simp only[zA,zS]at h;exact gt_str (by lia)|_=>cases h
noncomputable def m6:D->List D|.tup [.str o,.tup ds]=>(if o ="not" then[.tup ds] else if o ="and"\/o ="or" then ds else[])|.tup [.str o,e]=>(if o ="not" then[e] else[])|_=>[]
noncomputable def oR:Nat->D->Nat|0,_=>0|n+1,d=>((m6 d).map<|oR n).sum+1
theorem xI(e:D):m6 (.tup [.str "not",e])=[e]:=by cases e<;>rfl
theorem xJ{o:Str}(h:o ="and"\/o ="or")(ds:v0):m6 (.tup [.str o,.tup ds])=ds:=by rcases h with rfl|rfl<;>rfl
def Sq(cs:ww)(d:D):Prop:=Sg cs 7 d/\oR 7 d<=200
inductive gZ(ds:v0)(S:ak)(R:KD)(Z:KX):Prop where
 |mk (es)(h0:ds=[.tup es])(h1:es.length<=8)(h2:R (.bl true) S)
theorem pS:Ok P w base T.dH 1 gZ:=by obtain⟨es,e,hl,q⟩:T.dH.F.bF mK;refine{_,(s1<|sr<|uh (cb c8 T.ay av<|ap 0<|ac (ug T.bC aX) an)<|K7<|be jb (cb br T.aY aK<|ap 0 an)<|dg (v:=.int 8) T.lq {_,rfl} λ_=>aN _),?_};refine !{_,_,_,_,rfl,bh,rfl,_,rfl,eU !!⟨?_⟩};have e1:decide (((es.length:Nat):Int)<=8)=true:=zu (by lia);show Fo S (R<|.bl<|decide<|((es.length:Nat):Int)<=8);rw[e1];exact fo q
inductive gG(ds:v0)(S:ak)(R:KD)(Z:KX):Prop where
 |mk (cs o c v)(h0:ds=[.tup<|cs.map az,.tup [.str o,.str c.1,v]])(h1:Gd cs)(h2:c∈cs)(h3:Vg c.2 v)(h4:xH o c v)(h5:R (.bl true) S)
theorem sV:Ok P w base T.js 4 gG:=by
 obtain⟨cs,o,c,v,e,hg,hc,hv,ho,q⟩:T.js.F.bF jv;have hn:∀k,(c.1,k)∈cs->k=c.2:=λk hk=>by have:=iy hg.2.1 hk hc rfl;rw[<-this]
 refine{_,(sc (ck (i:=2) jv.nd<|aQ T.fB (kL T) hr<|ap 0<|ac (bn (dv 1) di) an)<|sc (si (twd<|twor (bi ib (dv 2) dn)<|tw1<|cX<|tv<|aQ T.mI (pM T) hr<|ap 2<|ac (bn (dv 1) di) an) (s1<|sr db) s0)<|sc (si (bi aL (bn (dv 1) di) ds) (s1<|sr db) s0)<|sc (si (twd<|twand (bi aL (bn (dv 1) di) ds)<|tw1<|bi k9 (dv 2) ds) (s1<|sr db) s0)<|s1<|sr<|be jc (bn (dv 1) di) dn),?_};refine !!!{cs,c.1,rfl,hg,oM (hg.2.2 c hc).1,λk hk=>?_,λhk=>absurd (zh.mpr ⟨c,hc,rfl⟩) hk};cases hn k hk;refine !!⟨aW !!!{c.2,v,rfl,JV hv,_,rfl,?_}⟩;rw[hv.1];refine aW !!!⟨?_⟩;rcases ho with rfl|⟨hvn,ho⟩;exact iG<|fo q;have OA:ah v=false:=by cases v<;>first|rfl|exact absurd rfl hvn
 have e9:(!ah v)=true:=by rw[OA];rfl
 have fin:Fo S (R<|.bl<|!ah v):=by rw[e9];exact fo q
 rcases ho with rfl|rfl|⟨rfl,hw⟩;refine b8 !!!⟨b8 !!⟨fin⟩⟩;refine b8 !!!⟨b8 !!⟨fin⟩⟩;refine b8 !!!⟨iG !!⟨?_⟩⟩;rw[hw];exact b8 !!⟨fin⟩
theorem Nm(h:z∈KS):z.cps.size<=1000:=zI (fL z h).2.1<|by decide
inductive pT(ds:v0)(S:ak)(R:KD)(Z:KX):Prop where
 |mk (cs n d)(h0:ds=[.tup<|cs.map az,d])(h1:Gd cs)(h2:Sg cs n d)(h3:R (.bl true) S)
theorem xK:Ok P w base T.ot 5 pT:=by
 obtain⟨cs,n,d,e,hg,hs,q⟩:T.ot.F.bF xk;refine{_,(sc (si (twd<|twor (cX<|tv<|cb c8 T.ay av<|ap 1<|ac (ug T.bC aX) an)<|twor (bi aL (cb br T.aY aK<|ap 1 an) di)<|tw1<|cX<|tv<|cb c8 T.ay av<|ac (bn (dv 1) di)<|ac (ug T.so k7) an) (s1<|sr db) s0)<|sc (si (bi k9 (mgk T.GO (by decide) (gK T.Dh)<|bn (dv 1) di)<|cb br T.aY aK<|ap 1 an) (s1<|sr db) s0)<|sc (si (bi rN (bn (dv 1) di)<|bc<|ac ds<|ac ds<|ac ds<|ac ds an) (s1<|sr<|aQ T.js (sV T) hr<|ap 0<|ap 1 an) s0)<|sc (si (bi aL (bn (dv 1) di) ds) (s1<|sr<|uh (aQ T.dH (pS T) hr<|ac (bn (dv 1) di) an)<|K7<|cb kF T.kH gz<|ac (wK (N:=["key"]) (src:=[none]) (jW AX) (EF<|bn (dv 1) di) pC<|aQ T.oo (j0 T) hr<|ap 0 an) an) s0)<|sc (si (bi rN (bn (dv 1) di)<|bc<|ac ds<|ac ds an) (s1<|sr<|aQ T.dH (pS T) hr<|ac (bn (dv 1) di) an) s0)<|s1<|sr db),?_};cases n with|zero=>exact hs.elim|succ n =>
 rcases hs with (rfl|⟨ks,rfl,hk8,B5⟩|⟨o,c,v,hc,hv,ho,rfl⟩)|⟨e,rfl,he⟩|⟨o,es,ho,rfl,K_,_⟩;refine !{_,_,_,_,rfl,bh,rfl,_,rfl,aW !!!⟨jF rfl !!{_,_,_,_,rfl,df,rfl,_,rfl,aW ?_}⟩};refine !!!!!!⟨jF rfl ?_⟩;exact !!{uB,rfl,rfl,_,rfl,b8 !!!⟨b8 !!{bR,rfl,rfl,_,rfl,b8<|fo q}⟩};refine !{_,_,_,_,rfl,bh,rfl,_,rfl,aW !!!⟨jF rfl !!{_,_,_,_,rfl,df,rfl,_,rfl,aW ?_}⟩};refine !!!!!!⟨jF rfl ?_⟩;refine !!{uB,rfl,rfl,_,rfl,b8 !!!⟨iG ?_⟩};refine !!!{by rw[zb];exact hk8,_,rfl,eU !!{_,.inl rfl,?_}};refine comp_map (λ_=>.bl true) trivial (by show(ks.map D.str).length<=1000;rw[zb];lia) (λd hd Q hQ=>?_) λp hp=>?_;obtain⟨k,hk,rfl⟩:=zh.mp hd;refine !{.str k,rfl,gt_str<|Nm<|B5 k hk,?_};show Q (.bl<|lJ k) S;rw[(fL k<|B5 k hk).1];exact hQ;have e2:(ks.map D.str).map (λ_=>D.bl true)=(ks.map λ_=>true).map D.bl:=by rw[zq,zq];rfl
 have e3:(ks.map λ_=>true).all id=true:=by rw[all_map];exact zR.mpr λ_ _=>rfl
 refine{.ref p,ks.map λ_=>true,rfl,?_,S,.new hp,?_};show(S.set p<|.lst<|(ks.map D.str).map _) p=_;rw[aa,e2];rw[e3];exact q;have h4:o ="is"\/o ="below"\/o ="above"\/o ="begins":=by rcases ho with h|⟨_,h|h|⟨h,_⟩⟩;exact .inl h;exact .inr<|.inl h;exact .inr<|.inr<|.inl h;exact .inr<|.inr<|.inr h
 refine !{_,_,_,_,rfl,bh,rfl,_,rfl,aW !!!⟨jF rfl !!{_,_,_,_,rfl,df,rfl,_,rfl,aW ?_}⟩};have fin:∀Zq:KX,gG [D.tup<|cs.map az,.tup [.str o,.str c.1,v]] S (λd S'=>Fo S'<|R d) Zq:=λ_=>{cs,o,c,v,rfl,hg,hc,hv,ho,fo q};rcases h4 with rfl|rfl|rfl|rfl;exact !!!!!!⟨jF rfl !!{uB,rfl,rfl,_,rfl,iG !!⟨(fin _)⟩}⟩;exact !!!!!!⟨jF rfl !!{uB,rfl,rfl,_,rfl,iG !!⟨(fin _)⟩}⟩;exact !!!!!!⟨jF rfl !!{uB,rfl,rfl,_,rfl,iG !!⟨(fin _)⟩}⟩;exact !!!!!!⟨jF rfl !!{uB,rfl,rfl,_,rfl,iG !!⟨(fin _)⟩}⟩;refine !{_,_,_,_,rfl,bh,rfl,_,rfl,aW !!!⟨jF rfl !!{_,_,_,_,rfl,df,rfl,_,rfl,aW ?_}⟩};refine !!!!!!⟨jF rfl ?_⟩;exact !!{uB,rfl,rfl,_,rfl,b8 !!!⟨b8 !!{bR,rfl,rfl,_,rfl,b8<|fo q}⟩};have h8:es.length<=8:=by lia
 rcases ho with rfl|rfl;refine !{_,_,_,_,rfl,bh,rfl,_,rfl,aW !!!⟨jF rfl !!{_,_,_,_,rfl,df,rfl,_,rfl,aW ?_}⟩};refine !!!!!!⟨jF rfl ?_⟩;exact !!{uB,rfl,rfl,_,rfl,b8 !!!⟨b8 !!{bR,rfl,rfl,_,rfl,iG !!!{h8,fo q}}⟩};refine !{_,_,_,_,rfl,bh,rfl,_,rfl,aW !!!⟨jF rfl !!{_,_,_,_,rfl,df,rfl,_,rfl,aW ?_}⟩};refine !!!!!!⟨jF rfl ?_⟩;exact !!{uB,rfl,rfl,_,rfl,b8 !!!⟨b8 !!{bR,rfl,rfl,_,rfl,iG !!!{h8,fo q}}⟩}
inductive iL(ds:v0)(S:ak)(R:KD)(Z:KX):Prop where
 |mk (l es cs m)(h0:ds=[.ref l])(h1:S l=some (.lst es))(h2:(es.flatMap m6).length<=900)(h3:(∀e∈es,Sg cs (m+1) e))(h4:∀p,S p=none->R (.ref p) (S.set p<|.lst<|es.flatMap m6))
theorem oS:Ok P w base T.gC 1 iL:=by
 obtain⟨l,es,cs,m,e,hl,h8,K_,q⟩:T.gC.F.bF dX;refine{_,(sc (ck (i:=1) dX.nd<|cK an)<|sc (ql<|Hy (il<|dv 0) (gn (i:=2) dX.nd)<|sc (ql<|si (bi aL (bn (dv 2) di) ds) (s1<|se<|bm zM z0 ya cL (dv 1)<|ac (bn (dv 2) di) an) s0)<|s1<|si (bi rN (bn (dv 2) di)<|bc<|ac ds<|ac ds an) (s1<|se<|bm zM PySem.F.slot_list_extend PySem.F.type_list_extend GA (dv 1)<|ac (bn (dv 2) di) an) s0)<|s1<|sr<|dv 1),?_};refine{uA,λf hf=>?_};have G5:l≠f:=fk hl hf;refine{λaA S'=>∃o,aA=[some<|.ref l,some<|.ref f,o]/\S'=S.set f (.lst<|es.flatMap m6),?_,?_};refine !{es,(ae G5).trans hl,?_};refine{λi aA S'=>∃o,aA=[some<|.ref l,some<|.ref f,o]/\S'=S.set f (.lst<|(es.take i).flatMap m6),⟨none,rfl,rfl⟩,?_,?_,?_};rintro i aA S' ⟨o,rfl,rfl⟩;exact(ae G5).trans hl;rintro i e aA S' he ⟨o,rfl,rfl⟩;have he:es[i]?=some e:=he;have hem:=K_ e<|zG he;have et:(es.take<|i+1).flatMap m6=(es.take i).flatMap m6++m6 e:=by rw[List.take_add_one,he,List.flatMap_append];simp
 have Nn:((es.take i).flatMap m6).length+(m6 e).length<=900:=by rw[<-zE,<-et];refine zI ?_ h8;(conv=>rhs;rw[<-List.take_append_drop (i+1) es,List.flatMap_append,zE]);exact Nat.le_add_right _ _
 generalize (es.take i).flatMap m6=fs at et Nn⊢;have T5:(S.set f<|.lst fs) f=some (.lst fs):=aa;have keep:m6 e=[]->∃o,[some<|D.ref l,some<|D.ref f,some e]=[some<|.ref l,some<|.ref f,o]/\S.set f (.lst fs)=S.set f (.lst<|(es.take<|i+1).flatMap m6):=λh=>!⟨by rw[et,h,List.append_nil]⟩;have more:∀ds,m6 e=ds->∃o,[some<|D.ref l,some<|D.ref f,some e]=[some<|.ref l,some<|.ref f,o]/\(S.set f<|.lst fs).set f (.lst<|fs++ds)=S.set f (.lst<|(es.take<|i+1).flatMap m6):=λds h=>!⟨by rw[et,h,aJ]⟩;rcases hem with (rfl|⟨ks,rfl,_,_⟩|⟨o,c,v,_,_,ho,rfl⟩)|⟨e',rfl,YH⟩|⟨o,ds,ho,rfl,hds,hd⟩;refine{λqE S2=>qE=_/\S2=S.set f (.lst fs),!!!⟨b8<|fo ⟨rfl,rfl⟩⟩,?_};rintro _ _ ⟨rfl,rfl⟩;exact !!{bR,rfl,rfl,_,rfl,b8<|keep rfl};refine{λqE S2=>qE=_/\S2=S.set f (.lst fs),!!!⟨b8<|fo ⟨rfl,rfl⟩⟩,?_};rintro _ _ ⟨rfl,rfl⟩;exact !!{bR,rfl,rfl,_,rfl,b8<|keep rfl};rcases ho with rfl|⟨_,rfl|rfl|⟨rfl,_⟩⟩;refine{λqE S2=>qE=_/\S2=S.set f (.lst fs),!!!⟨b8<|fo ⟨rfl,rfl⟩⟩,?_};rintro _ _ ⟨rfl,rfl⟩;exact !!{bR,rfl,rfl,_,rfl,b8<|keep rfl};refine{λqE S2=>qE=_/\S2=S.set f (.lst fs),!!!⟨b8<|fo ⟨rfl,rfl⟩⟩,?_};rintro _ _ ⟨rfl,rfl⟩;exact !!{bR,rfl,rfl,_,rfl,b8<|keep rfl};refine{λqE S2=>qE=_/\S2=S.set f (.lst fs),!!!⟨b8<|fo ⟨rfl,rfl⟩⟩,?_};rintro _ _ ⟨rfl,rfl⟩;exact !!{bR,rfl,rfl,_,rfl,b8<|keep rfl};refine{λqE S2=>qE=_/\S2=S.set f (.lst fs),!!!⟨b8<|fo ⟨rfl,rfl⟩⟩,?_};rintro _ _ ⟨rfl,rfl⟩;exact !!{bR,rfl,rfl,_,rfl,b8<|keep rfl};refine{λqE S2=>qE=_/\S2=(S.set f<|.lst fs).set f (.lst<|fs++[e']),!!!⟨iG !⟨{rfl,_,T5},_,rfl,_,rfl,f,_,_,rfl,rfl,T5,bg<|by rw[xI]at Nn;simp at Nn;omega,fo ⟨rfl,rfl⟩⟩⟩,?_};rintro _ _ ⟨rfl,rfl⟩;exact !!{bR,rfl,rfl,_,rfl,b8<|more _<|xI e'};have eds:=xJ ho ds;rw[eds]at Nn;rcases ho with rfl|rfl;refine{λqE S2=>qE=_/\S2=S.set f (.lst fs),!!!⟨b8<|fo ⟨rfl,rfl⟩⟩,?_};rintro _ _ ⟨rfl,rfl⟩;exact !!{bR,rfl,rfl,_,rfl,iG !⟨{rfl,_,T5},_,rfl,_,rfl,f,_,_,rfl,rfl,T5,sm<|by omega,more _ eds⟩};refine{λqE S2=>qE=_/\S2=S.set f (.lst fs),!!!⟨b8<|fo ⟨rfl,rfl⟩⟩,?_};rintro _ _ ⟨rfl,rfl⟩;exact !!{bR,rfl,rfl,_,rfl,iG !⟨{rfl,_,T5},_,rfl,_,rfl,f,_,_,rfl,rfl,T5,sm<|by omega,more _ eds⟩};rintro aA S' ⟨o,rfl,rfl⟩;refine fo {o,rfl,?_};rw[show({es,λS=>S l=some (.lst es)}:lW).xs=es from rfl,yK];rintro aA S' ⟨o,rfl,rfl⟩;exact{_,rfl,fo<|q f hf}
theorem JW{cs:ww}{n:Nat}{d:D}(h:Sg cs (n+1) d):∀f∈m6 d,Sg cs n f:=by
 rcases h with (rfl|⟨ks,rfl,_,_⟩|⟨o,c,v,_,_,ho,rfl⟩)|⟨e',rfl,YH⟩|⟨o,ds,ho,rfl,hds,hd⟩;exact nofun;exact nofun;exact nofun;rw[xI];exact λf hf=>by rw[zK.mp hf];exact YH
 rw[xJ ho];exact hd
theorem JX(n:Nat):∀es:v0,(es.map<|oR<|n+1).sum=es.length+((es.flatMap m6).map<|oR n).sum|[]=>rfl|e::es=>by have:=JX n es;rw[zt,List.sum_cons,zQ,List.flatMap_cons,zN,List.sum_append,this,show oR (n+1) e=((m6 e).map<|oR n).sum+1 from rfl];lia
theorem R7{cs:ww}{n:Nat}{es:v0}(h:∀e∈es,Sg cs (n+1) e):(es.flatMap m6).length<=((es.flatMap m6).map<|oR n).sum:=by
 have h:∀f∈es.flatMap m6,Sg cs n f:=λf hf=>by obtain⟨e,he,hf⟩:=List.mem_flatMap.mp hf;exact JW (h e he) f hf
 generalize es.flatMap m6=fs at h⊢;induction fs with|nil=>exact zr _|cons f fs ih=>have h1:=h f zj;have ih:=ih λx hx=>h x<|zf _ hx;have:1<=oR n f:=(by cases n with|zero=>exact h1.elim|succ n=>exact Nat.le_add_left _ _);rw[zt,List.sum_cons,zQ];lia
inductive kN(ds:v0)(S:ak)(R:KD)(Z:KX):Prop where
 |mk (cs d)(h0:ds=[.tup<|cs.map az,d])(h1:Gd cs)(h2:Sq cs d)(h3:R .au S)
theorem jJ:Ok P w base T.gb 6 kN:=by
 obtain⟨cs,d,e,hg,hd,q⟩:T.gb.F.bF bJ;refine{_,(sc (ck (i:=2) bJ.nd<|cK<|ap 1 an)<|sc (ck (i:=3) bJ.nd di)<|sc (ck (i:=4) bJ.nd di)<|s1<|swh (bi qk (cb br T.aY aK<|ap 2 an) di)<|sc (sau (i:=3) bJ.nd di)<|sc (sau (i:=4) bJ.nd<|cb br T.aY aK<|ap 2 an)<|sc (si (twd<|twor (bi qk (dv 3)<|dg (v:=.int 8) T.wN {_,rfl} λ_=>aN _)<|tw1<|bi qk (dv 4)<|dg (v:=.int 200) T.jm {_,rfl} λ_=>aN _) (s1 y7) s0)<|sc (si (cX<|tv<|cb kF T.kH gz<|ac (wK (N:=["thing","columns"]) (src:=[none,some 0]) (jW um) (il<|dv 2) pC<|aQ T.ot (xK T) hr<|ap 1<|ap 0 an) an) (s1 y7) s0)<|s1<|ck (i:=2) bJ.nd<|aQ T.gC (oS T) hr<|ap 2 an),?_};refine !{M8,λl0 HC=>?_};refine{λm aA S'=>∃(l:Addr)(es:v0)(dp p:Nat),aA=[some<|.tup<|cs.map az,some d,some<|.ref l,some<|.int dp,some<|.int p]/\S' l=some (.lst es)/\Sub S S'/\(∀e∈es,Sg cs m e)/\dp+m=7/\p+(es.map<|oR m).sum<=200,{7,l0,[d],0,0,rfl,aa,.new HC,λe he=>by rw[zK.mp he];exact hd.1,rfl,by have:=hd.2;simp only[zt,yQ,List.sum_cons,List.sum_nil];lia},?_};rintro m aA S' ⟨l,es,dp,p,rfl,hl,sb,K_,hdp,hp⟩;refine !!⟨.inl {_,hl,_,rfl,?_}⟩;refine b9 (λh1=>?_) λh1=>?_;have IF:0<es.length:=by have h1:(0:Int)<((es.length:Nat):Int):=zC h1;lia
 obtain⟨e0,he0⟩:=List.exists_mem_of_length_pos IF;obtain⟨n,rfl⟩:∃n,m=n+1:=by cases m with|zero=>exact(K_ e0 he0).elim|succ n=>exact⟨n,rfl⟩
 have aft:=JX n es;have Vl:=R7 (cs:=cs) (n:=n) (es:=es) K_;refine !!!!!⟨.inl {_,hl,_,rfl,?_}⟩;refine !!⟨jF (zx<|by lia) !!⟨jF (zx<|by lia) ?_⟩⟩;refine !{es,hl,?_};refine comp_map (λ_=>.bl true) hl (by show es.length<=1000;lia) (λe he Q hQ=>?_) λp1 iY=>?_;exact !!{cs,_,e,rfl,hg,K_ e he,hQ};have e2:es.map (λ_=>D.bl true)=(es.map λ_=>true).map D.bl:=by rw[zq];rfl
 have e3:(es.map λ_=>true).all id=true:=by rw[all_map];exact zR.mpr λ_ _=>rfl
 refine{.ref p1,es.map λ_=>true,rfl,?_,_,rfl,?_};show(S'.set p1<|.lst<|es.map _) p1=_;rw[aa,e2];rw[e3];refine aW ?_;have s1:=sb.trans<|.new (c:=.lst<|es.map λ_=>D.bl true) iY;have uE:(S'.set p1<|.lst<|es.map λ_=>D.bl true) l=some (.lst es):=(ae<|fk hl iY).trans hl;refine !{l,es,cs,n,rfl,uE,by lia,K_,λp2 h3=>?_};refine{n,Nat.lt_succ_self n,p2,es.flatMap m6,dp+1,p+es.length,?_,aa,s1.trans<|.new h3,λf hf=>?_,by lia,by lia};show[_,_,_,some<|D.int<|((dp:Nat):Int)+1,some<|D.int<|((p:Nat):Int)+((es.length:Nat):Int)]=_;rw[show(((dp:Nat):Int)+1)=((dp+1:Nat):Int) by lia,show(((p:Nat):Int)+((es.length:Nat):Int))=((p+es.length:Nat):Int) by lia];obtain⟨e,he,hf⟩:=List.mem_flatMap.mp hf;exact JW (K_ e he) f hf;exact⟨S,sb,q⟩
noncomputable def JY(cs:ww)(z:Str):Nat:=(cs.map Prod.fst).idxOf z
noncomputable def ai(cs:ww)(ws:v0)(z:Str):D:=(ws[JY cs z]?).getD .au
noncomputable def ag(r:Str×List D):D:=.tup [.str r.1,.tup r.2]
theorem DQ{α β:Type}{rel:α->β->Prop}{l:List α}{m:List β}(h:Paired rel l m):∀{i:Nat}{a:α},l[i]?=some a->∃b,m[i]?=some b/\rel a b:=by induction h with|nil=>intro i a h;simp at h|cons r t ih=>intro i a h;cases i with|zero=>(rw[List.getElem?_cons_zero]at h⊢;cases h;exact{_,rfl,r})|succ i=>rw[List.getElem?_cons_succ]at h⊢;exact ih h
theorem xM(hg:Gd cs)(h:c∈cs):cs[JY cs c.1]?=some c/\(cs.map Prod.fst)[JY cs c.1]?=some c.1:=by
 have hm:c.1∈cs.map Prod.fst:=zh.mpr ⟨c,h,rfl⟩;have hi:(cs.map Prod.fst).idxOf c.1<(cs.map Prod.fst).length:=List.idxOf_lt_length_of_mem hm;have e1:(cs.map Prod.fst)[(cs.map Prod.fst).idxOf c.1]?=some c.1:=by rw[zg hi,List.getElem_idxOf]
 refine{?_,e1};obtain⟨j,ej⟩:=yE h;have ej1:(cs.map Prod.fst)[j]?=some c.1:=by rw[zm,ej];rfl
 obtain⟨b1,c1⟩:=ze.mp e1;obtain⟨b2,c2⟩:=ze.mp ej1;have:=(List.getElem_inj hg.2.1 (h₀:=b1) (h₁:=b2)).mp<|c1.trans c2.symm;unfold JY;rw[this];exact ej
theorem j6{cs:ww}(hg:Gd cs){ws:v0}(hw:Wg cs ws){c:Str×Str}(h:c∈cs):ws[JY cs c.1]?=some (ai cs ws c.1)/\Vg c.2 (ai cs ws c.1):=by obtain⟨v,e,r⟩:=DQ hw (xM hg h).1;unfold ai;rw[e];exact⟨rfl,r⟩
noncomputable def lL:D->D->Bool|.au,.au=>true|.int i,.int j=>decide (i=j)|.str i,.str j=>decide (i=j)|_,_=>false
theorem aR(ha:a_ a=true)(hb:a_ b=true):lL a b=true↔a=b:=by rcases fc ha with rfl|⟨i,rfl⟩|⟨i,rfl⟩<;>rcases fc hb with rfl|⟨j,rfl⟩|⟨j,rfl⟩<;>simp[lL]
theorem m7(ha:a_ a=true)(hb:a_ b=true)(q:R (.bl<|if neg then !lL a b else lL a b) S):EB neg a b S R:=by
 obtain⟨p,p1,p2,p3⟩:=Ly.plain (S:=S) ha;obtain⟨r,r1,r2,r3⟩:=Ly.plain (S:=S) hb;have fin:PyData.eqv p r=lL a b->R (.bl<|if neg then !PyData.eqv p r else PyData.eqv p r) S:=λe=>by rw[e];exact q
 have d:p.depth<=64:=by lia
 rcases fc ha with rfl|⟨i,rfl⟩|⟨i,rfl⟩<;>rcases fc hb with rfl|⟨j,rfl⟩|⟨j,rfl⟩<;>first|exact q|exact{p,r,p1,r1,p2,r2,.inl d,fin<|by simp only[Dp]at p1 r1;subst p1 r1;rfl}
noncomputable def sW:D->D->Bool|.int i,.int j=>decide (i<j)|.str i,.str j=>nK i j|_,_=>false
noncomputable def stP:D->D->Bool|.str i,.str j=>PySem.Txt.startswith i j|_,_=>false
noncomputable def Bo(o:Str)(a b:D):Bool:=if o ="is" then lL a b else if ah a then false else if o ="below" then sW a b else if o ="above" then sW b a else stP a b
noncomputable def G8:D->List D|.tup ds=>ds|_=>[]
noncomputable def W4(cs:ww)(r:Str×List D)(f:D->Bool):D->Bool|.tup [.str _]=>true|.tup [.str o,e]=>(if o ="not" then !f e else if o ="key" then wa (kh<|.str r.1) ((G8 e).map kh) else if o ="and" then (G8 e).all f else (G8 e).any f)|.tup [.str o,.str z,v]=>Bo o (ai cs r.2 z) v|_=>false
noncomputable def aZ(cs:ww)(r:Str×List D):Nat->D->Bool|0,_=>false|n+1,d=>W4 cs r (aZ cs r n) d
theorem Fd(cs:ww)(r:Str×List D)(n:Nat)(o:Str)(e:D):aZ cs r (n+1) (.tup [.str o,e])=if o ="not" then !aZ cs r n e else if o ="key" then wa (kh<|.str r.1) ((G8 e).map kh) else if o ="and" then (G8 e).all (aZ cs r n) else (G8 e).any (aZ cs r n):=rfl
theorem OY(cs:ww)(r:Str×List D)(n:Nat)(o z:Str)(v:D):aZ cs r (n+1) (.tup [.str o,.str z,v])=Bo o (ai cs r.2 z) v:=rfl
theorem Bp(cs:ww)(r:Str×List D)(n:Nat)(ks:v0):aZ cs r (n+1) (.tup [.str "key",.tup ks])=wa (kh<|.str r.1) (ks.map kh):=by rw[Fd,if_neg<|by trivial,if_pos rfl];rfl
theorem Bq(cs:ww)(r:Str×List D)(n:Nat)(e:D):aZ cs r (n+1) (.tup [.str "not",e])=!aZ cs r n e:=by rw[Fd,if_pos rfl]
theorem Br(cs:ww)(r:Str×List D)(n:Nat)(es:v0):aZ cs r (n+1) (.tup [.str "and",.tup es])=es.all (aZ cs r n):=by rw[Fd,if_neg<|by trivial,if_neg<|by trivial,if_pos rfl];rfl
theorem Fe(cs:ww)(r:Str×List D)(n:Nat)(es:v0):aZ cs r (n+1) (.tup [.str "or",.tup es])=es.any (aZ cs r n):=by rw[Fd,if_neg<|by trivial,if_neg<|by trivial,if_neg<|by trivial];rfl
theorem lM{k:Str}(ha:Vg k a)(hb:Vg k b)(na:a≠.au)(nb:b≠.au):(∃i j,a=.int i/\b=.int j)\/∃i j,a=.str i/\b=.str j:=by
 obtain⟨a1,a2⟩:=ha;obtain⟨b1,b2⟩:=hb;have no:∀{i:Int}{z:Str},iu k (.int i)=true->iu k (.str z)=true->False:=λh1 h2=>by unfold iu at h1 h2;simp only[ah,Bool.false_or]at h1 h2;by_cases e:k ="number";rw[if_pos e]at h2;cases h2;rw[if_neg e]at h1;cases h1
 rcases fc a2 with rfl|⟨i,rfl⟩|⟨i,rfl⟩<;>rcases fc b2 with rfl|⟨j,rfl⟩|⟨j,rfl⟩<;>first|exact absurd rfl na|exact absurd rfl nb|exact .inl ⟨i,j,rfl,rfl⟩|exact .inr ⟨i,j,rfl,rfl⟩|exact(no a1 b1).elim|exact(no b1 a1).elim
theorem qP(h:Vg "word" a)(n:a≠.au):∃z,a=.str z:=by obtain⟨h1,h2⟩:=h;rcases fc h2 with rfl|⟨i,rfl⟩|⟨z,rfl⟩;exact absurd rfl n;unfold iu at h1;rw[if_neg<|by trivial]at h1;cases h1;exact⟨z,rfl⟩
theorem aS(h:ah a=false):a≠.au:=by rintro rfl;cases h
inductive lN(ds:v0)(S:ak)(R:KD)(Z:KX):Prop where
 |mk (cs r c)(h0:ds=[.tup<|cs.map az,ag r,.str c.1])(h1:Gd cs)(h2:Wg cs r.2)(h3:c∈cs)(h4:R (ai cs r.2 c.1) S)
theorem dE:Ok P w base T.cF 2 lN:=by
 obtain⟨cs,r,c,e,hg,hw,hc,q⟩:T.cF.F.bF A7;obtain⟨n1,n2⟩:=xM hg hc;refine{_,(s1<|sr<|bn (bn (dv 1) di)<|bm zM PySem.F.slot_list_index PySem.F.type_list_index rO (aQ T.mJ (pO T) hr<|ap 0 an)<|ap 2 an),?_};refine !!!{cs,rfl,hg.1,λp hp=>?_};refine{{rfl,_,aa},_,rfl,(cs.map Prod.fst).map D.str,.str c.1,JY cs c.1,rfl,aa,rfl,?_,{.str c.1,by rw[zm,n2];rfl,by show(c.1==c.1)=true;simp},?_,?_};rw[List.all_map];exact zR.mpr λ_ _=>rfl;intro m u hm hu;rw[zm]at hu;cases e:(cs.map Prod.fst)[m]? with|none=>(rw[e]at hu;cases hu)|some z'=>rw[e]at hu;cases hu;show(z'==c.1)=false;have:z'≠c.1:=λq=>(by subst q;obtain⟨b1,c1⟩:=ze.mp e;obtain⟨b2,c2⟩:=ze.mp n2;have:=(List.getElem_inj hg.2.1 (h₀:=b1) (h₁:=b2)).mp<|c1.trans c2.symm;lia);simpa using this
 exact{_,bZ (j6 hg hw hc).1,S,.new hp,q}
inductive fN(ds:v0)(S:ak)(R:KD)(Z:KX):Prop where
 |mk (o a b c)(h0:ds=[.str o,a,b])(h1:Vg c.2 a)(h2:Vg c.2 b)(h3:xH o c b)(h4:R (.bl<|Bo o a b) S)
theorem qy:Ok P w base T.ij 1 fN:=by
 obtain⟨o,a,b,c,e,ha,hb,ho,q⟩:T.ij.F.bF qq;refine{_,(sc (si (bi aL (dv 0) ds) (s1<|sr<|be aL (dv 1)<|dv 2) s0)<|sc (si (bi ib (dv 1) dn) (s1<|sr db) s0)<|sc (si (bi aL (dv 0) ds) (s1<|sr<|be rL (dv 1)<|dv 2) s0)<|sc (si (bi aL (dv 0) ds) (s1<|sr<|be qk (dv 1)<|dv 2) s0)<|s1<|sr<|bm PySem.F.plainAttrs_str PySem.F.slot_str_startswith PySem.F.type_str_startswith IQ (dv 1)<|ap 2 an),?_};unfold Bo at q;rcases ho with rfl|⟨nb,ho⟩;rw[if_pos rfl]at q;exact !!⟨iG !!⟨m7 ha.2 hb.2<|fo q⟩⟩;have ne:∀{A B:Bool},o≠"is"->R (.bl<|if o ="is" then A else B) S->R (.bl B) S:=λh q=>by rw[if_neg h]at q;exact q
 rcases ho with rfl|rfl|⟨rfl,hk⟩;rw[if_neg<|by trivial]at q;refine !!⟨b8 !!⟨b9 (λh=>?_) λh=>?_⟩⟩;rw[if_pos h]at q;exact fo q;rw[if_neg<|by rw[show ah a=false from h];exact zd,if_pos rfl]at q;refine !!⟨iG !!⟨?_⟩⟩;rcases lM ha hb (aS h) nb with⟨i,j,rfl,rfl⟩|⟨i,j,rfl,rfl⟩<;>exact fo q;rw[if_neg<|by trivial]at q;refine !!⟨b8 !!⟨b9 (λh=>?_) λh=>?_⟩⟩;rw[if_pos h]at q;exact fo q;rw[if_neg<|by rw[show ah a=false from h];exact zd,if_neg<|by trivial,if_pos rfl]at q;refine !!⟨b8 !!⟨iG !!⟨?_⟩⟩⟩;rcases lM ha hb (aS h) nb with⟨i,j,rfl,rfl⟩|⟨i,j,rfl,rfl⟩<;>exact fo q;rw[if_neg<|by trivial]at q;refine !!⟨b8 !!⟨b9 (λh=>?_) λh=>?_⟩⟩;rw[if_pos h]at q;exact fo q;rw[if_neg<|by rw[show ah a=false from h];exact zd,if_neg<|by trivial,if_neg<|by trivial]at q;refine !!⟨b8 !!⟨b8 ?_⟩⟩;rw[hk]at ha hb;obtain⟨i,rfl⟩:=qP ha<|aS h;obtain⟨j,rfl⟩:=qP hb nb;exact !{rfl,_,rfl,i,j,rfl,rfl,fo q}
inductive DR(n:Nat)(ds:v0)(S:ak)(R:KD)(Z:KX):Prop where
 |mk (cs d r)(h0:ds=[.tup<|cs.map az,d,ag r])(h1:Gd cs)(h2:Sg cs n d)(h3:Wg cs r.2)(h4:R (.bl<|aZ cs r n d) S)
theorem j7(T:Txt w K mg t):∀n,Ok P w base T.passes (3+n) (DR n)
 |0=>by refine T.passes.F.ok (k:=2) vo (by rintro ds S R Z ⟨_,_,_,e,_⟩;rw[e];rfl) (by rintro fV A outer s H E ds S R Z hr ⟨cs,d,r,e,hg,hs,_⟩;exact hs.elim)
 |n+1=>by
  refine T.passes.F.ok (k:=3+n) vo (by rintro ds S R Z ⟨_,_,_,e,_⟩;rw[e];rfl) ?_;obtain⟨cs,d,r,e,hg,hs,hw,q⟩;refine{_,(sc (si (aV aL hr.u (ix hr.u (dv 1) di) ds) (s1<|sr db) s0)<|sc (si (aV aL hr.u (ix hr.u (dv 1) di) ds) (s1<|sr<|cm rN hr.u (ix hr.u (dv 2) di)<|ix hr.u (dv 1) di) s0)<|sc (si (aV aL hr.u (ix hr.u (dv 1) di) ds) (s1<|sr<|QY<|aQ T.passes (j7 T n) hr<|ap 0<|ac (ix hr.u (dv 1) di)<|ap 2 an) s0)<|sc (si (aV aL hr.u (ix hr.u (dv 1) di) ds) (s1<|sr<|cb kF T.kH gz<|ac (wK (N:=["inner","columns","row"]) (src:=[none,some 0,some 2]) (jW AY) (EF<|ix hr.u (dv 1) di) pC<|aQ T.passes (j7 T n) hr<|ap 1<|ap 0<|ap 2 an) an) s0)<|sc (si (aV aL hr.u (ix hr.u (dv 1) di) ds) (s1<|sr<|cb Of T.OL Iz<|ac (wK (N:=["inner","columns","row"]) (src:=[none,some 0,some 2]) (jW AY) (EF<|ix hr.u (dv 1) di) pC<|aQ T.passes (j7 T n) hr<|ap 1<|ap 0<|ap 2 an) an) s0)<|s1<|sr<|aQ T.ij (qy T) hr<|ac (ix hr.u (dv 1) di)<|ac (aQ T.cF (dE T) hr<|ap 0<|ap 2<|ac (ix hr.u (dv 1) di) an)<|ac (ix hr.u (dv 1) di) an),?_};rcases hs with (rfl|⟨ks,rfl,hk8,B5⟩|⟨o,c,v,hc,hv,ho,rfl⟩)|⟨e,rfl,he⟩|⟨o,es,ho,rfl,K_,QP⟩;exact !!!⟨iG<|fo q⟩;refine !!!⟨b8 !!!⟨iG ?_⟩⟩;refine !!!!{rfl,?_,?_};rw[List.all_map];exact zR.mpr λ_ _=>rfl;rw[Bp]at q;exact fo q;rw[OY]at q;have fin:∀Zq,fN [D.str o,ai cs r.2 c.1,v] S (λd S'=>Fo S'<|R d) Zq:=λ_=>{o,_,v,c,rfl,(j6 hg hw hc).2,hv,ho,fo q};have h4:o ="is"\/o ="below"\/o ="above"\/o ="begins":=by rcases ho with h|⟨_,h|h|⟨h,_⟩⟩;exact .inl h;exact .inr<|.inl h;exact .inr<|.inr<|.inl h;exact .inr<|.inr<|.inr h
  rcases h4 with rfl|rfl|rfl|rfl;exact !!!⟨b8 !!!⟨b8 !!!⟨b8 !!!⟨b8 !!!⟨b8 !!!!!!{cs,r,c,rfl,hg,hw,hc,_,rfl,_,rfl,fin _}⟩⟩⟩⟩⟩;exact !!!⟨b8 !!!⟨b8 !!!⟨b8 !!!⟨b8 !!!⟨b8 !!!!!!{cs,r,c,rfl,hg,hw,hc,_,rfl,_,rfl,fin _}⟩⟩⟩⟩⟩;exact !!!⟨b8 !!!⟨b8 !!!⟨b8 !!!⟨b8 !!!⟨b8 !!!!!!{cs,r,c,rfl,hg,hw,hc,_,rfl,_,rfl,fin _}⟩⟩⟩⟩⟩;exact !!!⟨b8 !!!⟨b8 !!!⟨b8 !!!⟨b8 !!!⟨b8 !!!!!!{cs,r,c,rfl,hg,hw,hc,_,rfl,_,rfl,fin _}⟩⟩⟩⟩⟩;rw[Bq]at q;exact !!!⟨b8 !!!⟨b8 !!!⟨iG !!!!{cs,e,r,rfl,hg,he,hw,_,rfl,fo q}⟩⟩⟩;have hz:es.length<=1000:=by lia
  rcases ho with rfl|rfl;rw[Br]at q;refine !!!⟨b8 !!!⟨b8 !!!⟨b8 !!!⟨iG !!{_,.inl rfl,?_}⟩⟩⟩⟩;refine comp_map (λd=>.bl<|aZ cs r n d) trivial hz (λd hd Q hQ=>!!!{cs,d,r,rfl,hg,QP d hd,hw,hQ}) λp hp=>?_;refine{.ref p,es.map<|aZ cs r n,rfl,?_,S,.new hp,?_};show(S.set p<|.lst<|es.map _) p=_;rw[aa,zq];rfl;rw[all_map];exact q;rw[Fe]at q;refine !!!⟨b8 !!!⟨b8 !!!⟨b8 !!!⟨b8 !!!⟨iG !!{_,.inl rfl,?_}⟩⟩⟩⟩⟩;refine comp_map (λd=>.bl<|aZ cs r n d) trivial hz (λd hd Q hQ=>!!!{cs,d,r,rfl,hg,QP d hd,hw,hQ}) λp hp=>?_;refine{.ref p,es.map<|aZ cs r n,rfl,?_,S,.new hp,?_};show(S.set p<|.lst<|es.map _) p=_;rw[aa,zq];rfl;rw[List.any_map];exact q
abbrev Row:=Str×List D
abbrev wS:=List Row
abbrev Part:=Str×Str×Str
abbrev wP:=List Part
theorem R8{a b:Str}(h:a.cps.toList=b.cps.toList):a=b:=by obtain⟨x⟩:=a;obtain⟨y⟩:=b;exact congrArg Str.mk<|Array.ext' h
theorem Ff(a:Str):nK a a=false:=zx<|List.lt_irrefl _
theorem j8{a b:Str}(h:a≠b):nK b a=!nK a b:=by unfold nK;rw[yo];simp only[decide_eq_true_iff,Bool.not_eq_true',yq];constructor;exact λh1 h2=>List.lt_irrefl _<|List.lt_trans h1 h2;intro h1;by_cases h2:b.cps.toList<a.cps.toList;exact h2;exact absurd (R8<|List.le_antisymm (List.not_lt.mp h2)<|List.not_lt.mp h1) h
theorem DU(h1:nK a b=true)(h2:nK b c=true):nK a c=true:=zu<|List.lt_trans (zC h1)<|zC h2
theorem Np(a:D):sW a a=false:=by cases a<;>first|rfl|exact Ff _|exact zx (Int.lt_irrefl _)
theorem m8(ha:Vg k a)(hb:Vg k b)(na:a≠.au)(nb:b≠.au)(h:a≠b):sW b a=!sW a b:=by rcases lM ha hb na nb with⟨i,j,rfl,rfl⟩|⟨i,j,rfl,rfl⟩;have i5:i≠j:=λe=>h<|congrArg D.int e;show decide (j<i)=!decide (i<j);rw[yo];simp only[decide_eq_true_iff,Bool.not_eq_true',yq];lia;exact j8 λe=>h<|congrArg D.str e
theorem R9(h:sW x y=true):(∃i j,x=.int i/\y=.int j/\i<j)\/∃i j,x=.str i/\y=.str j/\nK i j=true:=by unfold sW at h;split at h;exact .inl {_,_,rfl,rfl,zC h};exact .inr {_,_,rfl,rfl,h};cases h
theorem JZ(h1:sW a b=true)(h2:sW b c=true):sW a c=true:=by rcases R9 h1 with⟨i,j,rfl,rfl,k1⟩|⟨i,j,rfl,rfl,k1⟩<;>rcases R9 h2 with⟨j',l,e,rfl,k2⟩|⟨j',l,e,rfl,k2⟩<;>cases e;exact zu<|Int.lt_trans k1 k2;exact DU k1 k2
theorem J1(h:Ws a b):sW a b=true:=by cases a with|int i=>(cases b with|int j=>exact zu h|_=>exact h.elim)|str i=>(cases b with|str j=>exact zu h|_=>exact h.elim)|_=>exact h.elim
noncomputable def cH(p:Part)(x y:D):Bool:=if (ah x != ah y)=true then ah x==decide (p.2.2 ="first") else sW x y==decide (p.2.1 ="up")
noncomputable def bM(cs:ww)(wy:Str):List Part->Row->Row->Bool|[],a,b=>nK a.1 b.1==decide (wy ="up")|p::ps,a,b=>if lL (ai cs a.2 p.1) (ai cs b.2 p.1)=true then bM cs wy ps a b else cH p (ai cs a.2 p.1) (ai cs b.2 p.1)
theorem bxor:((!x)==u)=!(x==u):=by cases x<;>cases u<;>rfl
theorem cZ(h:ah x=true):x=.au:=by cases x<;>first|rfl|cases h
theorem oU(hx:Vg k x)(hy:Vg k y)(h:x≠y):cH p y x=!cH p x y:=by unfold cH;cases nx:ah x with|true=>(cases ny:ah y with|true=>exact absurd ((cZ nx).trans (cZ ny).symm) h|false=>rw[if_pos<|by rfl,if_pos<|by rfl];cases decide (p.2.2 ="first")<;>rfl)|false=>cases ny:ah y with|true=>(rw[if_pos<|by rfl,if_pos<|by rfl];cases decide (p.2.2 ="first")<;>rfl)|false=>rw[if_neg<|by simp,if_neg<|by simp,m8 hx hy (aS nx) (aS ny) h,bxor]
theorem Fh(hx:Vg k x)(hy:Vg k y)(hz:Vg k z)(R_:x≠y)(hyz:y≠z)(h1:cH p x y=true)(h2:cH p y z=true):x≠z/\cH p x z=true:=by
 have hxz:x≠z:=by rintro rfl;have:=oU (p:=p) hx hy R_;rw[h1,h2]at this;cases this
 refine{hxz,?_};unfold cH at h1 h2⊢;cases nx:ah x with|true=>(cases ny:ah y with|true=>exact absurd ((cZ nx).trans (cZ ny).symm) R_|false=>rw[nx,ny,if_pos<|by rfl]at h1;cases nz:ah z with|true=>exact absurd ((cZ nx).trans (cZ nz).symm) hxz|false=>rw[if_pos<|by rfl];exact h1)|false=>cases ny:ah y with|true=>(rw[nx,ny,if_pos<|by rfl]at h1;cases nz:ah z with|true=>exact absurd ((cZ ny).trans (cZ nz).symm) hyz|false=>rw[ny,nz,if_pos<|by rfl]at h2;cases e:decide (p.2.2 ="first")<;>rw[e]at h1 h2<;>first|cases h1;done|cases h2;done)|false=>rw[nx,ny,if_neg<|by simp]at h1;cases nz:ah z with|true=>rw[ny,nz,if_pos<|by rfl]at h2;rw[if_pos<|by rfl];exact h2|false=>rw[ny,nz,if_neg<|by simp]at h2;rw[if_neg<|by simp];cases e:decide (p.2.1 ="up") with|true=>rw[e]at h1 h2;rw[JZ (a:=x) (b:=y) (c:=z) (by simpa using h1)<|by simpa using h2];rfl|false=>rw[e]at h1 h2;have h1:sW x y=false:=(by simpa using h1);have h2:sW y z=false:=(by simpa using h2);have a1:=m8 hx hy (aS nx) (aS ny) R_;have a2:=m8 hy hz (aS ny) (aS nz) hyz;rw[h1]at a1;rw[h2]at a2;have a3:=JZ a2 a1;have a4:=m8 hx hz (aS nx) (aS nz) hxz;rw[a3]at a4;cases q:sW x z with|true=>(rw[q]at a4;cases a4)|false=>rfl
def Pin(cs:ww)(ps:wP):Prop:=∀p∈ps,∃c∈cs,c.1=p.1
section
variable{cs:ww}{wy:Str}
theorem Pin.tail(h:Pin cs<|p::ps):Pin cs ps:=λq hq=>h q<|zf _ hq
theorem qQ(hg:Gd cs)(h:Pin cs<|p::ps):∃k,∀ws,Wg cs ws->Vg k (ai cs ws p.1):=by obtain⟨c,hc,e⟩:=h p zj;rw[<-e];exact{c.2,λws hw=>(j6 hg hw hc).2}
theorem sX(hg:Gd cs):∀{ps:wP}{a b:Row},Pin cs ps->Wg cs a.2->Wg cs b.2->a.1≠b.1->bM cs wy ps b a=!bM cs wy ps a b|[],a,b,_,_,_,h=>by show(nK b.1 a.1==_)=!(nK a.1 b.1==_);rw[j8 h,bxor]|p::ps,a,b,hp,ha,hb,h=>by obtain⟨k,hk⟩:=qQ hg hp;have va:=hk _ ha;have vb:=hk _ hb;unfold bM;by_cases e:ai cs a.2 p.1=ai cs b.2 p.1;rw[if_pos<|(aR vb.2 va.2).mpr e.symm,if_pos<|(aR va.2 vb.2).mpr e];exact sX hg hp.tail ha hb h;rw[if_neg λq=>e ((aR vb.2 va.2).mp q).symm,if_neg λq=>e<|(aR va.2 vb.2).mp q];exact oU va vb e
theorem J2(hg:Gd cs):∀{ps:wP}{a b c:Row},Pin cs ps->Wg cs a.2->Wg cs b.2->Wg cs c.2->a.1≠b.1->b.1≠c.1->a.1≠c.1->bM cs wy ps a b=true->bM cs wy ps b c=true->bM cs wy ps a c=true|[],a,b,c,_,_,_,_,h1,h2,h3,q1,q2=>(by have q1:(nK a.1 b.1==decide (wy ="up"))=true:=q1;have q2:(nK b.1 c.1==decide (wy ="up"))=true:=q2;show(nK a.1 c.1==decide (wy ="up"))=true;cases e:decide (wy ="up") with|true=>rw[e]at q1 q2;rw[DU (b:=b.1) (by simpa using q1)<|by simpa using q2];rfl|false=>rw[e]at q1 q2;have q1:nK a.1 b.1=false:=(by simpa using q1);have q2:nK b.1 c.1=false:=(by simpa using q2);have a1:=j8 h1;have a2:=j8 h2;rw[q1]at a1;rw[q2]at a2;have a3:=DU a2 a1;have a4:=j8 h3;rw[a3]at a4;cases q:nK a.1 c.1 with|true=>(rw[q]at a4;cases a4)|false=>rfl)|p::ps,a,b,c,hp,ha,hb,hc,h1,h2,h3,q1,q2=>by obtain⟨k,hk⟩:=qQ hg hp;have va:=hk _ ha;have vb:=hk _ hb;have vc:=hk _ hc;unfold bM at q1 q2⊢;by_cases e1:ai cs a.2 p.1=ai cs b.2 p.1;rw[if_pos<|(aR va.2 vb.2).mpr e1]at q1;by_cases e2:ai cs b.2 p.1=ai cs c.2 p.1;rw[if_pos<|(aR vb.2 vc.2).mpr e2]at q2;rw[if_pos<|(aR va.2 vc.2).mpr<|e1.trans e2];exact J2 hg hp.tail ha hb hc h1 h2 h3 q1 q2;rw[if_neg λq=>e2<|(aR vb.2 vc.2).mp q]at q2;rw[e1,if_neg λq=>e2<|(aR vb.2 vc.2).mp q];exact q2;rw[if_neg λq=>e1<|(aR va.2 vb.2).mp q]at q1;by_cases e2:ai cs b.2 p.1=ai cs c.2 p.1;rw[<-e2,if_neg λq=>e1<|(aR va.2 vb.2).mp q];exact q1;rw[if_neg λq=>e2<|(aR vb.2 vc.2).mp q]at q2;obtain⟨e3,q3⟩:=Fh va vb vc e1 e2 q1 q2;rw[if_neg λq=>e3<|(aR va.2 vc.2).mp q];exact q3
def Rg(cs:ww)(rs:wS):Prop:=(∀r∈rs,Wg cs r.2)/\(rs.map Prod.fst).Nodup
theorem Rg.perm(h:Rg cs rs)(p:dN.Perm rs):Rg cs dN:={λr hr=>h.1 r<|p.mem_iff.mp hr,(p.map _).nodup_iff.mpr h.2}
theorem Rg.sub(h:Rg cs rs)(p:dN.Sublist rs):Rg cs dN:={λr hr=>h.1 r<|p.subset hr,h.2.sublist<|p.map _}
theorem Nq(hg:Gd cs)(hp:Pin cs ps)(hr:Rg cs m)(hl:l.Pairwise λa b=>bM cs wy ps a b=true)(hm:m.Pairwise λa b=>bM cs wy ps a b=true)(pm:l.Perm m):l=m:=by refine List.Perm.eq_of_pairwise (le:=λa b=>bM cs wy ps a b=true) (λa b ha hb h1 h2=>?_) hl hm pm;have ha:=pm.mem_iff.mp ha;by_cases e:a.1=b.1;exact iy (f:=Prod.fst) hr.2 ha hb e;have:=sX (wy:=wy) hg hp (hr.1 a ha) (hr.1 b hb) e;rw[h1,h2]at this;cases this
end
theorem DV{l m:wp}(hl:l.Nodup)(hm:m.Nodup)(h:∀x,x∈l↔x∈m):l.Perm m:=by induction l generalizing m with|nil=>(cases m with|nil=>exact .nil|cons y m=>exact absurd ((h y).mpr zj)<|by simp)|cons x l ih=>obtain⟨n1,n2⟩:=yi.mp hl;have hx:=(h x).mp zj;refine .trans ((ih n2 (hm.erase x) λy=>?_).cons x) (List.perm_cons_erase hx).symm;rw[hm.mem_erase_iff];constructor;intro hy;exact{λe=>n1<|e ▸ hy,(h y).mp<|zf _ hy};rintro⟨h1,h2⟩;rcases zi.mp ((h y).mpr h2) with e|e;exact absurd e h1;exact e
theorem map_range(d:α)(xs:List α):(List.range xs.length).map (λk=>xs.getD k d)=xs:=by refine List.ext_getElem (by simp) λi h1 h2=>?_;simp[zg h2]
theorem G9{α:Type}(d:α){xs:List α}{g:Nat->Nat}(lt:∀k,k<xs.length->g k<xs.length)(inj:∀i j,i<xs.length->j<xs.length->g i=g j->i=j):((List.range xs.length).map λk=>xs.getD (g k) d).Perm xs:=by
 have nd:((List.range xs.length).map g).Nodup:=by refine List.pairwise_map.mpr<|List.nodup_range.imp_of_mem λ{a b} ha hb n e=>n<|inj a b (zU.mp ha) (zU.mp hb) e
 have sub:∀x∈(List.range xs.length).map g,x∈List.range xs.length:=λx hx=>by obtain⟨k,hk,rfl⟩:=zh.mp hx;exact zU.mpr<|lt k<|zU.mp hk
 have p:((List.range xs.length).map g).Perm (List.range xs.length):=DV nd List.nodup_range λx=>by refine{sub x,λhx=>?_};by_cases h:x∈(List.range xs.length).map g;exact h;exfalso;have:=sub_len nd (m:=(List.range xs.length).erase x) λy hy=>(List.Nodup.mem_erase_iff List.nodup_range).mpr {λe=>h<|e ▸ hy,sub y hy};rw[zb,List.length_erase_of_mem hx,List.length_range]at this;have:=zU.mp hx;lia
 have e:((List.range xs.length).map λk=>xs.getD (g k) d)=((List.range xs.length).map g).map λk=>xs.getD k d:=by rw[zq];rfl
 rw[e];have:=p.map λk=>xs.getD k d;rw[map_range]at this;exact this
theorem G_{α:Type}(d:α){xs:List α}{g:Nat->Nat}{r:α->α->Prop}(h:∀i j,i<j->j<xs.length->r (xs.getD (g i) d) (xs.getD (g j) d)):((List.range xs.length).map λk=>xs.getD (g k) d).Pairwise r:=by rw[List.pairwise_map,List.pairwise_iff_getElem];intro i j hi hj i5;rw[List.length_range]at hj;rw[List.getElem_range,List.getElem_range];exact h i j i5 hj
noncomputable def r0:Row:=("",[])
theorem getD_map{rs:wS}{j:Nat}(h:j<rs.length):(rs.map ag).getD j .au=ag (rs.getD j r0):=by rw[zB,zB,zm,zg h];rfl
theorem getD_mem{rs:wS}{j:Nat}(h:j<rs.length):rs.getD j r0∈rs:=by rw[zB,zg h];exact List.getElem_mem h
theorem m9{rs:wS}{b:Bool}{f:D->D}{g:Nat->Nat}(h:Rn b (λj=>f<|(rs.map ag).getD j .au) (rs.map ag).length g): ∃dN:wS,(List.range (rs.map ag).length).map (λk=>(rs.map ag).getD (g k) .au)=dN.map ag/\dN.Perm rs/\∀q r:Row->Row->Prop,rs.Pairwise q->(∀x y,x∈rs->y∈rs->(if b=true then Ws (f<|ag y) (f<|ag x) else Ws (f<|ag x) (f<|ag y))->r x y)->(∀x y,x∈rs->y∈rs->f (ag x)=f (ag y)->q x y->r x y)->dN.Pairwise r:=by have hn:(rs.map ag).length=rs.length:=zb _;rw[hn]at h⊢;refine{(List.range rs.length).map λk=>rs.getD (g k) r0,?_,G9 r0 h.lt h.inj,λq r hq h1 h2=>G_ r0 λi j i5 hj=>?_};rw[zq];exact zV λk hk=>getD_map<|h.lt k<|zU.mp hk;have gi:=h.lt i<|Nat.lt_trans i5 hj;have gj:=h.lt j hj;have o:=h.ord i j i5 hj;rw[getD_map gi,getD_map gj]at o;rcases o with o|⟨o,l⟩;exact h1 _ _ (getD_mem gi) (getD_mem gj) o;refine h2 _ _ (getD_mem gi) (getD_mem gj) o ?_;have:=List.pairwise_iff_getElem.mp hq (g i) (g j) gi gj l;rw[zB,zB,zg gi,zg gj];exact this
section
variable{cs:ww}{wy:Str}
noncomputable def valued(cs:ww)(p:Part)(r:Row):Bool:=!ah (ai cs r.2 p.1)
theorem Nr(h1:ah x=true)(h2:ah y=true):lL x y=true:=by rw[cZ h1,cZ h2];rfl
theorem xN(h:ah x≠ah y):lL x y=false:=by unfold lL;split<;>first|rfl|exact absurd rfl h
theorem Ha{ps:wP}{p:Part}{L V:wS}(hL:L.Pairwise λa b=>bM cs wy ps a b=true)(hV:V.Perm<|L.filter<|valued cs p)(YI:V.Pairwise λa b=>bM cs wy (p::ps) a b=true): (if p.2.2 ="first" then L.filter (λr=>!valued cs p r)++V else V++L.filter (λr=>!valued cs p r)).Perm L/\(if p.2.2 ="first" then L.filter (λr=>!valued cs p r)++V else V++L.filter (λr=>!valued cs p r)).Pairwise λa b=>bM cs wy (p::ps) a b=true:=by
 have hN:(L.filter λr=>!valued cs p r).Pairwise λa b=>bM cs wy (p::ps) a b=true:=by refine(hL.sublist yJ).imp_of_mem λ{a b} ha hb h=>?_;have ha:=(yn.mp ha).2;have hb:=(yn.mp hb).2;unfold valued at ha hb;rw[Bool.not_not]at ha hb;show(if lL (ai cs a.2 p.1) (ai cs b.2 p.1)=true then bM cs wy ps a b else _)=true;rw[if_pos<|Nr ha hb];exact h
 have OZ:∀a∈L.filter (λr=>!valued cs p r),∀b∈V,ah (ai cs a.2 p.1)=true/\ah (ai cs b.2 p.1)=false:=λa ha b hb=>by have ha:=(yn.mp ha).2;have hb:=(yn.mp<|hV.mem_iff.mp hb).2;unfold valued at ha hb;rw[Bool.not_not]at ha;exact{ha,by simpa using hb}
 have pm:(L.filter (λr=>!valued cs p r)++V).Perm L:=(List.Perm.append_left _ hV).trans<|List.perm_append_comm.trans<|List.filter_append_perm (valued cs p) L;by_cases e:p.2.2 ="first";rw[if_pos e];refine{pm,List.pairwise_append.mpr {hN,YI,λa ha b hb=>?_}};obtain⟨na,nb⟩:=OZ a ha b hb;show(if lL (ai cs a.2 p.1) (ai cs b.2 p.1)=true then bM cs wy ps a b else cH p (ai cs a.2 p.1) (ai cs b.2 p.1))=true;rw[xN<|by rw[na,nb];nofun,if_neg zd];unfold cH;rw[na,nb,if_pos<|by rfl,zu e];rfl;rw[if_neg e];refine{List.perm_append_comm.trans pm,List.pairwise_append.mpr {YI,hN,λa ha b hb=>?_}};obtain⟨na,nb⟩:=OZ b hb a ha;show(if lL (ai cs a.2 p.1) (ai cs b.2 p.1)=true then bM cs wy ps a b else cH p (ai cs a.2 p.1) (ai cs b.2 p.1))=true;rw[xN<|by rw[na,nb];nofun,if_neg zd];unfold cH;rw[na,nb,if_pos<|by rfl,zx e];rfl
theorem Bu(hg:Gd cs)(hp:Pin cs ps):∀{F:wS},Rg cs (x::F)->(F.Pairwise λa b=>bM cs wy ps a b=true)->(F.take (F.filter λy=>bM cs wy ps y x).length++x::F.drop (F.filter λy=>bM cs wy ps y x).length).Pairwise λa b=>bM cs wy ps a b=true|[],_,_=>by simp|y::F,hr,h=>by obtain⟨h1,h2⟩:=List.pairwise_cons.mp h;have nd:=hr.2;rw[zt,zt]at nd;obtain⟨n1,n2⟩:=yi.mp nd;obtain⟨n3,n4⟩:=yi.mp n2;have nxy:y.1≠x.1:=λe=>n1 (by rw[<-e];exact zj);have wx:=hr.1 x zj;have wy':=hr.1 y<|zf _ zj;cases e:bM cs wy ps y x with|true=>(rw[yw,if_pos e,zQ,List.take_succ_cons,List.drop_succ_cons,List.cons_append,List.pairwise_cons];have dO:Rg cs (x::F):=hr.sub<|(List.sublist_cons_self y F).cons₂ x;refine{λz hz=>?_,Bu hg hp dO h2};rcases zP.mp hz with hz|hz;exact h1 z<|List.mem_of_mem_take hz;rcases zi.mp hz with rfl|hz;exact e;exact h1 z<|List.mem_of_mem_drop hz)|false=>have none:∀z∈y::F,bM cs wy ps z x=false:=λz hz=>(by rcases zi.mp hz with rfl|hz;exact e;cases q:bM cs wy ps z x with|false=>rfl|true=>have nyz:y.1≠z.1:=λe=>n3 (by rw[e];exact zh.mpr ⟨z,hz,rfl⟩);have nzx:z.1≠x.1:=λe=>n1 (by rw[<-e];exact zf _<|zh.mpr ⟨z,hz,rfl⟩);have wz:=hr.1 z<|zf _<|zf _ hz;rw[J2 hg hp wy' wz wx nyz nzx nxy (h1 z hz) q]at e;cases e);have e0:(y::F).filter (λy=>bM cs wy ps y x)=[]:=List.filter_eq_nil_iff.mpr λz hz=>(by rw[none z hz];exact zd);rw[e0];show(x::y::F).Pairwise _;refine List.pairwise_cons.mpr {λz hz=>?_,h};have nzx:z.1≠x.1:=λe=>n1 (by rw[<-e];exact zh.mpr ⟨z,hz,rfl⟩);rw[sX hg hp (hr.1 z<|zf _ hz) wx nzx,none z hz];rfl
theorem J3(x:α)(F:List α)(m:Nat):(F.take m++x::F.drop m).Perm (F++[x]):=by refine(List.perm_middle).trans<|List.Perm.trans ?_ List.perm_append_comm;rw[List.take_append_drop];exact .refl _
end
noncomputable abbrev qK:Str:="sorted_by_keys.<locals>.<lambda>"
noncomputable abbrev qV:Str:="sorted_by_values.<locals>.<lambda>"
noncomputable def Sa:D->D|.tup (x::_)=>x|_=>.au
noncomputable def DX(cs:ww)(z:Str):D->D|.tup [_,.tup ws]=>ai cs ws z|_=>.au
inductive J4(t:eJ)(ds:v0)(S:ak)(R:KD)(Z:KX):Prop where
 |mk (cs:ww)(l:Addr)(rs:wS)(wy:Str)(h0:ds=[.ref l,.str wy])(h1:kr wy=true)(h2:S l=some (.lst<|rs.map ag))(h3:rs.length<64)(h4:Rg cs rs)(h5:S t.aO=some (.tab qK))(h6:∀(dN:wS)(p:Addr),dN.Perm rs->(dN.Pairwise λa b=>bM cs wy [] a b=true)->S p=none->R (.ref p) (S.set p<|.lst<|dN.map ag))
theorem bD{S S2:ak}{p:Addr}{c:Ce}(h:Sub S S2):Sub (S.set p c) (S2.set p c):=λb e hb=>by by_cases q:b=p;subst q;rw[aa]at hb⊢;exact hb;rw[ae q]at hb⊢;exact h b e hb
theorem bz{S S2:ak}{p:Addr}(h:Sub S S2)(e:S2 p=none):S p=none:=by cases q:S p with|none=>rfl|some c=>rw[h p c q]at e;cases e
theorem xO{z:Str}(h:kr z=true):z ="up"\/z ="down":=by unfold kr at h;simpa using h
theorem Rg.unlike(h:Rg cs rs):rs.Pairwise λa b=>a.1≠b.1:=List.pairwise_map.mp h.2
theorem m_(B:Bm mg base):Ok P w base T.fA 4 (J4 t):=by
 refine T.fA.F.okC (k:=3) mM (by rintro ds S R Z ⟨_,_,_,_,e,_⟩;rw[e];rfl) ?_;rintro fV A outer s H E ds S R Z tN hr ⟨cs,l,rs,wy,e,La,hl,hn,dO,ht,q⟩;subst e;have B5:AO ((rs.map ag).map Sa):=.inl {rs.map Prod.fst,by rw[zq,zq];rfl};have un:rs.Pairwise λa b=>a.1≠b.1:=dO.unlike;have NS:(rs.map ag).length<64:=by rw[zb];exact hn
 refine{_,(sc (si (aV aL hr.u (dv 1) ds) (s1<|sr<|OE (N:=["row"]) (src:=[none]) (tN.trans T.f_) ⟨T.dG,B⟩ hr (Vi (aj gJ) ["rows","way"] rfl rfl<|by trivial) (dv 0) (λ_ _ _ _=>(ix (hr.in1.in1.deeper _).units (dv 0) di)) T.gO fe) s0)<|s1<|sr<|Wu (N:=["row"]) (src:=[none]) (tN.trans T.f_) ⟨T.dG,B⟩ hr (Vi (aj gJ) ["rows","way"] rfl rfl<|by trivial) (dv 0) (λ_ _ _ _=>(ix (hr.in1.in1.deeper _).units (dv 0) di)) T.gO fe),?_};rcases xO La with rfl|rfl;refine !!⟨b8 !{l,rs.map ag,Sa,rfl,hl,NS,ht,B5,λx hx S' hs Qk hQ=>?_,λg S2 p hg hs hp=>?_}⟩;obtain⟨r,hr,rfl⟩:=zh.mp hx;exact !!⟨hQ S'<|.refl _⟩;obtain⟨dN,e,pm,h⟩:=m9 hg;rw[e];refine{S.set p<|.lst<|dN.map ag,bD hs,q dN p pm (h _ _ un (λx y hx hy eI=>?_) λx y hx hy e ne=>absurd (D.str.inj e) ne)<|bz hs hp};show(nK x.1 y.1==decide (("up": Str) ="up"))=true;have:nK x.1 y.1=true:=zu eI;rw[this];rfl;refine !!⟨iG !{l,rs.map ag,Sa,rfl,hl,NS,ht,B5,λx hx S' hs Qk hQ=>?_,λg S2 p hg hs hp=>?_}⟩;obtain⟨r,hr,rfl⟩:=zh.mp hx;exact !!⟨hQ S'<|.refl _⟩;obtain⟨dN,e,pm,h⟩:=m9 hg;rw[e];refine{S.set p<|.lst<|dN.map ag,bD hs,q dN p pm (h _ _ un (λx y hx hy eI=>?_) λx y hx hy e ne=>absurd (D.str.inj e) ne)<|bz hs hp};show(nK x.1 y.1==decide (("down": Str) ="up"))=true;have:nK y.1 x.1=true:=zu eI;by_cases e:x.1=y.1;rw[e,Ff]at this;cases this;rw[j8 e]at this;have h2:nK x.1 y.1=false:=by simpa using this
 rw[h2,zx<|by trivial];rfl
inductive J5(t:eJ)(ds:v0)(S:ak)(R:KD)(Z:KX):Prop where
 |mk (cs:ww)(ps:wP)(p:Part)(wy:Str)(l:Addr)(rs:wS)(h0:ds=[.tup<|cs.map az,p3 p,.ref l])(h1:Gd cs)(h2:Pin cs<|p::ps)(h3:kr p.2.1=true)(h4:S l=some (.lst<|rs.map ag))(h5:rs.length<64)(h6:Rg cs rs)(h7:(∀r∈rs,valued cs p r=true))(h8:(rs.Pairwise λa b=>bM cs wy ps a b=true))(h9:S t.aI=some (.tab qV))(h10:∀(dN:wS)(a:Addr),dN.Perm rs->(dN.Pairwise λa b=>bM cs wy (p::ps) a b=true)->S a=none->R (.ref a) (S.set a<|.lst<|dN.map ag))
theorem DY{α:Type}{f:α->D}{β:Type}{mk:β->D} : ∀{l:List α},(∀x∈l,∃b,f x=mk b)->∃bs:List β,l.map f=bs.map mk|[],_=>{[],rfl}|x::l,h=>by obtain⟨b,e⟩:=h x zj;obtain⟨bs,e2⟩:=DY λy hy=>h y<|zf _ hy;exact{b::bs,by rw[zt,e,e2];rfl}
theorem Hb{cs:ww}{p:Part}{k:Str}{rs:wS}(hk:∀r∈rs,Vg k<|ai cs r.2 p.1)(hv:∀r∈rs,valued cs p r=true):AO ((rs.map ag).map<|DX cs p.1):=by
 rw[zq];have nn:∀r∈rs,ai cs r.2 p.1≠.au:=λr hr=>aS (by have:=hv r hr;unfold valued at this;simpa using this);by_cases e:k ="number";refine .inr<|DY λr hr=>?_;have h1:=hk r hr;have h2:=nn r hr;show ∃b,ai cs r.2 p.1=.int b;generalize ai cs r.2 p.1=v at h1 h2;cases v with|au=>exact absurd rfl h2|int i=>exact⟨i,rfl⟩|str z=>(have h1:=h1.1;unfold iu at h1;simp only[ah,Bool.false_or]at h1;rw[if_pos e]at h1;cases h1)|_=>cases h1.2
 refine .inl<|DY λr hr=>?_;have h1:=hk r hr;have h2:=nn r hr;show ∃b,ai cs r.2 p.1=.str b;generalize ai cs r.2 p.1=v at h1 h2;cases v with|au=>exact absurd rfl h2|str i=>exact⟨i,rfl⟩|int z=>(have h1:=h1.1;unfold iu at h1;simp only[ah,Bool.false_or]at h1;rw[if_neg e]at h1;cases h1)|_=>cases h1.2
theorem J6{cs:ww}{wy:Str}{ps:wP}{p:Part}{x y:Row}(nx:valued cs p x=true)(ny:valued cs p y=true)(ne:lL (ai cs x.2 p.1) (ai cs y.2 p.1)=false)(h:(sW (ai cs x.2 p.1) (ai cs y.2 p.1)==decide (p.2.1 ="up"))=true):bM cs wy (p::ps) x y=true:=by
 unfold valued at nx ny;have nx:ah (ai cs x.2 p.1)=false:=by simpa using nx
 have ny:ah (ai cs y.2 p.1)=false:=by simpa using ny
 show(if lL (ai cs x.2 p.1) (ai cs y.2 p.1)=true then bM cs wy ps x y else cH p (ai cs x.2 p.1) (ai cs y.2 p.1))=true;rw[ne,if_neg zd];unfold cH;rw[nx,ny,if_neg<|by simp];exact h
theorem J_{x y:D}(h:sW x y=true):lL x y=false:=by rcases R9 h with⟨i,j,rfl,rfl,h1⟩|⟨i,j,rfl,rfl,h1⟩<;>exact zx λe=>by rw[e,Np]at h;cases h
theorem Ka(x y:D):lL x y=lL y x:=by cases x<;>cases y<;>first|rfl|exact decide_eq_decide.mpr ⟨Eq.symm,Eq.symm⟩
theorem ku(B:Bm mg base):Ok P w base T.dU 6 (J5 t):=by
 refine T.dU.F.okC (k:=5) ko (by rintro ds S R Z ⟨_,_,_,_,_,_,e,_⟩;rw[e];rfl) ?_;rintro fV A outer s H E ds S R Z tN hr ⟨cs,ps,p,wy,l,rs,e,hg,Kb,La,hl,hn,dO,hv,W5,ht,q⟩;subst e;obtain⟨c,hc,ec⟩:=Kb p zj;obtain⟨k,hk⟩:=qQ hg Kb;have B5:AO ((rs.map ag).map<|DX cs p.1):=Hb (λr hr=>hk _<|dO.1 r hr) hv;have NS:(rs.map ag).length<64:=by rw[zb];exact hn
 have same:∀x y:Row,x∈rs->y∈rs->DX cs p.1 (ag x)=DX cs p.1 (ag y)->bM cs wy ps x y=true->bM cs wy (p::ps) x y=true:=λx y hx hy e h=>by show(if lL (ai cs x.2 p.1) (ai cs y.2 p.1)=true then bM cs wy ps x y else _)=true;rw[if_pos<|(aR (hk _<|dO.1 x hx).2 (hk _<|dO.1 y hy).2).mpr e];exact h
 have step:∀x,x∈rs.map ag->∀Qk:KD,∀S':ak,Qk (DX cs p.1 x) S'->∀Zq,lN [D.tup<|cs.map az,x,.str p.1] S' Qk Zq:=λx hx Qk S' hQ _=>by obtain⟨r,hr,rfl⟩:=zh.mp hx;exact{cs,r,c,by rw[ec],hg,dO.1 r hr,hc,by rw[ec];exact hQ}
 refine{_,(sc (si (aV aL hr.u (ix hr.u (dv 1) di) ds) (s1<|sr<|OE (N:=["row","columns","part"]) (src:=[none,some 0,some 1]) (tN.trans T.eR) ⟨T.cY,B⟩ hr (Vi (aj fw) ["columns","part","rows"] rfl rfl<|by trivial) (dv 2) (λ_ _ _ _=>(cf ((dE T).mono<|by decide) (hr.in1.in1.deeper _) T.cF.m T.cF.k T.cF.b d0<|ap 1<|ap 0<|ac (ix (hr.in1.in1.deeper _).units (dv 2) di) an)) T.gO fe) s0)<|s1<|sr<|Wu (N:=["row","columns","part"]) (src:=[none,some 0,some 1]) (tN.trans T.eR) ⟨T.cY,B⟩ hr (Vi (aj fw) ["columns","part","rows"] rfl rfl<|by trivial) (dv 2) (λ_ _ _ _=>(cf ((dE T).mono<|by decide) (hr.in1.in1.deeper _) T.cF.m T.cF.k T.cF.b d0<|ap 1<|ap 0<|ac (ix (hr.in1.in1.deeper _).units (dv 2) di) an)) T.gO fe),?_};rcases xO La with e1|e1;refine !!!⟨jF (by rw[e1];decide +kernel) !{l,rs.map ag,DX cs p.1,rfl,hl,NS,ht,B5,λx hx S' hs Qk hQ=>!!!!⟨step x hx _ S' (hQ S'<|.refl _) _⟩,λg S2 a hg hs ha=>?_}⟩;obtain⟨dN,e,pm,h⟩:=m9 hg;rw[e];refine{S.set a<|.lst<|dN.map ag,bD hs,q dN a pm (h _ _ W5 (λx y hx hy eI=>?_) same)<|bz hs ha};have eI:=J1 (a:=ai cs x.2 p.1) (b:=ai cs y.2 p.1) eI;exact J6 (hv x hx) (hv y hy) (J_ eI) (by rw[eI,zu e1];rfl);refine !!!⟨RU (by rw[e1];decide +kernel) !{l,rs.map ag,DX cs p.1,rfl,hl,NS,ht,B5,λx hx S' hs Qk hQ=>!!!!⟨step x hx _ S' (hQ S'<|.refl _) _⟩,λg S2 a hg' hs ha=>?_}⟩;obtain⟨dN,e,pm,h⟩:=m9 hg';rw[e];refine{S.set a<|.lst<|dN.map ag,bD hs,q dN a pm (h _ _ W5 (λx y hx hy eI=>?_) same)<|bz hs ha};have eI:=J1 (a:=ai cs y.2 p.1) (b:=ai cs x.2 p.1) eI;have ne:=J_ eI;refine J6 (hv x hx) (hv y hy) (by rw[Ka];exact ne) ?_;have nn:∀r∈rs,ai cs r.2 p.1≠.au:=λr hr=>aS (by have:=hv r hr;unfold valued at this;simpa using this);have kK:ai cs x.2 p.1≠ai cs y.2 p.1:=λe=>by have:=(aR (hk _<|dO.1 y hy).2 (hk _<|dO.1 x hx).2).mpr e.symm;rw[ne]at this;cases this
 have:=m8 (hk _<|dO.1 x hx) (hk _<|dO.1 y hy) (nn x hx) (nn y hy) kK;rw[eI]at this;have h2:sW (ai cs x.2 p.1) (ai cs y.2 p.1)=false:=by simpa using this
 rw[h2,e1,zx<|by trivial];rfl
def Tb(t:eJ)(S:ak):Prop:=S t.aO=some (.tab qK)/\S t.aI=some (.tab qV)
theorem Tb.sub{t:eJ}{S S':ak}(h:Tb t S)(s:Sub S S'):Tb t S':={s _ _ h.1,s _ _ h.2}
noncomputable def Fi(b:Bool)(cs:ww)(p:Part):D->Bool|.tup [_,.tup ws]=>ah (ai cs ws p.1)==b|_=>false
theorem oV{rs:wS}{f:D->Bool}{g:Row->Bool}(h:∀r,f (ag r)=g r):((rs.map ag).filter f).map id=(rs.filter g).map ag:=by rw[List.map_id,List.filter_map];exact congrArg (List.map ag)<|List.filter_congr λr _=>h r
inductive Kc(t:eJ)(ds:v0)(S:ak)(R:KD)(Z:KX):Prop where
 |mk (cs:ww)(ps:wP)(p:Part)(wy:Str)(l:Addr)(rs:wS)(h0:ds=[.tup<|cs.map az,p3 p,.ref l])(h1:Gd cs)(h2:Pin cs<|p::ps)(h3:kr p.2.1=true)(h4:S l=some (.lst<|rs.map ag))(h5:rs.length<64)(h6:Rg cs rs)(h7:(rs.Pairwise λa b=>bM cs wy ps a b=true))(h8:Tb t S)(h9:∀(dN:wS)(a:Addr),dN.Perm rs->(dN.Pairwise λa b=>bM cs wy (p::ps) a b=true)->S a=none->R (.ref a) (S.set a<|.lst<|dN.map ag))
theorem ng(B:Bm mg base):Ok P w base T.fE 7 (Kc t):=by
 obtain⟨cs,ps,p,wy,l,rs,e,hg,Kb,La,hl,hn,dO,W5,ht,q⟩:T.fE.F.bF cJ;obtain⟨c,hc,ec⟩:=Kb p zj;have hz:(rs.map ag).length<=1000:=by rw[zb];lia
 refine{_,(sc (qm (N:=["row","columns","part"]) (src:=[none,some 0,some 1]) 3 cJ.nd (jW gL) (il<|dv 2) (if1<|bi ib (aQ T.cF (dE T) hr<|ap 1<|ap 0<|ac (bn (dv 2) di) an) dn)<|dv 0)<|sc (qm (N:=["row","columns","part"]) (src:=[none,some 0,some 1]) 4 cJ.nd (jW gL) (il<|dv 2) (if1<|bi jc (aQ T.cF (dE T) hr<|ap 1<|ap 0<|ac (bn (dv 2) di) an) dn)<|dv 0)<|sc (ck (i:=4) cJ.nd<|aQ T.dU (ku T B) hr<|ap 0<|ap 1<|ap 4 an)<|s1<|sr<|VB (bi aL (bn (dv 1) di) ds) (bd bw (dv 3)<|dv 4)<|bd bw (dv 4)<|dv 3),?_};refine !{_,hl,?_};refine dA (Fi true cs p) id hl hz (λd hd Q Q' hQ DL=>?_) λp1 iY=>?_;obtain⟨r,hr,rfl⟩:=zh.mp hd;refine !!!!{cs,r,c,(show[D.tup<|cs.map az,ag r,D.str p.1]=[_,_,D.str c.1] by rw[ec]),hg,dO.1 r hr,hc,?_};rw[ec];refine{_,rfl,b9 (λh=>!⟨hQ ?_⟩) λh=>DL ?_};show(ah (ai cs r.2 p.1)==true)=true;rw[show ah (ai cs r.2 p.1)=true from h];rfl;show(ah (ai cs r.2 p.1)==true)=false;rw[show ah (ai cs r.2 p.1)=false from h];rfl;have e1:((rs.map ag).filter<|Fi true cs p).map id=(rs.filter λr=>!valued cs p r).map ag:=oV λr=>by show(ah (ai cs r.2 p.1)==true)=!valued cs p r;unfold valued;cases ah (ai cs r.2 p.1)<;>rfl
 rw[show({rs.map ag,λS=>u4 S (.ref l)<|rs.map ag}:lW).xs=rs.map ag from rfl,e1];have Sb:Sub S (S.set p1<|.lst<|(rs.filter λr=>!valued cs p r).map ag):=.new iY;have h1:(S.set p1<|.lst<|(rs.filter λr=>!valued cs p r).map ag) p1=some (.lst<|(rs.filter λr=>!valued cs p r).map ag):=aa;generalize S.set p1 (.lst<|(rs.filter λr=>!valued cs p r).map ag)=S1 at Sb h1⊢;have uE:=Sb _ _ hl;refine !{_,uE,?_};refine dA (Fi false cs p) id uE hz (λd hd Q Q' hQ DL=>?_) λp2 eT=>?_;obtain⟨r,hr,rfl⟩:=zh.mp hd;refine !!!!{cs,r,c,(show[D.tup<|cs.map az,ag r,D.str p.1]=[_,_,D.str c.1] by rw[ec]),hg,dO.1 r hr,hc,?_};rw[ec];refine{_,rfl,b9 (λh=>!⟨hQ ?_⟩) λh=>DL ?_};show(ah (ai cs r.2 p.1)==false)=true;rw[show ah (ai cs r.2 p.1)=false from nt h];rfl;show(ah (ai cs r.2 p.1)==false)=false;rw[show ah (ai cs r.2 p.1)=true from nf h];rfl;have e2:((rs.map ag).filter<|Fi false cs p).map id=(rs.filter<|valued cs p).map ag:=oV λr=>by show(ah (ai cs r.2 p.1)==false)=valued cs p r;unfold valued;cases ah (ai cs r.2 p.1)<;>rfl
 rw[show({rs.map ag,λS=>u4 S (.ref l)<|rs.map ag}:lW).xs=rs.map ag from rfl,e2];have K6:Sub S (S1.set p2<|.lst<|(rs.filter<|valued cs p).map ag):=Sb.trans<|.new eT;have h21:(S1.set p2<|.lst<|(rs.filter<|valued cs p).map ag) p1=_:=(ae<|fk h1 eT).trans h1;have h22:(S1.set p2<|.lst<|(rs.filter<|valued cs p).map ag) p2=_:=aa;generalize S1.set p2 (.lst<|(rs.filter<|valued cs p).map ag)=S2 at K6 h21 h22⊢;have fl:(rs.filter<|valued cs p).length<=rs.length:=yA _ _;have fl2:(rs.filter λr=>!valued cs p r).length<=rs.length:=yA _ _;refine !!!{cs,ps,p,wy,p2,rs.filter<|valued cs p,rfl,hg,Kb,La,h22,by lia,dO.sub yJ,λr hr=>(yn.mp hr).2,W5.sublist yJ,(ht.sub K6).2,λV p3 hV YI YF=>?_};obtain⟨pm,pw⟩:=Ha W5 hV YI;have h31:(S2.set p3<|.lst<|V.map ag) p1=_:=(ae<|fk h21 YF).trans h21;have h33:(S2.set p3<|.lst<|V.map ag) p3=some (.lst<|V.map ag):=aa;have W6:Sub S (S2.set p3<|.lst<|V.map ag):=K6.trans<|.new YF;generalize S2.set p3 (.lst<|V.map ag)=S3 at h31 h33 W6⊢;have hVl:=hV.length_eq;refine !!!⟨b9 (λh=>?_) λh=>?_⟩;rw[if_pos<|zC h]at pm pw;refine !!{_,_,h31,h33,sm<|by rw[zb,zb];lia,λp4 hp4=>?_};rw[<-zN];exact{_,bD W6,q _ p4 pm pw<|bz W6 hp4};rw[if_neg<|zZ h]at pm pw;refine !!{_,_,h33,h31,sm<|by rw[zb,zb];lia,λp4 hp4=>?_};rw[<-zN];exact{_,bD W6,q _ p4 pm pw<|bz W6 hp4}
structure Og(cs:ww)(ps:wP)(wy:Str):Prop where
 pin:Pin cs ps
 Se:∀p∈ps,kr p.2.1=true
 way:kr wy=true
 ok:Bk cs ps wy=true
 tx:∀p∈ps,Pok p
noncomputable def bN(ps:wP)(wy:Str):D:=.tup [.tup<|ps.map p3,.str wy]
inductive Ew(S:ak)(cs:ww)(ps:wP)(wy:Str)(l:Addr)(rs:wS)(qs:wP)(aA:SD)(S':ak):Prop where
 |mk (o:wn)(p:Addr)(dN:wS)(h0:aA=[some<|.tup<|cs.map az,some<|bN ps wy,some<|.ref l,some<|.ref p,o])(h1:S p=none)(h2:S' p=some (.lst<|dN.map ag))(h3:Sub S S')(h4:dN.Perm rs)(h5:dN.Pairwise λa b=>bM cs wy qs a b=true):Ew S cs ps wy l rs qs aA S'
inductive O0(t:eJ)(ds:v0)(S:ak)(R:KD)(Z:KX):Prop where
 |mk (cs:ww)(ps:wP)(wy:Str)(l:Addr)(rs:wS)(h0:ds=[.tup<|cs.map az,bN ps wy,.ref l])(h1:Gd cs)(h2:Og cs ps wy)(h3:S l=some (.lst<|rs.map ag))(h4:rs.length<64)(h5:Rg cs rs)(h6:Tb t S)(h7:∀(dN:wS)(a:Addr),dN.Perm rs->(dN.Pairwise λa b=>bM cs wy ps a b=true)->S a=none->R (.ref a) (S.set a<|.lst<|dN.map ag))
structure Vw(C:Addr)(S:ak)(a:Addr)(cs:ww)(m:D)(rows:wS):Prop where
 sh:∃F dl rs,bY C S a F cs dl rs/\rs.length<64/\uD dl.length m≠none/\∀i ss,uD dl.length m=some i->ss.Perm (rs.map (·.1))->PyProof.Rows.sortedS ss=true->lK rs i ss=rows.map ag
 mo:Gt S m
 len:rows.length<64
 rg:Rg cs rows
theorem bY.sub(b:Sub S S')(h:bY C S a F cs dl rs):bY C S' a F cs dl rs:=by obtain⟨ld,lr,ra,h,e⟩:=h;exact{ld,lr,ra,{b _ _ h.ins,b _ _ h.A_,b _ _ h.run,λr hr=>b _ _<|h.cell r hr,h.kn,h.an,h.sz},e}
theorem Bx(B:Bm mg base):Ok P w base T.sx 8 (O0 t):=by
 obtain⟨cs,ps,wy,l,rs,e,hg,ho,hl,hn,dO,ht,q⟩:T.sx.F.bF gm;refine{_,(sc (ck (i:=3) gm.nd<|aQ T.fA (m_ T B) hr<|ap 2<|ac (bn (dv 1) di) an)<|sc (ql<|Hy (irt T.su<|ac (bn (dv 1) di) an) (gn (i:=4) gm.nd)<|s1<|ck (i:=3) gm.nd<|aQ T.fE (ng T B) hr<|ap 0<|ap 4<|ap 3 an)<|s1<|sr<|dv 3),?_};refine !!!{cs,l,rs,wy,rfl,ho.way,hl,hn,dO,ht.1,λrs1 p1 pm1 pw1 iY=>?_};have hrl:ps.reverse.length=ps.length:=yI;refine{Ew S cs ps wy l rs ps,?_,?_};refine !!!⟨?_⟩;refine{λi=>Ew S cs ps wy l rs (ps.reverse.take i).reverse,{none,p1,rs1,rfl,iY,aa,.new iY,pm1,pw1},λ_ _ _ _=>trivial,?_,?_};rintro i d aA S' hd ⟨o,p,dN,rfl,hp,eO,sb,pm,pw⟩;have hd:(ps.map p3).reverse[i]?=some d:=hd;rw[<-List.map_reverse,zm]at hd;cases e5:ps.reverse[i]? with|none=>(rw[e5]at hd;cases hd)|some pt=>rw[e5]at hd;cases hd;have QQ:pt∈ps:=List.mem_reverse.mp<|zG e5;have et:(ps.reverse.take<|i+1).reverse=pt::(ps.reverse.take i).reverse:=(by rw[List.take_add_one,e5,List.reverse_append];rfl);have B4:Pin cs (pt::(ps.reverse.take i).reverse):=λx hx=>(by rcases zi.mp hx with rfl|hx;exact ho.pin _ QQ;exact ho.pin _<|List.mem_reverse.mp<|List.mem_of_mem_take<|List.mem_reverse.mp hx);refine !!!{cs,(ps.reverse.take i).reverse,pt,wy,p,dN,rfl,hg,B4,ho.Se pt QQ,eO,by rw[pm.length_eq];exact hn,dO.perm pm,pw,ht.sub sb,λrs2 p2 pm2 pw2 eT=>?_};rw[<-et]at pw2;exact{_,p2,rs2,rfl,bz sb eT,aa,sb.trans<|.new eT,pm2.trans pm,pw2}
 rintro aA S' ⟨o,p,dN,rfl,hp,eO,sb,pm,pw⟩;have pw:dN.Pairwise λa b=>bM cs wy (ps.reverse.take (ps.map p3).reverse.length).reverse a b=true:=pw;rw[yI,zb,List.take_of_length_le<|Nat.le_of_eq hrl,List.reverse_reverse]at pw;exact fo ⟨o,p,dN,rfl,hp,eO,sb,pm,pw⟩;rintro aA S' ⟨o,p,dN,rfl,hp,eO,sb,pm,pw⟩;refine !{S.set p<|.lst<|dN.map ag,λb c hb=>?_,q dN p pm pw hp};by_cases e:b=p;subst e;rw[aa]at hb;cases hb;exact eO;rw[ae e]at hb;exact sb b c hb
noncomputable def By(cs:ww)(d:D):D->Bool|.tup [.str k,.tup ws]=>aZ cs (k,ws) 7 d|_=>false
inductive Ke(t:eJ)(ds:v0)(S:ak)(R:KD)(Z:KX):Prop where
 |mk (a cs d m rows)(h0:ds=[.ref a,d,m])(h1:Gd cs)(h2:Sq cs d)(h3:Vw t.ar S a cs m rows)(h4:∀p,S p=none->R (.ref p) (S.set p<|.lst<|(rows.filter λr=>aZ cs r 7 d).map ag))
theorem qz:Ok P w base T.ik 11 (Ke t):=by obtain⟨a,cs,d,m,rows,e,hg,hd,hv,q⟩:T.ik.F.bF iH;obtain⟨F,dl,rs,hS,hn,hmo,hrw⟩:=hv.sh;obtain⟨ld,lr,ra,h,_⟩:=id hS;refine{_,(sc (ck (i:=3) iH.nd<|fS (dv 0) T.aq T.aM (bK T) hr)<|s1<|sr<|wK (N:=["row","columns","sieve"]) (src:=[none,some 3,some 1]) (jW rZ) (il<|lZ (dv 0) T.aq T.eW (vt T) hr<|ap 2 an) (if1<|tv<|aQ T.passes (j7 T 7) hr<|ap 1<|ap 2<|ap 0 an)<|dv 0),?_};refine !{a,_,rfl,h.ins,rfl,a,F,cs,dl,rs,rfl,hS,?_};refine !{a,_,rfl,h.ins,rfl,_,rfl,a,F,cs,dl,rs,m,rfl,hS,hn,hv.mo,λi ss hi hp hs p j5=>?_,λh=>absurd h hmo};rw[hrw i ss hi hp hs];refine{_,aa,?_};refine dA (By cs d) id aa (by show(rows.map ag).length<=1000;rw[zb];have:=hv.len;lia) (λx hx Q Q' hQ DL=>?_) λp2 eT=>?_;obtain⟨r,hr,rfl⟩:=zh.mp hx;refine !!!{cs,d,r,rfl,hg,hd.1,hv.rg.1 r hr,_,rfl,b9 (λh=>!⟨hQ h⟩) λh=>DL h};have e1:((rows.map ag).filter<|By cs d).map id=(rows.filter λr=>aZ cs r 7 d).map ag:=oV λr=>rfl;rw[show({rows.map ag,λS=>u4 S (.ref p)<|rows.map ag}:lW).xs=rows.map ag from rfl,e1];exact{_,bD<|.new j5,q p2<|bz (.new j5) eT}
inductive W7(t:eJ)(ds:v0)(S:ak)(R:KD)(Z:KX):Prop where
 |mk (a cs ps wy d m rows)(h0:ds=[.ref a,bN ps wy,d,m])(h1:Gd cs)(h2:Og cs ps wy)(h3:Sq cs d)(h4:Vw t.ar S a cs m rows)(h5:Tb t S)(h6:∀(dN:wS)(p:Addr),dN.Perm (rows.filter λr=>aZ cs r 7 d)->(dN.Pairwise λa b=>bM cs wy ps a b=true)->S p=none->R (.ref p) (S.set p<|.lst<|dN.map ag))
theorem nh(B:Bm mg base):Ok P w base T.fC 12 (W7 t):=by obtain⟨a,cs,ps,wy,d,m,rows,e,hg,ho,hd,hv,ht,q⟩:T.fC.F.bF mL;obtain⟨F,dl,rs,hS,hn,hmo,hrw⟩:=hv.sh;obtain⟨ld,lr,ra,h,_⟩:=id hS;refine{_,(s1<|sr<|aQ T.sx (Bx T B) hr<|ac (fS (dv 0) T.aq T.aM (bK T) hr)<|ap 1<|ac (aQ T.ik (qz T) hr<|ap 0<|ap 2<|ap 3 an) an),?_};refine !{a,_,rfl,h.ins,rfl,a,F,cs,dl,rs,rfl,hS,?_};refine !!!!{a,cs,d,m,rows,rfl,hg,hd,hv,λp hp=>?_};have fl:(rows.filter λr=>aZ cs r 7 d).length<=rows.length:=yA _ _;have:=hv.len;refine{cs,ps,wy,p,rows.filter λr=>aZ cs r 7 d,rfl,hg,ho,aa,Nat.lt_of_le_of_lt fl this,hv.rg.sub yJ,ht.sub<|.new hp,λdN p2 pm pw eT=>?_};exact{_,bD<|.new hp,q dN p2 pm pw<|bz (.new hp) eT}
theorem kd_sub(h:Sub S S')(hk:Q0 S d k):Q0 S' d k:=by cases d with|ref a=>(rcases hk with⟨e,ds,q⟩|⟨e,ds,q⟩;exact .inl {e,ds,h _ _ q};exact .inr {e,ds,h _ _ q})|_=>exact hk
theorem Gt.sub(h:Sub S S')(g:Gt S d):Gt S' d:={by obtain⟨k,hk⟩:=g.1;exact{k,kd_sub h hk},g.2}
theorem Sf:Gt S (.tup ws):={{.tup,rfl},λ_=>nofun}
theorem Nt(h:ws.length<=1000)(g:∀v∈ws,Gt S v):TV S (.tup ws):={Sf,λYG e=>by cases e;exact⟨h,g⟩}
theorem gt_int:Gt S (.int i):={{.int,rfl},λ_=>nofun}
theorem Fj(h:z.cps.size<=1000):Gt S (.str z):={{.str,rfl},λz' e=>by cases e;exact h}
theorem Kf(h:a_ d=true):Gt S d:=by cases d with|au=>exact sP|int i=>exact gt_int|str z=>have h:(decide (z.cps.size<=40)&&PyData.strOk z)=true:=h;rw[zA]at h;have:=zC h.1;exact Fj (by lia)|_=>cases h
theorem DZ(h:Paired rel cs ws):ws.length=cs.length:=by induction h with|nil=>rfl|cons _ _ ih=>rw[zQ,zQ,ih]
theorem Wg.len(h:Wg cs ws):ws.length=cs.length:=DZ h
theorem Wg.Sh(h:Wg cs ws):mR cs (.tup ws)=true:=by show(decide (ws.length=cs.length)&&(List.zipWith (λc v=>iu c.2 v) cs ws).all id)=true;rw[zu h.len,yk];unfold Wg at h;induction h with|nil=>rfl|cons r t ih=>rw[List.zipWith_cons_cons,List.all_cons,ih];show(id (iu _ _)&&true)=true;rw[show id (iu _ _)=true from r.1];rfl
theorem Wg.gts(h:Wg cs ws)(hc:cs.length<=8):TV S (.tup ws):=Nt (by rw[h.len];lia) λv hv=>Kf<|h.all v hv
theorem Nu(hg:Gd cs)(hN:∀c∈cs,c.1∈xB):∀d∈cs.map az,Ly S 60 d:=λd hd=>by obtain⟨c,hc,rfl⟩:=zh.mp hd;refine(Ly.tup (n:=0) λx hx=>?_).le (by decide);have hx:x∈[D.str c.1,D.str c.2]:=hx;simp only[zi,zH,or_false]at hx;rcases hx with rfl|rfl;exact Ly.str (xC _<|hN c hc).2;rcases (hg.2.2 c hc).2 with e|e<;>rw[e]<;>exact Ly.str (by trivial)
theorem Nv{S:ak}{a b:Addr}{ds:v0}{R:KD}(e1:S a=some (.lst ds))(e2:S b=some (.lst []))(h:∀d∈ds,Ly S 60 d)(q:R (.bl<|!ds.isEmpty) S):EB true (.ref a) (.ref b) S R:=by obtain⟨ps,k1,k2,k3,k4⟩:=Ly.all h;refine{.list ps,.list [],⟨ds,ps,e1,rfl,k1⟩,{[],[],e2,rfl,by simp only[DpAll]},by simp only[PyData.canLay0];exact k2,by simp only[PyData.canLay0,PyData.canLayAll0],.inl<|by simp only[PyData.depth];lia,?_};rw[if_pos rfl,JS,show ps.isEmpty=ds.isEmpty by cases ps<;>cases ds<;>first|rfl|cases k4];exact q
theorem Nx{n a b tn:Nat}(ha:a<n)(hb:b<n)(h:(a+tn)%n=(b+tn)%n):a=b:=by rcases Nat.lt_trichotomy a b with l|l|l;have:=Nat.sub_mod_eq_zero_of_mod_eq h.symm;rw[show b+tn-(a+tn)=b-a by lia,Nat.mod_eq_of_lt<|by lia]at this;lia;exact l;have:=Nat.sub_mod_eq_zero_of_mod_eq h;rw[show a+tn-(b+tn)=a-b by lia,Nat.mod_eq_of_lt<|by lia]at this;lia
noncomputable def vI(cs:ww)(tn k:Nat):Str:=(cs.getD ((tn+k)%cs.length) ("","")).1
theorem Bz(h:0<cs.length):∃c∈cs,cs[(tn+k)%cs.length]?=some c/\c.1=vI cs tn k:=by have eI:(tn+k)%cs.length<cs.length:=Nat.mod_lt _ h;refine{cs[(tn+k)%cs.length],List.getElem_mem eI,zg eI,?_};unfold vI;rw[zB,zg eI];rfl
theorem BA{cs:ww}(hg:(cs.map Prod.fst).Nodup){tn i:Nat}(hi:i<=cs.length):((List.range i).map<|vI cs tn).Nodup:=by
 refine List.pairwise_map.mpr<|List.nodup_range.imp_of_mem λ{a b} ha hb n e=>n ?_;have ha:=zU.mp ha;have hb:=zU.mp hb;have h0:0<cs.length:=by lia
 have la:(tn+a)%cs.length<cs.length:=Nat.mod_lt _ h0;have lb:(tn+b)%cs.length<cs.length:=Nat.mod_lt _ h0;unfold vI at e;rw[zB,zg la,zB,zg lb]at e;have e:(cs[(tn+a)%cs.length]).1=(cs[(tn+b)%cs.length]).1:=e;have e2:(cs.map Prod.fst)[(tn+a)%cs.length]'(by rw[zb];exact la)=(cs.map Prod.fst)[(tn+b)%cs.length]'(by rw[zb];exact lb):=by rw[List.getElem_map,List.getElem_map];exact e
 have e3:=(List.getElem_inj hg).mp e2;rw[Nat.add_comm tn a,Nat.add_comm tn b]at e3;exact Nx (n:=cs.length) (by lia) (by lia) e3
inductive Ow(S1:ak)(cs:ww)(c0:Int)(lx lp:Addr)(k tn i:Nat)(aA:SD)(S':ak):Prop where
 |mk (o5 o6:wn)(ps:wP)(h0:aA=[some<|.tup<|cs.map az,some<|.int c0,some<|.ref lx,some<|.int (k:Nat),some<|.ref lp,o5,o6])(h1:ps.map Prod.fst=(List.range i).map (vI cs tn))(h2:∀p∈ps,kr p.2.1=true/\Bj p.2.2=true)(h3:S'=S1.set lp (.lst<|ps.map p3)):Ow S1 cs c0 lx lp k tn i aA S'
inductive vJ(ds:v0)(S:ak)(R:KD)(Z:KX):Prop where
 |mk (cs:ww)(c:Int)(h0:ds=[.tup<|cs.map az,.int c])(h1:Gd cs)(h2:∀(ps:wP)(wy:Str),Og cs ps wy->R (bN ps wy) S)
theorem Kg:Ok P w base T.wZ 2 vJ:=by
 obtain⟨cs,c0,e,hg,q⟩:T.wZ.F.bF dY;have h8:=hg.1;have Ap:(cs.map az).length=cs.length:=zb _;refine{_,(sc (ck (i:=2) dY.nd<|aQ T.iq (jG T) hr<|ap 1<|ac di an)<|sc (ck (i:=3) dY.nd<|cb IS T.JG CO<|ac (cb br T.aY aK<|ap 0 an)<|ac (wD<|bn (cK<|ac di<|ac di<|ac di<|ac di<|ac di<|ac di<|ac di<|ac di an)<|bd bq (bn (dv 2) di) di) an)<|sc (ck (i:=4) dY.nd<|cK an)<|sc (ql<|Hy (Oo T.f9<|ap 3 an) (gn (i:=5) dY.nd)<|sc (ck (i:=6) dY.nd<|bn (bn (dv 0)<|bd bq (bd bw (bn (dv 2) di)<|dv 5)<|cb br T.aY aK<|ap 0 an) di)<|s1<|se<|bm zM z0 ya cL (dv 4)<|ac (bc<|ap 6<|ac (wD<|bn (cK<|ac ds<|ac ds an)<|bd bq (bn (dv 2)<|bd bw di<|dv 5) di)<|ac (wD<|bn (cK<|ac ds<|ac ds an)<|bd bq (bd bU (bn (dv 2)<|bd bw di<|dv 5) di) di) an) an)<|s1<|sr<|bc<|ac (ct eV T.bC aX<|ap 4 an)<|ac (wD<|bn (cK<|ac ds<|ac ds an)<|bd bq (bn (dv 2) di) di) an),?_};refine !{c0,12,rfl,by decide,λxs lx HD hx Aq=>?_};have s1:=Sub.new (c:=.lst<|xs.map D.int) Aq;have hX:(S.set lx<|.lst<|xs.map D.int) lx=some (.lst<|xs.map D.int):=aa;generalize S.set lx (.lst<|xs.map D.int)=S1 at s1 hX⊢;have at_:∀k:Nat,k<12->∃x:Int,iW (xs.map D.int) ((k:Nat):Int)=some (.int x)/\0<=x:=λk hk=>mX (by lia) (by rw[zb];lia) hx;obtain⟨x0,e0,_⟩:=at_ 0 (by decide);obtain⟨x1,e1,x10⟩:=at_ 1 (by decide);obtain⟨x11,e11,_⟩:=at_ 11 (by decide);obtain⟨tn,rfl⟩:=Int.eq_ofNat_of_zero_le x10;refine !!{Dz,λp hp=>!{_,_,(Sub.new hp) _ _ hX,e0,by decide,cC (zO _<|by decide) (zL _<|by decide) hp λd hd=>?_}};obtain⟨m,rfl⟩:∃m:Nat,d=.int m:=by have hd:d∈[D.int 1,.int 2,.int 0,.int 3,.int 1,.int 2,.int 8,.int 3]:=hd;simp only[zi,zH,or_false]at hd;rcases hd with h|h|h|h|h|h|h|h;exact{1,h};exact{2,h};exact{0,h};exact{3,h};exact{1,h};exact{2,h};exact{8,h};exact{3,h}
 obtain⟨k,hk,ek⟩:∃k:Nat,k<=cs.length/\(if decide ((m:Int)<(((cs.map az).length:Nat):Int))=true then (m:Int) else (((cs.map az).length:Nat):Int))=(k:Int):=by rw[Ap];by_cases h:(m:Int)<((cs.length:Nat):Int);exact{m,by lia,by rw[zu h,if_pos rfl]};exact{cs.length,zr _,by rw[zx h,if_neg zd]}
 refine{_,_,rfl,?_};have ek2:(if (λi j:Int=>decide<|i<j) ((m:Nat):Int) (((cs.map az).length:Nat):Int)=true then ((m:Nat):Int) else (((cs.map az).length:Nat):Int))=((k:Nat):Int):=ek;rw[ek2];refine{uA,λlp YJ=>?_};have nxp:lx≠lp:=fk hX YJ;refine{Ow S1 cs c0 lx lp k tn k,?_,?_};refine !{((k:Nat):Int),rfl,by lia,by lia,?_};refine{Ow S1 cs c0 lx lp k tn,{none,none,[],rfl,rfl,λ_ h=>(nomatch h),rfl},λ_ _ _ _=>trivial,?_,?_};rintro i d aA S' hd ⟨o5,o6,ps,rfl,hn,dw,rfl⟩;have hd:(dS 0 ((k:Nat):Int).toNat)[i]?=some d:=hd;obtain⟨hi,rfl⟩:=c9 hd;have hi:i<k:=by lia
 have eO:ps.length=i:=by have:=congrArg List.length hn;simpa using this
 obtain⟨c,hc,ec,wK⟩:=Bz (cs:=cs) (tn:=tn) (k:=i) (by lia);have E_:(S1.set lp<|.lst<|ps.map p3) lx=some (.lst<|xs.map D.int):=(ae nxp).trans hX;have hP2:(S1.set lp<|.lst<|ps.map p3) lp=some (.lst<|ps.map p3):=aa;have eat:iW (cs.map az) ((((tn:Nat):Int)+(0+((i:Nat):Int)))%(((cs.map az).length:Nat):Int))=some (az c):=by rw[Ap,show(((tn:Nat):Int)+(0+((i:Nat):Int)))%((cs.length:Nat):Int)=(((tn+i)%cs.length:Nat):Int) by rw[Int.zero_add,Int.natCast_emod,Int.natCast_add]];refine bZ ?_;rw[zm,ec];rfl
 obtain⟨xi,YK,_⟩:=at_ (2+i) (by lia);have YK:iW (xs.map D.int) (2+(0+((i:Nat):Int)))=some (.int xi):=by rw[show(2:Int)+(0+((i:Nat):Int))=((2+i:Nat):Int) by lia];exact YK
 refine !!{_,_,E_,e1,_,rfl,_,rfl,_,rfl,by rw[Ap];lia,_,eat,_,rfl,?_};refine{_,rfl,{rfl,_,hP2},_,rfl,bR,λp hp=>!!{_,_,(Sub.new hp) _ _ E_,YK,by decide,cC (zO _<|by decide) (zL _<|by decide) hp λd hd=>?_}};obtain⟨wy,rfl,La⟩:∃wy:Str,d=.str wy/\kr wy=true:=by have hd:d∈[D.str "up",.str "down"]:=hd;simp only[zi,zH,or_false]at hd;rcases hd with h|h;exact{_,h,by trivial};exact{_,h,by trivial}
 refine{bR,λp hp=>!!{_,_,(Sub.new hp) _ _ E_,YK,{by decide,by trivial},by decide,cC (zO _<|by decide) (zL _<|by decide) hp λd hd=>?_}};obtain⟨en,rfl,BZ⟩:∃en:Str,d=.str en/\Bj en=true:=by have hd:d∈[D.str "first",.str "last"]:=hd;simp only[zi,zH,or_false]at hd;rcases hd with h|h;exact{_,h,by trivial};exact{_,h,by trivial}
 refine{mP,lp,_,_,rfl,rfl,hP2,bg<|by rw[zb];lia,?_};refine{_,_,ps++[(c.1,wy,en)],rfl,?_,λx hx=>?_,?_};rw[zN,hn,List.range_succ,zN];show _=_++[vI cs tn i];rw[<-wK];rfl;rcases zP.mp hx with h|h;exact dw x h;rw[zK.mp h];exact⟨La,BZ⟩;rw[aJ,zN];rfl;rintro aA S' ⟨o5,o6,ps,rfl,hn,dw,rfl⟩;rw[show({dS 0 ((k:Nat):Int).toNat,λ_=>True}:lW).xs.length=((k:Nat):Int).toNat from cE,show((k:Nat):Int).toNat=k by lia]at hn;exact fo ⟨o5,o6,ps,rfl,hn,dw,rfl⟩;rintro aA S' ⟨o5,o6,ps,rfl,hn,dw,rfl⟩;have E_:(S1.set lp<|.lst<|ps.map p3) lx=some (.lst<|xs.map D.int):=(ae nxp).trans hX;refine !{_,_,rfl,.inl aa,bR,λp hp=>!{_,_,(Sub.new hp) _ _ E_,e11,by decide,cC (zO _<|by decide) (zL _<|by decide) hp λd hd=>?_}};obtain⟨wy,rfl,La⟩:∃wy:Str,d=.str wy/\kr wy=true:=by have hd:d∈[D.str "up",.str "down"]:=hd;simp only[zi,zH,or_false]at hd;rcases hd with h|h;exact{_,h,by trivial};exact{_,h,by trivial}
 have eO:ps.length=k:=by have:=congrArg List.length hn;simpa using this
 have pin:Pin cs ps:=λx hx=>by have:x.1∈ps.map Prod.fst:=zh.mpr ⟨x,hx,rfl⟩;rw[hn]at this;obtain⟨k,hk,e⟩:=zh.mp this;have:=zU.mp hk;obtain⟨c,hc,_,ec⟩:=Bz (cs:=cs) (tn:=tn) (k:=k) (by lia);exact{c,hc,ec.trans e}
 refine{bR,S,s1.trans<|.new YJ,q ps wy {pin,λx hx=>(dw x hx).1,La,?_,λx hx=>?_}};unfold Bk;rw[zu<|show ps.length<=8 by lia,yk,zA,zA];refine{zR.mpr λx hx=>?_,zu<|by rw[hn];exact BA hg.2.1 hk,La};obtain⟨c,hc,ec⟩:=pin x hx;unfold sT;rw[zu<|zh.mpr ⟨c,hc,ec⟩,(dw x hx).1,(dw x hx).2];rfl;obtain⟨c,hc,ec⟩:=pin x hx;obtain⟨h1,h2⟩:=dw x hx;refine{by rw[<-ec];exact oM (hg.2.2 c hc).1,by rcases xO h1 with e|e<;>rw[e]<;>decide +kernel,?_};unfold Bj at h2;simp only[yR,zS]at h2;rcases h2 with e|e<;>rw[e]<;>decide +kernel
theorem Kh{c1:Bool}{X A B:Prop}(c2:Bool)(hx:(if c2=true then A else B)->X)(h:if (c1||c2)=true then A else B):if c1=true then (if true=true then A else B) else X:=by cases c1 with|true=>exact h|false=>exact hx h
theorem D0{c1:Bool}{X A B:Prop}(c2:Bool)(hx:(if c2=true then A else B)->X)(h:if (c1&&c2)=true then A else B):if c1=true then X else (if false=true then A else B):=by cases c1 with|true=>exact hx h|false=>exact h
theorem keys_str{out:v0} : (∀d∈out,∃z∈KS,d=.str z)->∃ks:j4,out=ks.map D.str/\∀k∈ks,k∈KS:=by induction out with|nil=>exact λ_=>{[],rfl,λ_ h=>(nomatch h)}|cons x l ih=>intro h;obtain⟨z,hz,e⟩:=h x zj;obtain⟨ks,e2,hk⟩:=ih λd hd=>h d<|zf _ hd;exact{z::ks,by rw[e,e2];rfl,λk LY=>(zi.mp LY).elim (λe=>e ▸ hz)<|hk k}
theorem D1{rel:D->D->Prop}{xs out:v0}(h:Paired rel xs out):∀v∈out,∃x,rel x v:=by induction h with|nil=>exact λ_ h=>(nomatch h)|cons r t ih=>exact List.forall_mem_cons.mpr {{_,r},ih}
theorem O3{cs:ww}{d:D}(h:Lf cs d){n:Nat} : oR (n+1) d=1:=by rcases h with rfl|⟨ks,rfl,_⟩|⟨o,c,v,_,_,_,rfl⟩<;>rfl
theorem Si(n:Nat)(e:D):oR (n+1) (.tup [.str "not",e])=oR n e+1:=by show((m6 _).map<|oR n).sum+1=_;rw[xI];simp
theorem Ny{o:Str}(h:o ="and"\/o ="or")(n:Nat)(ds:v0):oR (n+1) (.tup [.str o,.tup ds])=(ds.map<|oR n).sum+1:=by show((m6 _).map<|oR n).sum+1=_;rw[xJ h]
theorem Hc{I:lW}{S1:ak}{g:AE}{te:TD}{σ:SD}{src:List<|Option Nat}{R:KD}(P:Nat->List D->ak->Prop)(h0:P 0 [] S1)(aG:∀i out S,P i out S->I.ok S)(step:∀i d out S,I.xs[i]?=some d->P i out S->out.length<sizeLine/\g d (mr σ src) S λfP S3=>te fP S3 (λv S5=>P (i+1) (out++[v]) S5) Zf)(fin:∀out S2,P I.xs.length out S2->∀p,S2 p=none->R (.ref p) (S2.set p<|.lst out)):AG σ src g mw te R I S1:=by
 refine{P,h0,aG,λi d out S hd h=>{(step i d out S hd h).1,?_},fin};have e:(λ(fP:SD)(S3:ak)=>mw fP S3 (λb S4=>if b=true then te fP S4 (λv S5=>P (i+1) (out++[v]) S5) Zf else P (i+1) out S4) Zf)=λfP S3=>te fP S3 (λv S5=>P (i+1) (out++[v]) S5) Zf:=by funext fP S3;simp[mw]
 rw[e];exact(step i d out S hd h).2
theorem Ki{f:D->Nat}{k:Nat} : ∀{l:v0},(∀e∈l,f e<=k)->(l.map f).sum<=k*l.length|[],_=>zY _|e::l,h=>by have h1:=h e zj;have ih:=Ki λx hx=>h x<|zf _ hx;rw[zt,List.sum_cons,zQ,Nat.mul_succ];lia
noncomputable def O4:Nat->Nat|0=>0|n+1=>1+3*O4 n
theorem Kj{S S':ak}{p:Addr}{c c':Ce}(h:Sub (S.set p c) S'):Sub (S.set p c') (S'.set p c'):=λb x hb=>by by_cases e:b=p;subst e;rw[aa]at hb⊢;exact hb;rw[ae e]at hb⊢;exact h b x<|(ae e).trans hb
inductive Nz(n:Nat)(ds:v0)(S:ak)(R:KD)(Z:KX):Prop where
 |mk (cs:ww)(lx:Addr)(m:Nat)(xs:sB)(hn:n=m+1)(h0:ds=[.tup<|cs.map az,.ref lx,.int ((m:Nat):Int)])(h1:Cg cs)(h2:S lx=some (.lst<|xs.map D.int))(h3:xs.length<=20)(h4:∀x∈xs,0<=x)
  (h5:∀(d:D)(ys:sB),Sg cs n d->oR n d<=O4 n->ys.length<=20->(∀y∈ys,0<=y)->R d (S.set lx<|.lst<|ys.map D.int)):Nz n ds S R Z
theorem j9(T:Txt w K mg t):∀n,Ok P w base T.eZ (2+n) (Nz n)
 |0=>by refine T.eZ.F.bF (k:=1) cP ?_;rintro _ _ _ _ _ _ _ S R Z hr ⟨_,_,_,_,e,_⟩;cases e
 |n+1=>by
  refine T.eZ.F.bF (k:=2+n) cP ?_;obtain⟨cs,lx,m,xs,en,e,hc,hX,HD,hx,q⟩;cases en;have hg:=hc.1;have n2:=bR;have n3:=mP;refine{_,(sc (ck (i:=3) cP.nd<|aQ T.qM (Be T) hr<|ap 1 an)<|sc (ck (i:=4) cP.nd<|bo bq hr.u (dv 3) di)<|sc (si (twd<|twand (aV qk hr.u (dv 2) di)<|tw1<|aV aL hr.u (dv 4) di) (s1<|sr<|bc<|ac ds<|ac (aQ T.eZ (j9 T n) hr<|ap 0<|ap 1<|ac (bo mj hr.u (dv 2) di) an) an) s0)<|sc (si (twd<|twand (aV qk hr.u (dv 2) di)<|tw1<|aV rL hr.u (dv 4) di) (sc (qm (N:=["_law_k","_law_columns_here","_law_xs","_law_deep"]) (src:=[none,some 0,some 1,some 2]) 5 cP.nd (jW vh) (Oo T.f9<|ac (wD<|ix hr.u (cK<|ac di<|ac di<|ac di<|ac di an)<|bo bq hr.u (bo bU hr.u (dv 3) di) di) an) pC<|aQ T.eZ (j9 T n) hr<|ap 1<|ap 2<|ac (bo mj hr.u (dv 3) di) an)<|s1<|sr<|bc<|ac (wD<|ix hr.u (cK<|ac ds<|ac ds an)<|bo mj hr.u (dv 4) di)<|ac (ct eV T.bC aX<|ap 5 an) an) s0)<|sc (si (twd<|twor (aV aL hr.u (dv 4) di)<|tw1<|aV aL hr.u (dv 0)<|bc an) (s1<|sr<|wD<|ix hr.u (cK<|ac (bc<|ac ds an)<|ac (bc<|ac ds<|ac (ct eV T.bC aX<|ac (wK (N:=["_law_k","_law_x"]) (src:=[none,some 3]) (jW vh) (Oo T.f9<|ac (bo bq hr.u (bo bU hr.u (dv 3) di) di) an) pC<|aQ T.EW (JP T) hr<|ac (bo bw hr.u (bo bU hr.u (dv 1) di)<|bo rK hr.u di<|dv 0) an) an) an) an)<|bo bq hr.u (bo bU hr.u (dv 3) di) di) s0)<|sc (sa (ix hr.u (dv 0)<|bo bq hr.u (bo bU hr.u (dv 3) di)<|cb br T.aY aK<|ap 0 an)<|gt (n:=2)<|gc (gn (i:=6) cP.nd)<|gc (gn (i:=7) cP.nd) g0)<|sc (ck (i:=8) cP.nd<|aQ T.qN (Bf T) hr<|ap 7<|ac (aQ T.qM (Be T) hr<|ap 1 an) an)<|sc (si (twd<|twor (aV ib hr.u (dv 8) dn)<|tw1<|aV rL hr.u (dv 4) di) (s1<|sr<|bc<|ac ds<|ap 6<|ap 8 an) s0)<|sc (si (twd<|twand (aV aL hr.u (dv 4) di)<|tw1<|aV aL hr.u (dv 7) ds) (s1<|sr<|bc<|ac ds<|ap 6<|ap 8 an) s0)<|s1<|sr<|bc<|ac (wD<|ix hr.u (cK<|ac ds<|ac ds an)<|bo bq hr.u (dv 4) di)<|ap 6<|ap 8 an),?_};refine !{lx,xs,rfl,hX,HD,hx,λx ys x0 yl hy=>?_};have hY:(S.set lx<|.lst<|ys.map D.int) lx=some (.lst<|ys.map D.int):=aa;have q1:∀d,Lf cs d->R d (S.set lx<|.lst<|ys.map D.int):=λd hd=>q d ys (.inl hd) (by rw[O3 hd];show 1<=1+_;lia) (by lia) hy;refine !{by decide,?_};have w0:0<=x%9:=zO _ (by decide);have w1:x%9<9:=zL _ (by decide);generalize x%9=way at w0 w1⊢;have ed:0<n->((n:Nat):Int)-1=((n-1:Nat):Int):=λh=>by lia
  refine !{decide<|(0:Int)<((n:Nat):Int),rfl,D0 (decide<|way=0) (λh=>!!⟨h⟩)<|b9 (λh=>?_) λM4=>?_};rw[zA,zS,zS]at h;have hn:0<n:=by lia
  refine !!!{cs,lx,n-1,ys,by lia,by rw[ed hn];rfl,hc,hY,by lia,hy,λd zs hd hz zl y4=>{n2,?_}};rw[aJ];exact fo<|q _ zs (.inr<|.inl ⟨d,rfl,hd⟩) (by rw[Si];show _<=1+3*O4 n;lia) zl y4;refine !{decide<|(0:Int)<((n:Nat):Int),rfl,D0 (decide<|way<3) (λh=>!!⟨h⟩)<|b9 (λh=>?_) λ_=>?_};rw[zA,zS,zS]at h;have hn:0<n:=by lia
  have hwz:way≠0:=λe=>by rw[Bool.and_eq_false_iff,yq,yq]at M4;lia
  refine{uB,λp hp=>!⟨{by decide,by trivial},by decide,cC (zO _<|by decide) (zL _<|by decide) hp λd hd=>?_⟩};obtain⟨k,rfl,hk⟩:∃k:Nat,d=.int k/\k<=3:=by have hd:d∈[D.int 2,.int 3,.int 1,.int 0]:=hd;simp only[zi,zH,or_false]at hd;rcases hd with h|h|h|h;exact{2,h,by decide};exact{3,h,by decide};exact{1,h,by decide};exact{0,h,by decide}
  refine{((k:Nat):Int),rfl,by lia,by lia,?_};refine Hc (λi out S'=>∃zs:sB,Sub (S.set lx<|.lst<|zs.map D.int) S'/\zs.length<=20/\(∀z∈zs,0<=z)/\out.length=i/\∀e∈out,Sg cs n e/\oR n e<=O4 n) {ys,.refl _,by lia,hy,rfl,λ_ h=>(nomatch h)} (λ_ _ _ _=>trivial) ?_ ?_;rintro i d out S' hd ⟨zs,sb,zl,hz,QS,ho⟩;have hi:i<k:=by have hd:(dS 0 ((k:Nat):Int).toNat)[i]?=some d:=hd;have:=(c9 hd).1;lia
  refine{bg<|by lia,_,rfl,_,rfl,_,rfl,cs,lx,n-1,zs,by lia,by rw[ed hn];rfl,hc,sb _ _ aa,zl,hz,λd vs hd hsz vl hv=>{vs,Kj sb,vl,hv,by rw[zE,QS];rfl,λe he=>?_}};rcases zP.mp he with he|he;exact ho e he;rw[zK.mp he];exact⟨hd,hsz⟩;rintro out S' ⟨zs,sb,zl,hz,QS,ho⟩ pl eO;rw[show({dS 0 ((k:Nat):Int).toNat,λ_=>True}:lW).xs.length=((k:Nat):Int).toNat from cE]at QS;refine{n2,λp2 eT=>!⟨cC (by lia) (by show way-1<2;lia) eT λd hd=>?_⟩};obtain⟨o,rfl,hoo⟩:∃o:Str,d=.str o/\(o ="and"\/o ="or"):=by have hd:d∈[D.str "and",.str "or"]:=hd;simp only[zi,zH,or_false]at hd;rcases hd with h|h;exact{_,h,.inl rfl};exact{_,h,.inr rfl}
  refine !{_,_,rfl,.inl aa,n2,_,sb.trans<|.new eO,q _ zs (.inr<|.inr {o,out,hoo,rfl,by lia,λe he=>(ho e he).1}) ?_ zl hz};have hs:=Ki λe he=>(ho e he).2;have:O4 n*out.length<=O4 n*3:=Nat.mul_le_mul_left _ (by lia);rw[Ny hoo];show _<=1+3*O4 n;lia;refine !{decide<|way=8,rfl,Kh (cs.map az).isEmpty (λh=>!{uA,Nk (Nu hc.1 hc.2) !⟨h⟩})<|b9 (λh=>?_) λh=>?_};have k0:0<=x/9%4:=zO _ (by decide);have k1:x/9%4<4:=zL _ (by decide);refine{M8,_,rfl,{by decide,by trivial},by decide,x/9%4,rfl,by lia,by lia,?_};refine jz (λ_ v=>∃z∈KS,v=.str z) trivial (by show(dS 0 _).length<=_;rw[cE];lia) (λd hd Q hQ=>?_) λout ho p1 iY=>?_;obtain⟨j,hj⟩:=yE hd;obtain⟨_,rfl⟩:=c9 hj;exact{_,rfl,{by decide,by trivial},_,rfl,.inl {by decide,by decide},_,rfl,λz hz=>hQ _ ⟨z,hz,rfl⟩};obtain⟨ks,rfl,B5⟩:=keys_str λd hd=>(D1 ho d hd).elim λ_ h=>h;have hl:=yX ho;rw[show({dS 0 (x/9%4).toNat,λ_=>True}:lW).xs=dS 0 (x/9%4).toNat from rfl,cE,zb]at hl;refine{_,_,rfl,.inl aa,n2,n2,λp hp=>!⟨{by decide,by trivial},by decide,cC (zO _<|by decide) (zL _<|by decide) hp λd hd=>?_⟩};have hd:d∈[D.tup [.str "every"],.tup [.str "key",.tup<|ks.map D.str]]:=hd;simp only[zi,zH,or_false]at hd;rcases hd with rfl|rfl;exact{_,.new iY,q1 _<|.inl rfl};exact{_,.new iY,q1 _<|.inr<|.inl {ks,rfl,by lia,B5}};rw[Bool.or_eq_false_iff]at h;have Ap:0<cs.length:=by cases cs with|nil=>(cases h.2)|cons c cs=>exact Nat.succ_pos _
  have hml:(cs.map az).length=cs.length:=zb _;obtain⟨d,e1,e2⟩:=mf (l:=cs.map az) (i:=x/9%(((cs.map az).length:Nat):Int)) (zO _<|by lia)<|zL _ (by lia);obtain⟨c,Uo,rfl⟩:=zh.mp<|zG e2;refine !!⟨{by decide,by trivial},_,rfl,_,rfl,by lia,_,e1,_,rfl,rfl,_,_,rfl,_,_,rfl,rfl,?_⟩;refine !!{lx,ys,rfl,hY,by lia,hy,λx2 zs _ zl hz=>{c.2,x2,rfl,λv hv=>?_}};rw[aJ];have qc:∀o,xH o c v->Fo (S.set lx<|.lst<|zs.map D.int) (R<|.tup [.str o,.str c.1,v]):=λo ho=>fo<|q _ zs (.inl<|.inr<|.inr ⟨o,c,v,Uo,hv,ho,rfl⟩) (by rw[O3<|.inr<|.inr ⟨o,c,v,Uo,hv,ho,rfl⟩];show 1<=1+_;lia) (by lia) hz;refine !{ah v,rfl,Kh (decide<|way<4) (λh=>!!⟨h⟩)<|b9 (λh4=>?_) λh4=>?_};exact !!{n3,qc _<|.inl rfl};rw[Bool.or_eq_false_iff]at h4;have OA:=aS h4.1;refine !{decide<|way=4,rfl,D0 (decide<|c.2 ="word") (λh=>!!⟨h⟩)<|b9 (λh5=>?_) λh5=>?_};rw[zA]at h5;exact !!{n3,qc _<|.inr {OA,.inr<|.inr {rfl,zC h5.2}}};refine{n2,λp hp=>!{(by decide:(0:Int)<2),cC (zO _<|by decide) (zL _<|by decide) hp λd hd=>?_}};obtain⟨o,rfl,ho⟩:∃o:Str,d=.str o/\(o ="below"\/o ="above"):=by have hd:d∈[D.str "below",.str "above"]:=hd;simp only[zi,zH,or_false]at hd;rcases hd with rfl|rfl;exact{_,rfl,.inl rfl};exact{_,rfl,.inr rfl}
  exact !!{n3,qc o<|.inr {OA,ho.elim .inl λh=>.inr<|.inl h}}
theorem Fl:∀{l:j4}{p:Str},PyProof.Rows.risingS p l=true->(p::l).Pairwise λa b=>a.cps.toList<=b.cps.toList|[],p,_=>List.pairwise_singleton _ _|x::r,p,h=>by have h:(!PySem.Spec.ltCps x.cps.toList p.cps.toList&&PyProof.Rows.risingS x r)=true:=h;rw[zA,PyProof.Rows.ltCps_eq,Bool.not_eq_true',yq]at h;have ih:=Fl h.2;have hpx:p.cps.toList<=x.cps.toList:=List.not_lt.mp h.1;refine List.pairwise_cons.mpr {λy hy=>?_,ih};rcases zi.mp hy with e|hy;rw[e];exact hpx;exact List.le_trans hpx<|(List.pairwise_cons.mp ih).1 y hy
theorem vK(h:PyProof.Rows.sortedS l=true):l.Pairwise λa b=>a.cps.toList<=b.cps.toList:=by cases l with|nil=>exact List.Pairwise.nil|cons x r=>exact Fl h
theorem NA{a b:Str}(h:a.cps.toList=b.cps.toList):a=b:=by obtain⟨⟨x⟩⟩:=a;obtain⟨⟨y⟩⟩:=b;cases h;rfl
theorem Hd{l m:j4}(hl:l.Pairwise λa b=>a.cps.toList<=b.cps.toList)(hm:m.Pairwise λa b=>a.cps.toList<=b.cps.toList)(nl:l.Nodup)(nm:m.Nodup)(h:∀z,z∈l↔z∈m):l=m:=List.Perm.eq_of_pairwise (λa b _ _ h1 h2=>NA<|List.le_antisymm h1 h2) hl hm<|(List.perm_ext_iff_of_nodup nl nm).mpr h
def TI(l:wE)(n:Nat):Prop:=∀s∈l,s.b<=n/\∀m,s.e=some m->m<n
noncomputable def Sj(s:Std):D:=match s.e with|none=>.tup s.ws|some _=>.au
noncomputable def cur(l:wE):D:=match l.getLast? with|none=>.au|some s=>Sj s
theorem nj(r:wE)(s:Std):cur (r++[s])=Sj s:=by unfold cur;rw[List.getLast?_concat]
theorem Sk(h:TI l n):wt l n=cur l:=by by_cases e:l=[];subst e;rfl;obtain⟨r,s,rfl⟩:=qO e;rw[nj];unfold wt;rw[List.reverse_append];obtain⟨h1,h2⟩:=h s<|zJ _<|zK.mpr rfl;show TY (s::r.reverse) (n:Int)=_;unfold TY Sj;rw[if_pos<|show(s.b:Int)<=(n:Int) by lia];cases q:s.e with|none=>rfl|some m=>have:=h2 m q;exact if_neg<|show ¬(n:Int)<=(m:Int) by lia
theorem TI.up(h:TI l n):TI l (n+1):=λs hs=>{Nat.le_succ_of_le (h s hs).1,λm e=>Nat.lt_succ_of_lt<|(h s hs).2 m e}
theorem TI.close(h:TI l n):TI (oO n l) (n+1):=by by_cases e:l=[];subst e;exact λs hs=>(nomatch hs);obtain⟨r,s,rfl⟩:=qO e;rw[jD];intro x hx;rcases zP.mp hx with hx|hx;exact h.up x<|ym _ hx;rw[zK.mp hx];exact{Nat.le_succ_of_le (h s<|zJ _<|zK.mpr rfl).1,λm e=>by cases e;exact Nat.lt_succ_self _}
theorem TI.beg(h:TI l<|n+1):TI (l++[Std.mk (n+1) none ws]) (n+1):=λs hs=>by rcases zP.mp hs with hs|hs;exact h s hs;rw[zK.mp hs];exact{zr _,λm e=>(by cases e)}
theorem He:cur (oO n l)=.au:=by by_cases e:l=[];subst e;rfl;obtain⟨r,s,rfl⟩:=qO e;rw[jD,nj];rfl
noncomputable def uF(kn:Kn)(z:Str):D:=match iU kn z with|none=>.au|some ws=>.tup ws
structure RI(rs:mU)(n:Nat)(kn:Kn):Prop where
 ti:∀z,TI ((lu rs z).getD []) n
 eq:∀z,cur ((lu rs z).getD [])=uF kn z
 ks:∀r∈rs,r.1∈KS
theorem NB(h:r∈DF rs z s):r.1=z\/∃r'∈rs,r'.1=r.1:=by unfold DF at h;split at h;obtain⟨r0,E1,e⟩:=zh.mp h;refine .inr {r0,E1,?_};subst e;split<;>rfl;rcases zP.mp h with h|h;exact .inr ⟨r,h,rfl⟩;rw[zK.mp h];exact .inl rfl
theorem Kk(h:∀r∈rs,r.1∈KS)(hz:z∈KS):∀r∈DF rs z s,r.1∈KS:=λr hr=>by rcases NB hr with e|⟨r',dO,e⟩;rw[e];exact hz;rw[<-e];exact h r' dO
theorem Fm:uF (qx kn z ws) k=if k=z then .tup ws else uF kn k:=by unfold uF;rw[Ni];by_cases h:k=z;rw[if_pos h,if_pos h];rw[if_neg h,if_neg h]
theorem Fn:uF (xD kn z) k=if k=z then .au else uF kn k:=by unfold uF;rw[Nj];by_cases h:k=z;rw[if_pos h,if_pos h];rw[if_neg h,if_neg h]
theorem RI.nil:RI [] 0 []:={λz s hs=>(nomatch hs),λz=>rfl,λr hr=>(nomatch hr)}
theorem RI.put(h:RI rs n kn)(hz:z∈KS):RI (Bc rs z (n+1) ws) (n+1) (qx kn z ws):=by refine{λk=>?_,λk=>?_,Kk h.ks hz};unfold Bc;rw[oP];by_cases e:k=z;rw[if_pos e];exact(h.ti z).up.beg;rw[if_neg e];exact(h.ti k).up;unfold Bc;rw[oP,Fm];by_cases e:k=z;rw[if_pos e,if_pos e];exact nj _ _;rw[if_neg e,if_neg e];exact h.eq k
theorem RI.del(h:RI rs n kn)(hz:z∈KS):RI (sO rs z n) (n+1) (xD kn z):=by refine{λk=>?_,λk=>?_,Kk h.ks hz};unfold sO;rw[oP];by_cases e:k=z;rw[if_pos e];exact(h.ti z).close;rw[if_neg e];exact(h.ti k).up;unfold sO;rw[oP,Fn];by_cases e:k=z;rw[if_pos e,if_pos e];exact He;rw[if_neg e,if_neg e];exact h.eq k
theorem RI.change(h:RI rs n kn)(hz:z∈KS):RI (Bc (sO rs z n) z (n+1) ws) (n+1) (qx kn z ws):=by have h1:=h.del hz;refine{λk=>?_,λk=>?_,Kk h1.ks hz};unfold Bc;rw[oP];by_cases e:k=z;rw[if_pos e];exact(h1.ti z).beg;rw[if_neg e];exact h1.ti k;unfold Bc;rw[oP,Fm];by_cases e:k=z;rw[if_pos e,if_pos e];exact nj _ _;rw[if_neg e,if_neg e,h1.eq k,Fn,if_neg e]
theorem RI.wt{rs:mU}{n:Nat}{kn:Kn}(h:RI rs n kn)(z:Str):wt ((lu rs z).getD []) n=uF kn z:=by rw[Sk<|h.ti z,h.eq]
theorem RI.B6(h:RI rs n kn)(hz:z∈KS):B6 rs (.str z) n=uF kn z:=by rw[xx (fL z hz).1,h.wt]
theorem vL(kn:Kn)(z:Str):ah (uF kn z)=!(iU kn z).isSome:=by unfold uF;cases iU kn z<;>rfl
theorem O5(h:bY C S a F cs dl rs):(rs.map (·.1)).Nodup:=by obtain⟨ld,lr,ra,h,_,rfl⟩:=h;unfold gW;rw[zq];exact h.kn
theorem RI.len(h:RI rs n kn)(hs:bY C S a F cs dl rs):rs.length<=60:=by
 have:=sub_len (O5 hs) (m:=KS) λx hx=>by obtain⟨r,hr,rfl⟩:=zh.mp hx;exact h.ks r hr
 rw[zb]at this;exact zI this<|by trivial
noncomputable def Sl(kn:Kn)(ss:j4):v0:=ss.map λz=>.tup [.str z,uF kn z]
theorem W8(h:lu rs k=some s):k∈rs.map (·.1):=by induction rs with|nil=>(cases h)|cons r rs ih=>rw[fb]at h;rw[zt];by_cases e:r.1=k;exact zi.mpr<|.inl e.symm;rw[if_neg e]at h;exact zf _<|ih h
theorem vM:we "list"= some L8:=(if_neg<|by decide).trans<|(if_neg<|by decide).trans<|(if_neg<|by decide).trans<|(if_neg<|by decide).trans<|if_pos rfl
noncomputable def dR(kn:Kn)(ss:j4):wS:=ss.map λz=>(z,(iU kn z).getD [])
structure Snap(rs:mU)(cs:ww)(m:Nat)(rows:wS):Prop where
 ex:∃kn ss,rows=dR kn ss/\KI cs kn/\ss.Perm (kn.map (·.1))/\PyProof.Rows.sortedS ss=true/\∀z,wt ((lu rs z).getD []) m=uF kn z
theorem vN(p:ss.Perm (kn.map (·.1))):(dR kn ss).map ag=Sl kn ss:=by unfold dR Sl;rw[zq];refine zV λz hz=>?_;obtain⟨ws,BB⟩:=jH<|p.mem_iff.mp hz;show D.tup [.str z,.tup<|(iU kn z).getD []]=.tup [.str z,uF kn z];unfold uF;rw[BB];rfl
theorem sY(hI:KI cs kn)(p:ss.Perm (kn.map (·.1))):Rg cs (dR kn ss):=by refine{λr hr=>?_,?_};obtain⟨z,hz,rfl⟩:=zh.mp hr;obtain⟨ws,BB⟩:=jH<|p.mem_iff.mp hz;show Wg cs ((iU kn z).getD []);rw[BB];exact(hI.ok _<|mY BB).2;unfold dR;rw[zq];show(ss.map id).Nodup;rw[List.map_id];exact p.nodup_iff.mpr hI.nd
theorem oW(hI:KI cs kn)(p:ss.Perm (kn.map (·.1))):(dR kn ss).length<=60:=by unfold dR;rw[zb,p.length_eq,zb];exact hI.len
theorem Snap.rg(h:Snap rs cs m rows):Rg cs rows/\rows.length<=60:=by obtain⟨kn,ss,rfl,hI,p,_⟩:=h.ex;exact{sY hI p,oW hI p}
theorem Snap.key(h:Snap rs cs m rows):∀r∈rows,r.1∈KS:=by obtain⟨kn,ss,rfl,hI,p,_⟩:=h.ex;intro r hr;obtain⟨z,hz,rfl⟩:=zh.mp hr;obtain⟨ws,BB⟩:=jH<|p.mem_iff.mp hz;exact(hI.ok _<|mY BB).1
theorem vO{C a:Addr}{S:ak}{F:im}{cs:ww}{dl:v0}{rs:mU}{m:Nat}{rows:wS}(h:Snap rs cs m rows)(hs:bY C S a F cs dl rs){ss:j4}(p1:ss.Perm (rs.map (·.1)))(o1:PyProof.Rows.sortedS ss=true):lK rs m ss=rows.map ag:=by
 obtain⟨kn,s2,rfl,hI,p2,o2,hw⟩:=h.ex;rw[vN p2];have e:ss.filter (λz=>!ah (wt ((lu rs z).getD []) m))=s2:=by refine Hd ((vK o1).filter _) (vK o2) ?_ (p2.nodup_iff.mpr hI.nd) λz=>?_;exact yJ.nodup<|p1.nodup_iff.mpr<|O5 hs;rw[yn,hw,vL,Bool.not_not,p1.mem_iff,p2.mem_iff];constructor;rintro⟨_,hz⟩;obtain⟨ws,BB⟩:=Option.isSome_iff_exists.mp hz;exact zh.mpr {_,mY BB,rfl};intro hz;obtain⟨ws,BB⟩:=jH hz;refine{?_,by rw[BB];rfl};have e:=hw z;unfold uF at e;rw[BB]at e;cases q:lu rs z with|none=>(rw[q]at e;cases e)|some s=>exact W8 q
 unfold lK Sl;rw[e];refine zV λz _=>?_;unfold xy;rw[hw]
theorem Kl(hz:z∈KS):Gt S (.str z):=Fj<|by have:=(fL z hz).2.1;lia
section
variable{t:eJ}{S:ak}{a:Addr}{F:im}{cs:ww}{dl:v0}{rs:mU}{kn:Kn}{d:D}{R:KD}{Z:KX}
theorem Km(hz:z∈KS)(h:Wg cs ws):oK cs (.str z) (.tup ws)=true:=by unfold oK;rw[h.Sh,show ofStr lJ (.str z)=true from(fL z hz).1];rfl
theorem D2(hR:RI rs dl.length kn)(hz:z∈KS):ah (B6 rs (.str z) dl.length)=!(iU kn z).isSome:=by rw[hR.B6 hz,vL]
theorem W9(h:iU kn z=none):(!(iU kn z).isSome)=true:=by rw[h];rfl
theorem Ko(h:(iU kn z).isSome=true):(!(iU kn z).isSome)=false:=by rw[h];rfl
theorem tf{b:Bool}(h1:b=true)(h2:b=false){p:Prop} : p:=by rw[h1]at h2;cases h2
theorem bY.out(hS:bY C S a F cs dl rs)(hb:S b=none):b∉F:=λm=>by obtain⟨ld,lr,ra,h,rfl,_⟩:=hS;unfold fp at m;simp only[zi,zh]at m;rcases m with e|e|e|⟨r,hr,e⟩;have:=h.ins;rw[<-e,hb]at this;cases this;have:=h.A_;rw[<-e,hb]at this;cases this;have:=h.run;rw[<-e,hb]at this;cases this;have:=h.cell r hr;rw[e,hb]at this;cases this
theorem bY.off(hS:bY C S a F cs dl rs)(hp:p∉F):bY C (S.set p c) a F cs dl rs:=by obtain⟨ld,lr,ra,hh,rfl,e2⟩:=hS;unfold fp at hp;simp only[zi,not_or]at hp;obtain⟨n1,n2,n3,n4⟩:=hp;exact{ld,lr,ra,{(ae<|Ne.symm n1).trans hh.ins,(ae<|Ne.symm n2).trans hh.A_,(ae<|Ne.symm n3).trans hh.run,λr hr=>(ae λe=>n4<|by rw[<-e];exact zh.mpr ⟨r,hr,rfl⟩).trans<|hh.cell r hr,hh.kn,hh.an,hh.sz},rfl,e2}
structure Dos(t:eJ)(ds:v0)(S:ak)(R:KD)(Z:KX):Prop where
 of:DN t ds S R Z
theorem vP(hS:bY t.ar S a F cs dl rs)(hg:Gd cs)(hI:KI cs kn)(hR:RI rs dl.length kn)(hl:dl.length<=200)(hd:GD KS cs kn d){oQ:Kn}(hkn:KnD kn d oQ)(q:∀S' F' dN,bY t.ar S' a F' cs (dl++[d]) dN->DJ F F' S S'->RI dN (dl.length+1) oQ->R .au S'):Dos t [.ref a,d] S R Z:=by
 have hrl:=hR.len hS;have W_:=hg.1;obtain⟨ld,lr,ra,h,_,_⟩:=id hS;refine{a,_,h.ins,rfl,?_};rcases hd with⟨z,ws,hz,hw,hn,rfl⟩|⟨z,ws,hz,hw,hn,rfl⟩|⟨z,hz,hn,rfl⟩;have ro:=Km hz hw;have st:=(D2 hR hz).trans<|W9 hn;refine .inl {_,_,rfl,a,F,cs,_,rs,_,_,rfl,hS,W_,Kl hz,hw.gts W_,by lia,by lia,λe=>tf ro e,λ_ e=>tf st e,λz' YG e1 e2 _ _ S' F' qI hK=>?_};cases e1;cases e2;have Xa:oQ=qx kn z ws:=by rcases hkn with⟨n,y,vs,_,e1,e2⟩|⟨y,_,e1,_⟩<;>cases e1;exact e2
 subst Xa;exact q S' F' _ qI hK<|hR.put hz;have ro:=Km hz hw;have st:=(D2 hR hz).trans<|Ko hn;refine .inr<|.inl {_,_,rfl,a,F,cs,_,rs,_,_,rfl,hS,W_,Kl hz,hw.gts W_,by lia,by lia,λe=>tf ro e,λ_ e=>tf e st,λz' YG e1 e2 _ _ S' F' qI hK=>?_};cases e1;cases e2;have Xa:oQ=qx kn z ws:=by rcases hkn with⟨n,y,vs,_,e1,e2⟩|⟨y,_,e1,_⟩<;>cases e1;exact e2
 subst Xa;exact q S' F' _ qI hK<|hR.change hz;have st:=(D2 hR hz).trans<|Ko hn;refine .inr<|.inr !{a,F,cs,_,rs,_,rfl,hS,Kl hz,by lia,λe=>tf (fL z hz).1 e,λ_ e=>tf e st,λz' e1 _ _ S' qI hK=>?_};cases e1;have Xa:oQ=xD kn z:=by rcases hkn with⟨n,y,vs,_,e1,e2⟩|⟨y,_,e1,e2⟩<;>cases e1;exact e2
 subst Xa;exact q S' F _ qI hK<|hR.del hz
theorem Snap.vw(h:Snap rs cs m rows)(hS:bY t.ar S a F cs dl rs)(hR:RI rs dl.length kn)(hm:uD dl.length md=some (m:Int))(Yl:Gt S md):Vw t.ar S a cs md rows:=by have:=h.rg;refine{{F,dl,rs,hS,by have:=hR.len hS;lia,(λe=>by rw[hm]at e;cases e),λi ss hi hp hs=>?_},Yl,by lia,this.1};rw[hm]at hi;cases hi;exact vO h hS hp hs
end
def YL(S:ak)(F:im)(S':ak):Prop:=∀b c,S b=some c->b∉F/\S' b=some c
theorem YL.sub(h:YL S F S'):Sub S S':=λb c e=>(h b c e).2
theorem KI.nil(cs:ww):KI cs []:={List.nodup_nil,λ_ h=>(nomatch h)}
theorem jK(ns:sB)(lo hi:re):cq (ns.map D.int) lo hi=(cq ns lo hi).map D.int:=by unfold cq;rw[zb,List.map_take,List.map_drop]
structure St(t:eJ)(S0:ak)(a:Addr)(fs:List (Addr×Ce))(F:im)(cs:ww)(dl:v0)(rs:mU)(S:ak):Prop where
 sh:bY t.ar S a F cs dl rs
 fa:∀x∈fs,S x.1=some x.2/\x.1∉F/\S0 x.1=none
 nd:(fs.map Prod.fst).Nodup
 HE:YL S0 F S
section
variable{t:eJ}{S0:ak}{a:Addr}{fs:List (Addr×Ce)}{F:im}{cs:ww}{dl:v0}{rs:mU}{S:ak}
theorem St.at(h:St t S0 a fs F cs dl rs S)(i:Nat)(e:fs[i]?=some (b,c)):S b=some c:=(h.fa _<|zG e).1
theorem St.sub(h:St t S0 a fs F cs dl rs S)(b:Sub S S'):St t S0 a fs F cs dl rs S':={h.sh.sub b,λx hx=>{b _ _ (h.fa x hx).1,(h.fa x hx).2},h.nd,λx c hx=>{(h.HE x c hx).1,b _ _ (h.HE x c hx).2}}
theorem St.zero(h:St t S0 a fs F cs dl rs S)(hb:S b=none):S0 b=none:=by cases e:S0 b with|none=>rfl|some c=>have:=h.HE.sub _ _ e;rw[hb]at this;cases this
theorem St.new(h:St t S0 a fs F cs dl rs S)(hp:S p=none)(c:Ce):St t S0 a (fs++[(p,c)]) F cs dl rs (S.set p c):=by
 have h1:=h.sub<|.new (c:=c) hp;refine{h1.sh,λx hx=>?_,?_,h1.HE};rcases zP.mp hx with hx|hx;exact h1.fa x hx;rw[zK.mp hx];exact{aa,h.sh.out hp,h.zero hp};rw[zN,List.nodup_append];refine{h.nd,by simp,λx hx y hy e=>?_};obtain⟨z,hz,rfl⟩:=zh.mp hx;have hy:y=p:=by simpa using hy
 have:=(h.fa z hz).1;rw[e,hy,hp]at this;cases this
theorem St.put(h:St t S0 a fs F cs dl rs S)(i:Nat)(e:fs[i]?=some (b,c))(c':Ce):St t S0 a (fs.set i (b,c')) F cs dl rs (S.set b c'):=by
 have hb:=h.fa _<|zG e;have hi:=(ze.mp e).1;have em:(fs.set i (b,c')).map Prod.fst=fs.map Prod.fst:=by refine List.ext_getElem? λj=>?_;rw[zm,zm];by_cases q:j=i;subst q;rw[List.getElem?_set_self hi,e];rfl;rw[List.getElem?_set_ne<|Ne.symm q]
 refine{h.sh.off hb.2.1,λx hx=>?_,by rw[em];exact h.nd,λx c hx=>{(h.HE x c hx).1,(ae<|fk hx hb.2.2).trans (h.HE x c hx).2}};obtain⟨j,hj⟩:=yE hx;by_cases q:j=i;subst q;rw[List.getElem?_set_self hi]at hj;cases hj;exact⟨aa,hb.2⟩;rw[List.getElem?_set_ne<|Ne.symm q]at hj;have MC:=h.fa x<|zG hj;refine{(ae λe2=>q ?_).trans MC.1,MC.2};have a1:(fs.map Prod.fst)[j]?=some x.1:=by rw[zm,hj];rfl
 have a2:(fs.map Prod.fst)[i]?=some b:=by rw[zm,e];rfl
 obtain⟨b1,c1⟩:=ze.mp a1;obtain⟨b2,c2⟩:=ze.mp a2;exact(List.getElem_inj h.nd (h₀:=b1) (h₁:=b2)).mp<|by rw[c1,c2];exact e2
theorem St.perm(h:St t S0 a fs F cs dl rs S)(p:S_.Perm fs):St t S0 a S_ F cs dl rs S:={h.sh,λx hx=>h.fa x<|p.mem_iff.mp hx,(p.map _).nodup_iff.mpr h.nd,h.HE}
theorem St.less(h:St t S0 a fs F cs dl rs S)(n:(S_.map Prod.fst).Nodup)(p:∀x∈S_,x∈fs):St t S0 a S_ F cs dl rs S:={h.sh,λx hx=>h.fa x<|p x hx,n,h.HE}
theorem St.Xb(h:St t S0 a fs F cs dl rs S)(hS:bY t.ar S' a F' cs dl' dN)(hK:DJ F F' S S'):St t S0 a fs F' cs dl' dN S':={hS,λx hx=>by obtain⟨h1,h2,h3⟩:=h.fa x hx;exact by obtain⟨k1,k2⟩:=hK _ _ h2 h1;exact⟨k2,k1,h3⟩,h.nd,λx c hx=>by obtain⟨h1,h2⟩:=h.HE x c hx;exact hK _ _ h1 h2}
end
theorem Kq(hk:r.1∈KS)(hw:Wg cs r.2):Ly S 60 (ag r):=by refine(Ly.tup (n:=1) λx hx=>?_).le (by decide);simp only[zi,zH,or_false]at hx;rcases hx with rfl|rfl;exact(Ly.str (fL _ hk).2.2).le (by decide);exact hw.ly
theorem Vw.sub(h:Vw C S a cs m rows)(b:Sub S S'):Vw C S' a cs m rows:=by obtain⟨F,dl,rs,h1,h2⟩:=h.sh;exact{{F,dl,rs,h1.sub b,h2},h.mo.sub b,h.len,h.rg}
theorem pU(q:R (.bl<|if neg then !(x==y) else (x==y)) S):EB neg (.bl x) (.bl y) S R:=⟨.bool x,.bool y,by simp only[Dl,Dp],by simp only[Dl,Dp],by simp only[PyData.canLay0],by simp only[PyData.canLay0],.inl<|by simp only[PyData.depth];lia,by
 have e:PyData.eqv (.bool x) (.bool y)=(x==y):=by cases x<;>cases y<;>rfl
 rw[e];exact q⟩
theorem O6(q:R (.bl<|if neg then !decide (i=j) else decide (i=j)) S):EB neg (.str i) (.str j) S R:=q
noncomputable def cV(w e:Str)(x y:D):Int:=if lL x y=true then 0 else if cH ("",w,e) x y=true then -1 else 1
def Cm(x y:D):Prop:=∃k,Vg k x/\Vg k y
theorem iM{w e:Str}(h:Cm x y):cV w e x y=0↔x=y:=by obtain⟨k,hx,hy⟩:=h;unfold cV;by_cases q:lL x y=true;rw[if_pos q];simpa using (aR hx.2 hy.2).mp q;rw[if_neg q];have q':¬x=y:=λz=>q<|(aR hx.2 hy.2).mpr z;constructor;intro z;split at z<;>cases z;exact λz=>absurd z q'
theorem pV{w e:Str}(h:Cm x y):cV w e x y<0↔x≠y/\cH ("",w,e) x y=true:=by obtain⟨k,hx,hy⟩:=h;unfold cV;by_cases q:lL x y=true;rw[if_pos q];have:=(aR hx.2 hy.2).mp q;simp[this];rw[if_neg q];have q':¬x=y:=λz=>q<|(aR hx.2 hy.2).mpr z;by_cases l:cH ("",w,e) x y=true;rw[if_pos l];simp[q',l];rw[if_neg l];simp[l]
theorem NC{w e:Str}(h:Cm x y):cV w e y x<0↔0<cV w e x y:=by
 have h':Cm y x:=by obtain⟨k,a,b⟩:=h;exact⟨k,b,a⟩
 rw[pV h'];obtain⟨k,hx,hy⟩:=h;unfold cV;by_cases q:lL x y=true;rw[if_pos q];have:=(aR hx.2 hy.2).mp q;simp[this];rw[if_neg q];have q':¬x=y:=λz=>q<|(aR hx.2 hy.2).mpr z;have:=oU (p:=("",w,e)) hx hy q';rw[this];cases cH ("",w,e) x y<;>simp[Ne.symm q']
inductive cR(ds:v0)(S:ak)(R:KD)(Z:KX):Prop where
 |mk (x y wy e)(h0:ds=[x,y,.str e])(h1:Cm x y)(h2:(x=.au\/y=.au))(h3:R (.int<|cV wy e x y) S)
theorem iV:Ok P w base T.dr 1 cR:=by
 refine T.dr.F.bF dP ?_;rintro _ _ _ _ _ _ _ S R Z hr ⟨x,y,wy,e,e0,⟨k,hx,hy⟩,hn,q⟩;subst e0;refine{_,(sc (si (twd<|twand (aV ib hr.u (dv 0) dn)<|tw1<|aV ib hr.u (dv 1) dn) (s1<|sr di) s0)<|sc (ck (i:=3) dP.nd<|cm aL hr.u (dv 2) ds)<|s1<|sr<|VB (aV aL hr.u (dv 3)<|cm ib hr.u (dv 0) dn) (Gu di) di),?_};unfold cV at q;refine !!⟨b9 (λh=>!!⟨b9 (λh2=>?_) λh2=>?_⟩) λh=>?_⟩;rw[cZ h,cZ h2]at q;exact fo q;have e1:ah x≠ah y:=by rw[show ah x=true from h,show ah y=false from h2];decide
 rw[xN e1,if_neg zd]at q;unfold cH at q;rw[show ah x=true from h,show ah y=false from h2]at q;refine !!!⟨?_⟩;dsimp only[dC,isD];refine pU !⟨?_⟩;have q:R (.int<|if (ah x==decide (e ="first"))=true then -1 else 1) S:=by rw[show ah x=true from h];exact q
 rw[Bool.beq_comm]at q;refine b9 (λz=>?_) λz=>?_;rw[if_pos<|show(decide (e ="first")==ah x)=true from z]at q;exact{_,rfl,fo q};rw[if_neg λz2=>tf z2<|show(decide (e ="first")==ah x)=false from z]at q;exact fo q;have hy1:ah y=true:=by rcases hn with rfl|rfl;cases h;rfl
 have e1:ah x≠ah y:=by rw[show ah x=false from h,hy1];decide
 rw[xN e1,if_neg zd]at q;unfold cH at q;rw[show ah x=false from h,hy1]at q;refine !!!⟨?_⟩;dsimp only[dC,isD];refine pU !⟨?_⟩;have q:R (.int<|if (ah x==decide (e ="first"))=true then -1 else 1) S:=by rw[show ah x=false from h];exact q
 rw[Bool.beq_comm]at q;refine b9 (λz=>?_) λz=>?_;rw[if_pos<|show(decide (e ="first")==ah x)=true from z]at q;exact{_,rfl,fo q};rw[if_neg λz2=>tf z2<|show(decide (e ="first")==ah x)=false from z]at q;exact fo q
inductive sZ(ds:v0)(S:ak)(R:KD)(Z:KX):Prop where
 |mk (x y wy e)(h0:ds=[x,y,.str wy,.str e])(h1:Cm x y)(h2:R (.int<|cV wy e x y) S)
theorem pW:Ok P w base T.compared 2 sZ:=by refine T.compared.F.bF pG ?_;rintro _ _ _ _ _ _ _ S R Z hr ⟨x,y,wy,e,e0,hc,q⟩;subst e0;obtain⟨k,hx,hy⟩:=id hc;refine{_,(sc (si (twd<|twor (aV ib hr.u (dv 0) dn)<|tw1<|aV ib hr.u (dv 1) dn) (s1<|sr<|aQ T.dr (iV T) hr<|ap 0<|ap 1<|ap 3 an) s0)<|sc (si (aV aL hr.u (dv 0)<|dv 1) (s1<|sr di) s0)<|sc (ck (i:=4) pG.nd<|cm rL hr.u (dv 0)<|dv 1)<|s1<|sr<|VB (aV aL hr.u (dv 4)<|cm aL hr.u (dv 2) ds) (Gu di) di),?_};have none:∀Zq:KX,x=.au\/y=.au->cR [x,y,.str e] S (λd S'=>Fo S'<|R d) Zq:=λ_ hn=>{x,y,wy,e,rfl,hc,hn,fo q};refine !!⟨b9 (λh=>?_) λh=>!!⟨b9 (λh2=>?_) λh2=>?_⟩⟩;exact !!!⟨none _<|.inl<|cZ h⟩;exact !!!⟨none _<|.inr<|cZ h2⟩;clear none;have nx:ah x=false:=h;have ny:ah y=false:=h2;unfold cV at q;refine !!⟨m7 hx.2 hy.2 !⟨b9 (λh3=>?_) λh3=>?_⟩⟩;have h3:lL x y=true:=h3;rw[if_pos h3]at q;exact fo q;have h3:lL x y=false:=h3;rw[h3,if_neg zd]at q;unfold cH at q;rw[nx,ny]at q;have q:R (.int<|if (sW x y==decide (wy ="up"))=true then -1 else 1) S:=q;rcases lM hx hy (aS nx) (aS ny) with⟨i,j,rfl,rfl⟩|⟨i,j,rfl,rfl⟩;refine !!!!⟨?_⟩;dsimp only[dC];refine O6 ?_;refine pU ?_;refine{_,rfl,?_};refine b9 (λz=>?_) λz=>?_;rw[if_pos<|show(sW (.int i) (.int j)==decide (wy ="up"))=true from z]at q;exact{_,rfl,fo q};rw[if_neg λz2=>tf z2<|show(sW (.int i) (.int j)==decide (wy ="up"))=false from z]at q;exact fo q;refine !!!!⟨?_⟩;dsimp only[dC];refine O6 ?_;refine pU ?_;refine{_,rfl,?_};refine b9 (λz=>?_) λz=>?_;rw[if_pos<|show(sW (.str i) (.str j)==decide (wy ="up"))=true from z]at q;exact{_,rfl,fo q};rw[if_neg λz2=>tf z2<|show(sW (.str i) (.str j)==decide (wy ="up"))=false from z]at q;exact fo q
noncomputable def pX(ps:wP)(wy:Str):ww:=ps.map Prod.snd++[(wy,("last": Str))]
noncomputable def cD:List (Str×Str)->List D->List D->Int|w::ws,x::xs,y::ys=>(if cV w.1 w.2 x y=0 then cD ws xs ys else cV w.1 w.2 x y)|_,_,_=>0
def PV(ks:j4)(xs:v0):Prop:=Paired (λk x=>Vg k x) ks xs
theorem nq:∀{ws:ww}{ks:j4}{xs ys:v0},ws.length=ks.length->PV ks xs->PV ks ys->(cD ws xs ys=0↔xs=ys)|[],_,_,_,h,.nil,.nil=>by simp[cD]|w::ws,_,_,_,h,.cons (b:=x) a1 a2,.cons (b:=y) b1 b2=>by unfold cD;have c:=iM (w:=w.1) (e:=w.2) {_,a1,b1};by_cases q:cV w.1 w.2 x y=0;rw[if_pos q,nq (Nat.succ.inj h) a2 b2,c.mp q];simp;rw[if_neg q];exact{λz=>absurd z q,λz=>absurd (c.mpr (List.cons.inj z).1) q}
theorem BC:∀{ws:ww}{ks:j4}{xs ys:v0},PV ks xs->PV ks ys->(cD ws ys xs<0↔0<cD ws xs ys)|[],_,_,_,_,_=>by simp[cD]|w::ws,_,_,_,.nil,.nil=>by simp[cD]|w::ws,_,_,_,.cons (b:=x) a1 a2,.cons (b:=y) b1 b2=>by unfold cD;have c:=iM (w:=w.1) (e:=w.2) {_,a1,b1};have c':=iM (w:=w.1) (e:=w.2) {_,b1,a1};by_cases q:x=y;rw[if_pos<|c.mpr q,if_pos<|c'.mpr q.symm];exact BC a2 b2;rw[if_neg λz=>q<|c.mp z,if_neg λz=>q (c'.mp z).symm];exact NC {_,a1,b1}
theorem D5:∀{ws:ww}{ks:j4}{xs ys zs:v0},PV ks xs->PV ks ys->PV ks zs->cD ws xs ys<0->cD ws ys zs<0->cD ws xs zs<0|[],_,_,_,_,_,_,_,h,_=>by simp[cD]at h|w::ws,_,_,_,_,.nil,.nil,.nil,h,_=>by simp[cD]at h|w::ws,_,_,_,_,.cons (b:=x) a1 a2,.cons (b:=y) b1 b2,.cons (b:=z) c1 c2,h1,h2=>by unfold cD at h1 h2⊢;have e1:=iM (w:=w.1) (e:=w.2) {_,a1,b1};have e2:=iM (w:=w.1) (e:=w.2) {_,b1,c1};have e3:=iM (w:=w.1) (e:=w.2) {_,a1,c1};by_cases q1:x=y;subst q1;rw[if_pos<|e1.mpr rfl]at h1;by_cases q2:x=z;subst q2;rw[if_pos<|e2.mpr rfl]at h2⊢;exact D5 a2 b2 c2 h1 h2;rw[if_neg λz=>q2<|e2.mp z]at h2⊢;exact h2;rw[if_neg λz=>q1<|e1.mp z]at h1;by_cases q2:y=z;subst q2;rw[if_neg λz=>q1<|e3.mp z];exact h1;rw[if_neg λz=>q2<|e2.mp z]at h2;obtain⟨q3,l3⟩:=Fh (p:=("",w.1,w.2)) a1 b1 c1 q1 q2 ((pV {_,a1,b1}).mp h1).2 ((pV {_,b1,c1}).mp h2).2;rw[if_neg λz=>q3<|e3.mp z];exact(pV {_,a1,c1}).mpr ⟨q3,l3⟩
noncomputable def O7(cs:ww)(z:Str):Str:=((cs[JY cs z]?).map Prod.snd).getD "word"
noncomputable def Xc(cs:ww)(ps:wP):j4:=ps.map (λp=>O7 cs p.1)++[("word": Str)]
noncomputable def Fp(cs:ww)(ps:wP)(r:Row):v0:=ps.map (λp=>ai cs r.2 p.1)++[.str r.1]
theorem kO:∀z∈KS,Vg "word" (.str z):=by
 have h:∀z∈KS,(pK z&&a_ (.str z))=true:=by trivial
 exact λz hz=>let q:=Bool.and_eq_true_iff.mp<|h z hz;⟨q.1,q.2⟩
theorem lO:∀{l:List α}{m:List β}{l':List α}{m':List β},Paired r l m->Paired r l' m'->Paired r (l++l') (m++m')|_,_,_,_,.nil,h=>h|_,_,_,_,.cons a t,h=>.cons a<|lO t h
theorem oX(hg:Gd cs)(hp:Pin cs ps)(hw:Wg cs ws):Paired (λk x=>Vg k x) (ps.map λp=>O7 cs p.1) (ps.map λp=>ai cs ws p.1):=by induction ps with|nil=>exact .nil|cons p ps ih=>refine .cons ?_<|ih hp.tail;obtain⟨c,hc,e⟩:=hp p zj;show Vg (O7 cs p.1) (ai cs ws p.1);unfold O7;rw[<-e,(xM hg hc).1];exact(j6 hg hw hc).2
theorem s9(hg:Gd cs)(hp:Pin cs ps)(hw:Wg cs r.2)(hk:r.1∈KS):PV (Xc cs ps) (Fp cs ps r):=lO (oX hg hp hw)<|.cons (kO _ hk) .nil
theorem Fq(hg:Gd cs){wy:Str}(ha:Wg cs a.2)(hb:Wg cs b.2)(ka:a.1∈KS)(kb:b.1∈KS)(n:a.1≠b.1):∀{ps:wP},Pin cs ps->(bM cs wy ps a b=true↔cD (pX ps wy) (Fp cs ps a) (Fp cs ps b)<0)|[],_=>(by show(nK a.1 b.1==decide (wy ="up"))=true↔(if cV wy "last" (.str a.1) (.str b.1)=0 then 0 else cV wy "last" (.str a.1) (.str b.1))<0;have n':(.str a.1:D)≠.str b.1:=λe=>n<|D.str.inj e;rw[if_neg λz=>n'<|(iM {_,kO _ ka,kO _ kb}).mp z,pV {_,kO _ ka,kO _ kb}];exact{λh=>⟨n',h⟩,λh=>h.2})|p::ps,hp=>by obtain⟨k,hk⟩:=qQ hg hp;have va:=hk _ ha;have vb:=hk _ hb;show(if lL (ai cs a.2 p.1) (ai cs b.2 p.1)=true then bM cs wy ps a b else cH p (ai cs a.2 p.1) (ai cs b.2 p.1))=true↔(if cV p.2.1 p.2.2 (ai cs a.2 p.1) (ai cs b.2 p.1)=0 then cD (pX ps wy) (Fp cs ps a) (Fp cs ps b) else cV p.2.1 p.2.2 (ai cs a.2 p.1) (ai cs b.2 p.1))<0;by_cases q:ai cs a.2 p.1=ai cs b.2 p.1;rw[if_pos<|(aR va.2 vb.2).mpr q,if_pos<|(iM {_,va,vb}).mpr q];exact Fq hg ha hb ka kb n hp.tail;rw[if_neg λz=>q<|(aR va.2 vb.2).mp z,if_neg λz=>q<|(iM {_,va,vb}).mp z,pV {_,va,vb}];exact{λh=>⟨q,h⟩,λh=>h.2}
noncomputable def Xd(ws:ww)(g:v0)(sd:Str)(x:v0):Bool:=decide (cD ws x g<0)||(decide (cD ws x g=0)&&decide (sd ="behind"))
theorem Xe{ws:ww}{ks:j4}{g x y:v0}{sd:Str}(hl:ws.length=ks.length)(hx:PV ks x)(hy:PV ks y)(hg:PV ks g)(h:cD ws x y<0)(q:Xd ws g sd y=true):Xd ws g sd x=true:=by unfold Xd at q⊢;simp only[yR,zA,zS]at q⊢;rcases q with q|⟨q,_⟩;exact .inl<|D5 hx hy hg h q;rw[<-(nq hl hy hg).mp q];exact .inl h
theorem xP:∀{l:List α},(l.Pairwise λa b=>g b=true->g a=true)->∀{i:Nat}{a:α},l[i]?=some a->(g a=true↔i<l.countP g)
 |[],_,i,a,h=>by simp at h
 |x::l,hp,i,a,h=>by
  obtain⟨h1,h2⟩:=List.pairwise_cons.mp hp;rw[List.countP_cons];by_cases q:g x=true;rw[if_pos q];cases i with|zero=>(cases h;simp[q])|succ i=>rw[xP h2<|show l[i]?=some a from h];lia
  have z:l.countP g=0:=List.countP_eq_zero.mpr λb hb e=>q<|h1 b hb e;rw[if_neg q,z];have:g a≠true:=by cases i with|zero=>(cases h;exact q)|succ i=>exact λe=>q<|h1 a (zG h) e
  simp[this]
theorem Kr{α:Type}{g:α->Bool}{l:List α}(hp:l.Pairwise λa b=>g b=true->g a=true){n:Nat}(hn:n<=l.length)(h1:∀i a,i<n->l[i]?=some a->g a=true)(h2:∀i a,n<=i->l[i]?=some a->g a=false):n=l.countP g:=by
 have hc:l.countP g<=l.length:=List.countP_le_length;rcases Nat.lt_trichotomy n (l.countP g) with h|h|h;have hi:n<l.length:=by lia
 have e:=zg hi;have:=(xP hp e).mpr h;rw[h2 n _ (zr _) e]at this;cases this;exact h;have hi:l.countP g<l.length:=by lia
 have e:=zg hi;have:=(xP hp e).mp<|h1 _ _ h e;lia
noncomputable def xQ(xs:v0)(k:Str):D:=.tup [.tup xs,.str k]
abbrev vQ:=List D×Str×Str
noncomputable def oY(g:vQ):D:=.tup [xQ g.1 g.2.1,.str g.2.2]
noncomputable def T6:Option vQ->D|none=>.au|some g=>oY g
noncomputable def vR(z:Str):Bool:=decide (z ="ahead")||decide (z ="behind")
structure Gp(cs:ww)(ps:wP)(g:vQ):Prop where
 pv:Paired (λk x=>Vg k x) (ps.map λp=>O7 cs p.1) g.1
 key:g.2.1∈KS
 side:vR g.2.2=true
def Bg(cs:ww)(ps:wP)(b:Option vQ):Prop:=∀g,b=some g->Gp cs ps g
noncomputable def Sm(g:vQ):v0:=g.1++[.str g.2.1]
theorem Gp.vs(h:Gp cs ps g):PV (Xc cs ps) (Sm g):=lO h.pv<|.cons (kO _ h.key) .nil
theorem Gp.len(h:Gp cs ps g):g.1.length=ps.length:=by have:=yX h.pv;rw[zb]at this;exact this.symm
theorem Og.len(h:Og cs ps wy):ps.length<=8:=by have:=h.ok;unfold Bk at this;simp only[zA,zS]at this;exact this.1
inductive Hf(ds:v0)(S:ak)(R:KD)(Z:KX):Prop where
 |mk (z)(h0:ds=[.str z])(h1:R (.bl<|vR z) S)
inductive lP(ds:v0)(S:ak)(R:KD)(Z:KX):Prop where
 |mk (cs ps xs)(h0:ds=[.tup<|cs.map az,.tup<|ps.map p3,.tup xs])(h1:Gd cs)(h2:Pin cs ps)(h3:ps.length<=8)(h4:Paired (λk x=>Vg k x) (ps.map λp=>O7 cs p.1) xs)(h5:R (.bl true) S)
inductive uG(ds:v0)(S:ak)(R:KD)(Z:KX):Prop where
 |mk (cs ps wy xs k)(h0:ds=[.tup<|cs.map az,bN ps wy,xQ xs k])(h1:Gd cs)(h2:Pin cs ps)(h3:ps.length<=8)(h4:Paired (λk x=>Vg k x) (ps.map λp=>O7 cs p.1) xs)(h5:k∈KS)(h6:R .au S)
inductive BD(ds:v0)(S:ak)(R:KD)(Z:KX):Prop where
 |mk (cs ps wy g)(h0:ds=[.tup<|cs.map az,bN ps wy,oY g])(h1:Gd cs)(h2:Pin cs ps)(h3:ps.length<=8)(h4:Gp cs ps g)(h5:R .au S)
inductive uH(ds:v0)(S:ak)(R:KD)(Z:KX):Prop where
 |mk (cs ps wy b)(h0:ds=[.tup<|cs.map az,bN ps wy,T6 b])(h1:Gd cs)(h2:Pin cs ps)(h3:ps.length<=8)(h4:Bg cs ps b)(h5:R .au S)
inductive nr(ds:v0)(S:ak)(R:KD)(Z:KX):Prop where
 |mk (n:Int)(h0:ds=[.int n])(h1:1<=n)(h2:n<=1000)(h3:R .au S)
theorem kP:Ok P w base T.ip 2 nr:=by obtain⟨n,e,h1,h2,q⟩:T.ip.F.bF uw;refine{_,(s1<|si (twd<|twor (cX<|tv<|aQ T.jo (jA T) hr<|ap 0 an)<|tw1<|cX<|Yb jb jb hr.u di (dv 0)<|dg (v:=.int 1000) T.wO {_,rfl} λ_=>aN _) (s1 y7) s0),?_};refine !{.int n,rfl,gt_int,_,rfl,aW !!⟨RU (zu h1) !⟨?_⟩⟩};exact jF (by show(!decide (n<=1000))=false;rw[zu h2];rfl)<|fo q
inductive xR(ds:v0)(S:ak)(R:KD)(Z:KX):Prop where
 |mk (cs ps wy d n b)(h0:ds=[.tup<|cs.map az,bN ps wy,d,.int n,T6 b])(h1:Gd cs)(h2:Og cs ps wy)(h3:Sq cs d)(h4:1<=n)(h5:n<=1000)(h6:Bg cs ps b)(h7:R .au S)
structure An(cs:ww)(ps:wP)(wy:Str)(A:wS):Prop where
 rg:Rg cs A
 ky:∀r∈A,r.1∈KS
 pw:A.Pairwise λa b=>bM cs wy ps a b=true
noncomputable def gP(cs:ww)(ps:wP)(wy:Str)(g:vQ)(r:Row):Bool:=Xd (pX ps wy) (Sm g) g.2.2<|Fp cs ps r
theorem xS:(pX ps wy).length=(Xc cs ps).length:=by unfold pX Xc;simp
theorem An.lex(hg:Gd cs)(hp:Pin cs ps)(h:An cs ps wy A):A.Pairwise λa b=>cD (pX ps wy) (Fp cs ps a) (Fp cs ps b)<0:=by have nd:A.Pairwise λa b=>a.1≠b.1:=List.pairwise_map.mp h.rg.2;refine(h.pw.and nd).imp_of_mem λ{a b} ha hb q=>?_;exact(Fq hg (h.rg.1 a ha) (h.rg.1 b hb) (h.ky a ha) (h.ky b hb) q.2 hp).mp q.1
theorem An.mono(hg:Gd cs)(hp:Pin cs ps)(h:An cs ps wy A)(hv:Gp cs ps g):A.Pairwise λa b=>gP cs ps wy g b=true->gP cs ps wy g a=true:=by refine(h.lex hg hp).imp_of_mem λ{a b} ha hb q=>?_;exact Xe xS (s9 hg hp (h.rg.1 a ha)<|h.ky a ha) (s9 hg hp (h.rg.1 b hb)<|h.ky b hb) hv.vs q
inductive s_(ds:v0)(S:ak)(R:KD)(Z:KX):Prop where
 |mk (cs ps wy r)(h0:ds=[.tup<|cs.map az,bN ps wy,ag r])(h1:Gd cs)(h2:Pin cs ps)(h3:ps.length<=8)(h4:Wg cs r.2)(h5:R (xQ (ps.map λp=>ai cs r.2 p.1) r.1) S)
theorem jL:Ok P w base T.jr 3 s_:=by
 obtain⟨cs,ps,wy,r,e,hg,hp,h8,hw,q⟩:T.jr.F.bF pH;refine{_,(sc (qm (N:=["part","columns","row"]) (src:=[none,some 0,some 2]) 3 pH.nd (jW Dd) (EF<|bn (dv 1) di) pC<|aQ T.cF (dE T) hr<|ap 1<|ap 2<|ac (bn (dv 0) di) an)<|s1<|sr<|bc<|ac (ct eV T.bC aX<|ap 3 an)<|ac (bn (dv 2) di) an),?_};refine !!{_,.inl rfl,?_};refine comp_map (λd=>match d with|.tup (.str z::_)=>ai cs r.2 z|_=>.au) trivial (by show(ps.map p3).length<=_;rw[zb];lia) (λd hd Q hQ=>?_) λp j5=>?_;obtain⟨pt,hpt,rfl⟩:=zh.mp hd;obtain⟨c,hc,ec⟩:=hp pt hpt;refine !!!!{cs,r,c,(by rw[ec];rfl),hg,hw,hc,?_};rw[ec];exact hQ;have e3:(ps.map p3).map (λd=>match d with|.tup (.str z::_)=>ai cs r.2 z|_=>.au)=ps.map λp=>ai cs r.2 p.1:=by rw[zq];rfl
 rw[show({ps.map p3,λ_=>True}:lW).xs=ps.map p3 from rfl,e3];exact !{_,_,rfl,.inl aa,_,rfl,_,rfl,bR,S,.new j5,q}
inductive Pcw(S:ak)(ps:wP)(wy:Str)(xs ys:v0)(k l:Str)(j:Int)(aA:SD)(S':ak):Prop where
 |mk (o3 o4 o5 o6:wn)(h0:aA=[some<|bN ps wy,some<|xQ xs k,some<|xQ ys l,o3,o4,o5,o6])(h1:S'=S)(h2:cD (pX ps wy) (xs++[.str k]) (ys++[.str l])=j):Pcw S ps wy xs ys k l j aA S'
inductive gp(ds:v0)(S:ak)(R:KD)(Z:KX):Prop where
 |mk (ps:wP)(wy:Str)(xs:v0)(k:Str)(ys:v0)(l:Str)(ks:j4)(h0:ds=[bN ps wy,xQ xs k,xQ ys l])(h1:ps.length=xs.length)(h2:ps.length=ys.length)(h3:Paired (λk x=>Vg k x) ks xs)(h4:Paired (λk x=>Vg k x) ks ys)(h5:k∈KS)(h6:l∈KS)(h7:R (.int<|cD (pX ps wy) (xs++[.str k])<|ys++[.str l]) S)
theorem lQ:Ok P w base T.eL 3 gp:=by obtain⟨ps,wy,xs,k,ys,l,ks,e,h1,h2,vx,vy,hk,hl,q⟩:T.eL.F.bF bI;refine{_,(sc (ql<|Hy (abp T.ON<|ac (bn (dv 0) di)<|ac (bn (dv 1) di)<|ac (bn (dv 2) di) an) (gt (n:=3)<|gc (gn (i:=3) bI.nd)<|gc (gn (i:=4) bI.nd)<|gc (gn (i:=5) bI.nd) g0)<|sc (ck (i:=6) bI.nd<|aQ T.compared (pW T) hr<|ap 4<|ap 5<|ac (bn (dv 3) di)<|ac (bn (dv 3) di) an)<|s1<|si (bi k9 (dv 6) di) (s1<|sr<|dv 6) s0)<|s1<|sr<|aQ T.compared (pW T) hr<|ac (bn (dv 1) di)<|ac (bn (dv 2) di)<|ac (bn (dv 0) di)<|ac ds an),?_};refine{Pcw S ps wy xs ys k l<|cV wy "last" (.str k)<|.str l,?_,?_};{refine !!!!!!{_,_,_,rfl,by rw[zb];exact h1,by rw[zb];exact h2,?_};refine{λi=>Pcw S ps wy xs ys k l<|cD (pX (ps.drop i) wy) (xs.drop i++[.str k])<|ys.drop i++[.str l],{_,_,_,_,rfl,rfl,rfl},λ_ _ _ _=>trivial,?_,?_};rintro i d aA S' hd ⟨o3,o4,o5,o6,rfl,rfl,he⟩;obtain⟨x,y,z,e1,e2,e3,rfl⟩:=og hd;rw[zm]at e1;(cases e5:ps[i]? with|none=>(rw[e5]at e1;cases e1)|some p=>rw[e5]at e1;cases e1;obtain⟨i1,g1⟩:=ze.mp e5;obtain⟨i2,g2⟩:=ze.mp e2;obtain⟨i3,g3⟩:=ze.mp e3;rw[yj i1,yj i2,yj i3,g1,g2,g3]at he;have he:_=if cV p.2.1 p.2.2 y z=0 then cD (pX (ps.drop<|i+1) wy) (xs.drop (i+1)++[.str k]) (ys.drop (i+1)++[.str l]) else cV p.2.1 p.2.2 y z:=he;obtain⟨k1,q1,v1⟩:=dD vx e2;obtain⟨k2,q2,v2⟩:=dD vy e3;cases q1.symm.trans q2;refine !{rfl,_,_,rfl,_,_,rfl,_,_,rfl,rfl,?_};refine !!!!!!{y,z,p.2.1,p.2.2,rfl,⟨k1,v1,v2⟩,_,rfl,_,rfl,b9 (λh=>?_) λh=>?_};have h:(!decide (cV p.2.1 p.2.2 y z=0))=true:=h;rw[if_neg<|zZ<|nt h]at he;rw[he]at q;exact{_,rfl,fo q};have h:(!decide (cV p.2.1 p.2.2 y z=0))=false:=h;rw[if_pos<|zC<|nf h]at he;exact{_,_,_,_,rfl,rfl,he});{rintro aA S' ⟨o3,o4,o5,o6,rfl,rfl,he⟩;have he:_=cD (pX (ps.drop (jg (ps.map p3) xs ys).length) wy) (xs.drop (jg (ps.map p3) xs ys).length++[.str k]) (ys.drop (jg (ps.map p3) xs ys).length++[.str l]):=he;rw[oa (by rw[zb];exact h1)<|by rw[zb];exact h2,zb,List.drop_length,h1,List.drop_length,<-h1,h2,List.drop_length]at he;refine fo {o3,o4,o5,o6,rfl,rfl,he.trans ?_};show(if cV wy "last" (.str k) (.str l)=0 then 0 else cV wy "last" (.str k) (.str l))=_;split;{next h=>exact h.symm};rfl}};rintro aA S' ⟨o3,o4,o5,o6,rfl,rfl,he⟩;rw[he]at q;exact !!!!!!{_,_,_,_,rfl,{_,kO k hk,kO l hl},fo q}
inductive tj(ds:v0)(S:ak)(R:KD)(Z:KX):Prop where
 |mk (cs ps wy r g)(h0:ds=[bN ps wy,xQ (ps.map λp=>ai cs r.2 p.1) r.1,oY g])(h1:Gd cs)(h2:Pin cs ps)(h3:Wg cs r.2)(h4:r.1∈KS)(h5:Gp cs ps g)(h6:R (.bl<|gP cs ps wy g r) S)
theorem BE:Ok P w base T.sv 4 tj:=by obtain⟨cs,ps,wy,r,g,e,hg,hp,hw,hk,hv,q⟩:T.sv.F.bF pI;refine{_,(sc (ck (i:=3) pI.nd<|aQ T.eL (lQ T) hr<|ap 0<|ap 1<|ac (bn (dv 2) di) an)<|sc (si (bi aL (dv 3) di) (s1<|sr<|be aL (bn (dv 2) di) ds) s0)<|s1<|sr<|be rL (dv 3) di),?_};refine !!!!{ps,wy,_,r.1,g.1,g.2.1,_,rfl,by rw[zb],hv.len.symm,oX hg hp hw,hv.pv,hk,hv.key,_,rfl,_,rfl,?_};unfold gP Xd at q;change R (.bl<|decide (cD (pX ps wy) ((ps.map λp=>ai cs r.2 p.1)++[.str r.1]) (g.1++[.str g.2.1])<0)||decide (cD (pX ps wy) ((ps.map λp=>ai cs r.2 p.1)++[.str r.1]) (g.1++[.str g.2.1])=0)&&decide (g.2.2 ="behind")) S at q;generalize cD (pX ps wy) _ _=n at q⊢;refine b9 (λh=>?_) λh=>?_;have h:n=0:=zC h;subst h;exact !!⟨fo q⟩;have h:¬n=0:=zZ h;rw[zx h,zW,Bool.or_false]at q;exact{_,rfl,fo q}
inductive Cw(S:ak)(cs:ww)(ps:wP)(wy:Str)(l:Addr)(g:vQ)(A:wS)(m:Nat)(aA:SD)(S':ak):Prop where
 |mk (lo hi:Nat)(o6:wn)(h0:aA=[some<|.tup<|cs.map az,some<|bN ps wy,some<|.ref l,some<|oY g,some<|.int (lo:Nat),some<|.int (hi:Nat),o6])(h1:S'=S)(h2:m=hi-lo)(h3:lo<=hi)(h4:hi<=A.length)(h5:(∀i a,i<lo->A[i]?=some a->gP cs ps wy g a=true))(h6:(∀i a,hi<=i->A[i]?=some a->gP cs ps wy g a=false)):Cw S cs ps wy l g A m aA S'
inductive kQ(ds:v0)(S:ak)(R:KD)(Z:KX):Prop where
 |mk (cs ps wy A l g)(h0:ds=[.tup<|cs.map az,bN ps wy,.ref l,oY g])(h1:Gd cs)(h2:Pin cs ps)(h3:ps.length<=8)(h4:S l=some (.lst<|A.map ag))(h5:An cs ps wy A)(h6:Gp cs ps g)(h7:R (.int ((A.countP (gP cs ps wy g):Nat):Int)) S)
theorem tm:Ok P w base T.jt 5 kQ:=by
 obtain⟨cs,ps,wy,A,l,g,e,hg,hp,h8,hl,hA,hv,q⟩:T.jt.F.bF cg;refine{_,(sc (ck (i:=4) cg.nd di)<|sc (ck (i:=5) cg.nd<|cb br T.aY aK<|ap 2 an)<|sc (ql<|swh (bi rL (dv 4)<|dv 5)<|sc (ck (i:=6) cg.nd<|bd bU (bd bw (dv 4)<|dv 5) di)<|s1<|si (tv<|aQ T.sv (BE T) hr<|ap 1<|ac (aQ T.jr (jL T) hr<|ap 0<|ap 1<|ac (bn (dv 2)<|dv 6) an)<|ap 3 an) (s1<|ck (i:=4) cg.nd<|bd bw (dv 6) di)<|s1<|ck (i:=5) cg.nd<|dv 6)<|s1<|sr<|dv 4),?_};refine !!⟨.inl {_,hl,?_}⟩;rw[zb];refine{λaA S'=>∃(o6:wn),aA=[some<|.tup<|cs.map az,some<|bN ps wy,some<|.ref l,some<|oY g,some<|.int ((A.countP (gP cs ps wy g):Nat):Int),some<|.int ((A.countP (gP cs ps wy g):Nat):Int),o6]/\S'=S,?_,?_};refine{Cw S cs ps wy l g A,{_,0,A.length,none,rfl,rfl,rfl,zY _,zr _,λi a h=>absurd h<|Nat.not_lt_zero _,λi a h e=>?_},?_};rw[List.getElem?_eq_none h]at e;cases e;rintro m aA S' ⟨lo,hi,o6,rfl,rfl,rfl,h1,h2,b1,b2⟩;refine !!!⟨b9 (λh=>?_) λh=>?_⟩;have h:lo<hi:=by have:=zC h;lia
 have hm:(lo+hi)/2<A.length:=by lia
 have em:=zg hm;generalize A[(lo+hi)/2]=r at em;have G0:=zG em;have ed:(((lo:Nat):Int)+((hi:Nat):Int))/2=(((lo+hi)/2:Nat):Int):=by lia
 have mono:=hA.mono hg hp hv;refine !!⟨{by decide,by decide},?_⟩;rw[ed];refine !!!!!{_,ag r,hl,bZ<|by rw[zm,em];rfl,cs,ps,wy,r,rfl,hg,hp,h8,hA.rg.1 r G0,_,rfl,cs,ps,wy,r,g,rfl,hg,hp,hA.rg.1 r G0,hA.ky r G0,hv,_,rfl,b9 (λz=>?_) λz=>?_};refine !{hi-((lo+hi)/2+1),by lia,(lo+hi)/2+1,hi,_,rfl,rfl,rfl,by lia,h2,λi a V7 ei=>?_,b2};rcases Nat.lt_or_ge i ((lo+hi)/2) with eI|Ym;exact List.pairwise_iff_getElem.mp mono i _ (ze.mp ei).1 hm eI |> λk=>by rw[(ze.mp ei).2,(ze.mp em).2]at k;exact k z
 have:i=(lo+hi)/2:=by lia
 subst this;rw[em]at ei;cases ei;exact z;refine !{(lo+hi)/2-lo,by lia,lo,(lo+hi)/2,_,rfl,rfl,rfl,by lia,by lia,b1,λi a V7 ei=>?_};rcases Nat.lt_or_ge ((lo+hi)/2) i with eI|Ym;cases qa:gP cs ps wy g a with|false=>rfl|true=>have k:=List.pairwise_iff_getElem.mp mono _ i hm (ze.mp ei).1 eI;rw[(ze.mp ei).2,(ze.mp em).2]at k;exact tf (k qa) z
 have:i=(lo+hi)/2:=by lia
 subst this;rw[em]at ei;cases ei;exact z;have h:lo=hi:=by have:=zZ h;lia
 subst h;have:=Kr (hA.mono hg hp hv) h2 b1 b2;subst this;exact fo !⟨rfl⟩;rintro aA S' ⟨o6,rfl,rfl⟩;exact{_,rfl,fo q}
noncomputable def seg{α:Type}(A:List α)(b e:Nat):List α:=(A.drop b).take<|e-b
theorem Ft(h:b<=e)(h2:e<=A.length):cq (A.map ag) (some ((b:Nat):Int)) (some ((e:Nat):Int))=(seg A b e).map ag:=by unfold cq seg;rw[HT.sIx_nat,HT.sIx_nat,zb,Nat.min_eq_left h2,Nat.min_eq_left<|zI h h2,List.map_take,List.map_drop]
noncomputable def B7(p:Addr)(b c:Nat):D:=.tup [.ref p,.int (b:Nat),.int (c:Nat)]
noncomputable def nAt(cs:ww)(ps:wP)(wy:Str)(A:wS)(n:Nat):Option vQ->Nat|none=>n|some g=>A.countP<|gP cs ps wy g
structure Fu(cs:ww)(ps:wP)(wy:Str)(n:Nat)(d:D)(rows A:wS):Prop where
 an:An cs ps wy A
 pm:A.Perm (rows.filter λr=>aZ cs r n d)
theorem Fu.one(hg:Gd cs)(hp:Pin cs ps)(h:Fu cs ps wy n d rows A)(h':Fu cs ps wy n d rows A'):A=A':=Nq hg hp h'.an.rg h.an.pw h'.an.pw<|h.pm.trans h'.pm.symm
def Ks(rows:wS):Prop:=∀r∈rows,r.1∈KS
theorem Kt(hr:Rg cs rows)(hk:Ks rows)(pm:A.Perm<|rows.filter λr=>aZ cs r n d)(pw:A.Pairwise λa b=>bM cs wy ps a b=true):Fu cs ps wy n d rows A:={{(hr.sub yJ).perm pm,λr h=>hk r (yn.mp<|pm.mem_iff.mp h).1,pw},pm}
noncomputable def HF(A:wS)(b n:Nat):Nat:=min (b+n) A.length
inductive abT(t:eJ)(f:List (Str×Str)->List Part->Str->List Row->Option vQ->Nat->Nat×Nat)(ds:v0)(S:ak)(R:KD)(Z:KX):Prop where
 |mk (a:Addr)(cs:ww)(ps:wP)(wy:Str)(d m:D)(n:Nat)(b:Option vQ)(rows:wS)(h0:ds=[.ref a,bN ps wy,d,.int (n:Nat),T6 b,m])(h1:Gd cs)(h2:Og cs ps wy)(h3:Sq cs d)(h4:1<=n)(h5:n<=1000)(h6:Bg cs ps b)(h7:Vw t.ar S a cs m rows)(h8:Ks rows)(h9:Tb t S)(ha:∀(A:wS)(p:Addr),Fu cs ps wy 7 d rows A->S p=none->R (B7 p (f cs ps wy A b n).1<|A.length-(f cs ps wy A b n).2) (S.set p<|.lst<|(seg A (f cs ps wy A b n).1 (f cs ps wy A b n).2).map ag))
inductive Xf(t:eJ)(ds:v0)(S:ak)(R:KD)(Z:KX):Prop where
 |mk (a:Addr)(cs:ww)(ps:wP)(wy:Str)(d m:D)(f g:Option vQ)(rows:wS)(h0:ds=[.ref a,bN ps wy,d,T6 f,T6 g,m])(h1:Gd cs)(h2:Og cs ps wy)(h3:Sq cs d)(h4:Bg cs ps f)(h5:Bg cs ps g)(h6:Vw t.ar S a cs m rows)(h7:Ks rows)(h8:Tb t S)(h9:∀(A:wS)(p:Addr),Fu cs ps wy 7 d rows A->S p=none->R (.ref p) (S.set p<|.lst<|cq (A.map ag) (some ((nAt cs ps wy A 0 f:Nat):Int))<|some ((nAt cs ps wy A A.length g:Nat):Int)))
inductive jM(ds:v0)(S:ak)(R:KD)(Z:KX):Prop where
 |mk (l:Addr)(A:wS)(b e:Nat)(h0:ds=[.ref l,.int (b:Nat),.int (e:Nat)])(h1:S l=some (.lst<|A.map ag))(h2:b<=e)(h3:e<=A.length)(h4:∀p,S p=none->R (B7 p b<|A.length-e) (S.set p<|.lst<|(seg A b e).map ag))
theorem iN:Ok P w base T.eX 1 jM:=by refine T.eX.F.bF qr ?_;rintro _ _ _ _ _ _ _ S R Z hr ⟨l,A,b,e,e0,hl,h1,h2,q⟩;subst e0;refine{_,(s1<|sr<|bc<|ac (MY (dv 0) (o1<|dv 1)<|o1<|dv 2)<|ap 1<|ac (bo mj hr.u (cb br T.aY aK<|ap 0 an)<|dv 2) an),?_};refine !!!!!{_,hl,λp hp=>?_};rw[Ft h1 h2];refine !!!⟨.inl {_,(Sub.new hp) _ _ hl,_,rfl,mP,?_}⟩;rw[zb,show((A.length:Nat):Int)-((e:Nat):Int)=((A.length-e:Nat):Int) by omega];exact fo<|q p hp
inductive pY(ds:v0)(S:ak)(R:KD)(Z:KX):Prop where
 |mk (l:Addr)(A:wS)(b n:Nat)(h0:ds=[.ref l,.int (b:Nat),.int (n:Nat)])(h1:S l=some (.lst<|A.map ag))(h2:b<=A.length)(h3:∀p,S p=none->R (B7 p b<|A.length-HF A b n) (S.set p<|.lst<|(seg A b<|HF A b n).map ag))
theorem xT:Ok P w base T.ou 2 pY:=by
 refine T.ou.F.bF xm ?_;rintro _ _ _ _ _ _ _ S R Z hr ⟨l,A,b,n,e0,hl,h1,q⟩;subst e0;refine{_,(s1<|sr<|aQ T.eX (iN T) hr<|ap 0<|ap 1<|ac (cb IS T.JG CO<|ac (bo bw hr.u (dv 1)<|dv 2)<|ac (cb br T.aY aK<|ap 0 an) an) an),?_};refine !!!!!!⟨.inl {_,hl,_,_,rfl,?_}⟩;rw[zb];have e1:(if decide (((A.length:Nat):Int)<((b:Nat):Int)+((n:Nat):Int))=true then ((A.length:Nat):Int) else ((b:Nat):Int)+((n:Nat):Int))=((HF A b n:Nat):Int):=by unfold HF;by_cases h:((A.length:Nat):Int)<((b:Nat):Int)+((n:Nat):Int);rw[if_pos<|zu h];omega;rw[if_neg<|by rw[zx h];exact zd];omega
 rw[e1];exact{l,A,b,HF A b n,rfl,hl,by unfold HF;omega,by unfold HF;omega,λp hp=>fo<|q p hp}
inductive nv(ds:v0)(S:ak)(R:KD)(Z:KX):Prop where
 |mk (l:Addr)(A:wS)(e n:Nat)(h0:ds=[.ref l,.int (e:Nat),.int (n:Nat)])(h1:S l=some (.lst<|A.map ag))(h2:e<=A.length)(h3:∀p,S p=none->R (B7 p (e-n)<|A.length-e) (S.set p<|.lst<|(seg A (e-n) e).map ag))
theorem uI:Ok P w base T.lC 2 nv:=by
 refine T.lC.F.bF uv ?_;rintro _ _ _ _ _ _ _ S R Z hr ⟨l,A,e,n,e0,hl,h1,q⟩;subst e0;refine{_,(s1<|sr<|aQ T.eX (iN T) hr<|ap 0<|ac (cb Oh T.OO Js<|ac (bo mj hr.u (dv 1)<|dv 2)<|ac di an)<|ap 1 an),?_};refine !!!{_,_,rfl,?_};have e1:(if decide (((e:Nat):Int)-((n:Nat):Int)<0)=true then (0:Int) else ((e:Nat):Int)-((n:Nat):Int))=((e-n:Nat):Int):=by by_cases h:((e:Nat):Int)-((n:Nat):Int)<0;rw[if_pos<|zu h];omega;rw[if_neg<|by rw[zx h];exact zd];omega
 rw[e1];exact !{l,A,e-n,e,rfl,hl,Nat.sub_le _ _,h1,λp hp=>fo<|q p hp}
inductive Xg(f:List (Str×Str)->List Part->Str->List Row->Option vQ->Nat->Nat×Nat)(ds:v0)(S:ak)(R:KD)(Z:KX):Prop where
 |mk (cs:ww)(ps:wP)(wy:Str)(l:Addr)(A:wS)(n:Nat)(b:Option vQ)(h0:ds=[.tup<|cs.map az,bN ps wy,.ref l,.int (n:Nat),T6 b])(h1:Gd cs)(h2:Pin cs ps)(h3:ps.length<=8)(h4:S l=some (.lst<|A.map ag))(h5:An cs ps wy A)(h6:Bg cs ps b)(h7:∀p,S p=none->R (B7 p (f cs ps wy A b n).1<|A.length-(f cs ps wy A b n).2) (S.set p<|.lst<|(seg A (f cs ps wy A b n).1 (f cs ps wy A b n).2).map ag))
structure Qs(t:eJ)(S:ak)(a:Addr)(cs:ww)(ps:wP)(wy:Str)(d m:D)(rows:wS):Prop where
 g:Gd cs
 o:Og cs ps wy
 s:Sq cs d
 v:Vw t.ar S a cs m rows
 k:Ks rows
 t:Tb t S
theorem Qs.sub{t:eJ}{S S':ak}{a:Addr}{cs:ww}{ps:wP}{wy:Str}{d m:D}{rows:wS}(h:Qs t S a cs ps wy d m rows)(b:Sub S S'):Qs t S' a cs ps wy d m rows:={h.g,h.o,h.s,h.v.sub b,h.k,h.t.sub b}
section
variable{t:eJ}{S:ak}{a:Addr}{cs:ww}{ps:wP}{wy:Str}{d m:D}{rows:wS}(hq:Qs t S a cs ps wy d m rows)
include hq
end
theorem Fv(hr:Rg cs rows)(hk:Ks rows):∀d∈rows.map ag,Ly S 60 d:=λd hd=>by obtain⟨r,h,rfl⟩:=zh.mp hd;exact Kq (hk r h)<|hr.1 r h
noncomputable def Xh(cs:ww)(ps:wP)(sd:Str)(r:Row):vQ:=(ps.map λp=>ai cs r.2 p.1,r.1,sd)
theorem Ku{cs:ww}(hg:Gd cs){ps:wP}(hp:Pin cs ps){r:Row}(hw:Wg cs r.2)(hk:r.1∈KS){sd:Str}(hs:vR sd=true):Gp cs ps (Xh cs ps sd r):={oX hg hp hw,hk,hs}
inductive vS(ds:v0)(S:ak)(R:KD)(Z:KX):Prop where
 |mk (cs:ww)(ps:wP)(wy:Str)(p:Addr)(rows:wS)(b c:Nat)(h0:ds=[.tup<|cs.map az,bN ps wy,B7 p b c])(h1:Gd cs)(h2:Pin cs ps)(h3:ps.length<=8)(h4:S p=some (.lst<|rows.map ag))(h5:(∀r∈rows,Wg cs r.2))(h6:(rows=[]->R .au S))(h7:∀r0 r1,rows[0]?=some r0->rows[rows.length-1]?=some r1->R (.tup [oY<|Xh cs ps "ahead" r0,oY<|Xh cs ps "behind" r1]) S)
theorem D6:Ok P w base T.wY 4 vS:=by
 refine T.wY.F.bF sD ?_;rintro _ _ _ _ _ _ _ S R Z hr ⟨cs,ps,wy,p,rows,b,c,e0,hg,hp,h8,hS,hw,q1,q2⟩;subst e0;refine{_,(sc (ck (i:=3) sD.nd<|ix hr.u (dv 2) di)<|sc (si (aV aL hr.u (cb br T.aY aK<|ap 3 an) di) (s1<|sr dn) s0)<|s1<|sr<|bc<|ac (bc<|ac (aQ T.jr (jL T) hr<|ap 0<|ap 1<|ac (ix hr.u (dv 3) di) an)<|ac ds an)<|ac (bc<|ac (aQ T.jr (jL T) hr<|ap 0<|ap 1<|ac (ix hr.u (dv 3)<|Gu di) an)<|ac ds an) an),?_};refine !!!!⟨.inl {_,hS,_,rfl,?_}⟩;rw[zb];refine b9 (λh=>?_) λh=>?_;have h:((rows.length:Nat):Int)=0:=zC h;exact fo<|q1<|List.length_eq_zero_iff.mp (by lia);have h:¬((rows.length:Nat):Int)=0:=zZ h;have h0:0<rows.length:=by lia
 have hl:rows.length-1<rows.length:=by lia
 have e0:=zg h0;have e1:=zg hl;generalize rows[0]=r0 at e0;generalize rows[rows.length-1]=r1 at e1;have w0:=hw r0<|zG e0;have w1:=hw r1<|zG e1;have ea:iW (rows.map ag) (-1)=some (ag r1):=by unfold iW FZ;rw[zb,if_neg<|by decide,if_pos<|by lia,show((-1:Int)+((rows.length:Nat):Int)).toNat=rows.length-1 by lia];show(rows.map ag)[rows.length-1]?=_;rw[zm,e1];rfl
 refine !!!{_,ag r0,hS,bZ (j:=0)<|by rw[zm,e0];rfl,cs,ps,wy,r0,rfl,hg,hp,h8,w0,bR,?_};refine !!!!{_,ag r1,hS,ea,cs,ps,wy,r1,rfl,hg,hp,h8,w1,bR,bR,?_};exact fo<|q2 r0 r1 e0 e1
theorem D7(x:Str)(n:Nat):(PySem.Txt.slice x none<|some (n:Int)).cps.toList=x.cps.toList.take n:=by
 have e1:PySem.Builtin.Str.strSliceIndices none (some (n:Int)) 1 x.length=PySem.Builtin.Str.strSliceIndices (some ((0:Nat):Int)) (some ((min n x.length:Nat):Int)) 1 x.length:=by unfold PySem.Builtin.Str.strSliceIndices;have h1:((1:Int)>0)=True:=(by simp);simp only[h1,if_true];have a1:¬((n:Int)<0):=(by lia);have a2:¬(((min n x.length:Nat):Int)<0):=(by lia);have a3:¬(((0:Nat):Int)<0):=(by lia);simp only[a1,a2,a3,if_false];have b1:max 0 (min ((0:Nat):Int) (x.length:Int))=0:=(by lia);have b2:max 0 (min (n:Int) (x.length:Int))=max 0 (min ((min n x.length:Nat):Int) (x.length:Int)):=(by lia);rw[b1,b2]
 have e2:(PySem.Builtin.Str.strSliceIndices none (some (n:Int)) 1 x.length).filterMap (x.cps[·]?)=x.cps.toList.take n:=by rw[e1,StrLaws.sliced_plain x (zY _)<|Nat.min_le_right _ _,List.drop_zero,Nat.sub_zero];by_cases h:n<=x.length;rw[Nat.min_eq_left h];have hl:x.cps.toList.length=x.length:=yd;rw[Nat.min_eq_right<|by lia,List.take_of_length_le<|by lia,List.take_of_length_le<|by lia]
 unfold PySem.Txt.slice;split;{next h=>simp only[zA,beq_iff_eq]at h;rw[e1,StrLaws.strSliceIndices_plain (zY _)<|Nat.min_le_right _ _,zb,List.length_range]at h;have hl:x.cps.toList.length=x.length:=yd;rw[List.take_of_length_le<|by lia]};rw[e2]
theorem xU(x y:Str):decide (PySem.Txt.slice x none (some ((y.length:Nat):Int))=y)=PySem.Txt.startswith x y:=by unfold PySem.Txt.startswith;rw[StrLaws.subAt_eq,List.drop_zero,Nat.zero_add,yo];simp only[decide_eq_true_iff,zA,beq_iff_eq];have hs:=D7 x y.length;constructor;intro h;rw[h]at hs;have hl:x.cps.toList.length=x.length:=yd;have N3:y.cps.toList.length=y.length:=yd;refine{?_,hs.symm};have:=congrArg List.length hs;rw[yp]at this;lia;rintro⟨_,h⟩;rw[h]at hs;obtain⟨a⟩:=y;generalize hz:PySem.Txt.slice x none _=z at hs⊢;obtain⟨b⟩:=z;exact congrArg Str.mk<|Array.ext' hs
theorem Kv(hg:Gd cs)(hc:c∈cs):((cs.map Prod.fst).map D.str).all jd=true/\(∃z,((cs.map Prod.fst).map D.str)[JY cs c.1]?=some z/\eqV (kh z) (kh<|.str c.1)=true)/\∀m u,m<JY cs c.1->((cs.map Prod.fst).map D.str)[m]?=some u->eqV (kh u) (kh<|.str c.1)=false:=by obtain⟨n1,n2⟩:=xM hg hc;refine{?_,{.str c.1,by rw[zm,n2];rfl,by show(c.1==c.1)=true;simp},?_};rw[List.all_map];exact zR.mpr λ_ _=>rfl;intro m u hm hu;rw[zm]at hu;cases e:(cs.map Prod.fst)[m]? with|none=>(rw[e]at hu;cases hu)|some z'=>rw[e]at hu;cases hu;show(z'==c.1)=false;have:z'≠c.1:=λq=>(by subst q;obtain⟨b1,c1⟩:=ze.mp e;obtain⟨b2,c2⟩:=ze.mp n2;have:=(List.getElem_inj hg.2.1 (h₀:=b1) (h₁:=b2)).mp<|c1.trans c2.symm;lia);simpa using this
noncomputable def Sn:D->D|.tup (x::_)=>x|_=>.au
theorem BF(cs:ww):(cs.map az).map Sn=(cs.map Prod.fst).map D.str:=by rw[zq,zq];rfl
theorem lR(T:Txt w K mg t):∀n,Ok P w base T.gR (3+n) (DR n)
 |0=>by refine T.gR.F.ok (k:=2) eC (by rintro ds S R Z ⟨_,_,_,e,_⟩;rw[e];rfl) (by rintro fV A outer s H E ds S R Z hr ⟨cs,d,r,e,hg,hs,_⟩;exact hs.elim)
 |n+1=>by
  refine T.gR.F.ok (k:=3+n) eC (by rintro ds S R Z ⟨_,_,_,e,_⟩;rw[e];rfl) ?_;rintro fV A outer s H E ds S R Z hr ⟨cs,d,r,e,hg,hs,hw,q⟩;subst e;have n2:=bR;refine{_,(sc (ck (i:=3) eC.nd<|ix hr.u (dv 1) di)<|sc (si (aV aL hr.u (dv 3) ds) (s1<|sr db) s0)<|sc (si (aV aL hr.u (dv 3) ds) (s1<|sr<|cm rN hr.u (ix hr.u (dv 2) di)<|ix hr.u (dv 1) di) s0)<|sc (si (aV aL hr.u (dv 3) ds) (s1<|sr<|QY<|aQ T.gR (lR T n) hr<|ap 0<|ac (ix hr.u (dv 1) di)<|ap 2 an) s0)<|sc (si (aV rN hr.u (dv 3)<|bc<|ac ds<|ac ds an) (sc (qm (N:=["_law_one","_law_columns_here","_law_row"]) (src:=[none,some 0,some 2]) 4 eC.nd (jW r9) (EF<|ix hr.u (dv 1) di) pC<|aQ T.gR (lR T n) hr<|ap 1<|ap 0<|ap 2 an)<|s1<|sr<|wD<|ix hr.u (cK<|ac (cb Of T.OL Iz<|ap 4 an)<|ac (cb kF T.kH gz<|ap 4 an) an)<|ct EC T.A3 rC<|ac (cm aL hr.u (dv 3) ds) an) s0)<|sc (ck (i:=5) eC.nd<|ix hr.u (ix hr.u (dv 2) di)<|bm zM PySem.F.slot_list_index PySem.F.type_list_index rO (TB (N:=["_law_name","_law_kind"]) (src:=[none,none]) (jW r9) (EF<|dv 0) (We<|show(["_law_name","_law_kind"]:j4).Nodup by trivial) (me rfl rfl) mx (λ_ _ _ _ _=>pC) λ_ _ _ _ _=>(dv 0))<|ac (ix hr.u (dv 1) di) an)<|sc (si (twd<|twor (aV aL hr.u (dv 3) ds)<|tw1<|aV ib hr.u (dv 5) dn) (s1<|sr<|uh (cm aL hr.u (dv 3) ds)<|K7<|cm aL hr.u (dv 5)<|ix hr.u (dv 1) di) s0)<|sc (si (aV aL hr.u (dv 3) ds) (s1<|sr<|cm aL hr.u (slx (dv 5) o0<|o1<|cb br T.aY aK<|ac (ix hr.u (dv 1) di) an)<|ix hr.u (dv 1) di) s0)<|s1<|sr<|wD<|ix hr.u (cK<|ac (cm qk hr.u (dv 5)<|ix hr.u (dv 1) di)<|ac (cm rL hr.u (dv 5)<|ix hr.u (dv 1) di) an)<|ct EC T.A3 rC<|ac (cm aL hr.u (dv 3) ds) an),?_};rcases hs with (rfl|⟨ks,rfl,hk8,B5⟩|⟨o,c,v,hc,hv,ho,rfl⟩)|⟨e,rfl,he⟩|⟨o,es,ho,rfl,K_,QP⟩;exact !!!!⟨iG<|fo q⟩;refine !!!!⟨b8 ?_⟩;refine !!⟨iG !!!!{rfl,?_,?_}⟩;rw[List.all_map];exact zR.mpr λ_ _=>rfl;rw[Bp]at q;exact fo q;rw[OY]at q;obtain⟨YM,T7⟩:=j6 hg hw hc;unfold Bo at q;have four:o ="is"\/(o ="below"\/o ="above"\/o ="begins"):=by rcases ho with h|⟨_,h|h|⟨h,_⟩⟩;exact .inl h;exact .inr<|.inl h;exact .inr<|.inr<|.inl h;exact .inr<|.inr<|.inr h
  have kK:decide (o ="every")=false/\decide (o ="key")=false/\decide (o ="not")=false/\wa (.str o) [.str "and",.str "or"]=false:=by rcases four with rfl|rfl|rfl|rfl<;>decide +kernel
  refine !!!!⟨jF kK.1 !!⟨jF kK.2.1 !!⟨jF kK.2.2.1 !{n2,rfl,rfl,_,rfl,jF kK.2.2.2 !!!{_,.inl rfl,?_}}⟩⟩⟩;refine comp_map Sn trivial (by show(cs.map az).length<=1000;rw[zb];have:=hg.1;lia) (λd hd Q hQ=>?_) λp hp=>?_;obtain⟨c,_,rfl⟩:=zh.mp hd;exact !{rfl,_,_,rfl,_,_,rfl,rfl,_,rfl,hQ};rw[show({cs.map az,λ_=>True}:lW).xs=cs.map az from rfl,BF];have sb:=Sub.new (c:=.lst<|(cs.map Prod.fst).map D.str) hp;have iY:(S.set p<|.lst<|(cs.map Prod.fst).map D.str) p=some (.lst<|(cs.map Prod.fst).map D.str):=aa;generalize S.set p (.lst<|(cs.map Prod.fst).map D.str)=S1 at sb iY⊢;have lx:=Kv hg hc;refine{{rfl,_,iY},_,rfl,_,rfl,_,.str c.1,JY cs c.1,rfl,iY,rfl,lx.1,lx.2.1,lx.2.2,_,bZ YM,?_};have fin:∀{b:Bool},R (.bl b) S->Fo S1 (R<|.bl b):=λh=>⟨S,sb,h⟩;rcases ho with rfl|⟨nb,ho⟩;rw[if_pos rfl]at q;exact !!⟨iG !!⟨iG !!!⟨m7 T7.2 hv.2<|fin q⟩⟩⟩;have QT:decide (o ="is")=false:=by rcases ho with rfl|rfl|⟨rfl,_⟩<;>decide +kernel
  rw[if_neg<|zZ QT]at q;refine !!⟨jF QT !!⟨b9 (λh=>?_) λh=>?_⟩⟩;rw[if_pos h]at q;exact !!⟨jF QT<|fin q⟩;rw[if_neg<|by rw[show ah (ai cs r.2 c.1)=false from h];exact zd]at q;rcases ho with rfl|rfl|⟨rfl,hk⟩;rw[if_pos rfl]at q;refine !!⟨b8 ?_⟩;rcases lM T7 hv (aS h) nb with⟨i,j,e6,rfl⟩|⟨i,j,e6,rfl⟩<;>rw[e6]at q⊢<;>exact !!!!!!{n2,λp hp=>!⟨.inr !{_,_,aa,(show iW _ 1=some _ from rfl),_,.new hp,fin q}⟩};rw[if_neg<|by trivial,if_pos rfl]at q;refine !!⟨b8 ?_⟩;rcases lM T7 hv (aS h) nb with⟨i,j,e6,rfl⟩|⟨i,j,e6,rfl⟩<;>rw[e6]at q⊢<;>exact !!!!!!{n2,λp hp=>!⟨.inr !{_,_,aa,(show iW _ 0=some _ from rfl),_,.new hp,fin q}⟩};rw[if_neg<|by trivial,if_neg<|by trivial]at q;have hz:∀z,ai cs r.2 c.1=.str z->z.length<=sizeLine:=λz e=>sm<|(JV T7 (S:=S)).2 z e;have Jg:∀z,v=.str z->z.length<=sizeLine:=λz e=>sm<|(JV hv (S:=S)).2 z e;rw[hk]at T7 hv;obtain⟨i,e6⟩:=qP T7<|aS h;obtain⟨j,rfl⟩:=qP hv nb;have hz:=hz i e6;have Jg:=Jg j rfl;rw[e6]at q⊢;refine !!⟨iG !!!!{Jg,_,rfl,hz,_,rfl,_,rfl,?_}⟩;show Fo S1 (R<|.bl<|decide<|PySem.Txt.slice i none (some ((j.length:Nat):Int))=j);rw[xU];exact fin q;rw[Bq]at q;exact !!!!⟨b8 !!⟨b8 !!⟨iG !!!!{cs,e,r,rfl,hg,he,hw,_,rfl,fo q}⟩⟩⟩;have hz:es.length<=1000:=by lia
  have kK:decide (o ="every")=false/\decide (o ="key")=false/\decide (o ="not")=false/\wa (.str o) [.str "and",.str "or"]=true:=by rcases ho with rfl|rfl<;>decide +kernel
  refine !!!!⟨jF kK.1 !!⟨jF kK.2.1 !!⟨jF kK.2.2.1 !{n2,rfl,rfl,_,rfl,RU kK.2.2.2 !!{_,.inl rfl,?_}}⟩⟩⟩;refine comp_map (λd=>.bl<|aZ cs r n d) trivial hz (λd hd Q hQ=>!!!{cs,d,r,rfl,hg,QP d hd,hw,hQ}) λp hp=>?_;have em:es.map (λd=>D.bl<|aZ cs r n d)=(es.map<|aZ cs r n).map D.bl:=by rw[zq];rfl
  rw[show({es,λ_=>True}:lW).xs=es from rfl,em];have Na:(S.set p<|.lst<|(es.map<|aZ cs r n).map D.bl) p=_:=aa;refine !{.ref p,es.map<|aZ cs r n,rfl,Na,_,rfl,.ref p,es.map<|aZ cs r n,rfl,Na,n2,λp2 eT=>?_};rcases ho with rfl|rfl;rw[Br]at q;refine{_,rfl,.inr !{_,_,aa,(show iW _ 1=some _ from rfl),S,(Sub.new hp).trans<|.new eT,fo ?_}};show R (.bl<|(es.map<|aZ cs r n).all id) S;rw[all_map];exact q;rw[Fe]at q;refine{_,rfl,.inr !{_,_,aa,(show iW _ 0=some _ from rfl),S,(Sub.new hp).trans<|.new eT,fo ?_}};show R (.bl<|(es.map<|aZ cs r n).any id) S;rw[List.any_map];exact q
noncomputable def tV:D->PyData|.int i=>.int i|.str z=>.str z|_=>.none
theorem So(hx:a_ x=true):Dp S x (tV x)/\(tV x).canLay0=true/\(tV x).depth<=0:=by cases x with|au=>exact{by simp only[Dp,tV],by simp only[tV,PyData.canLay0],by simp only[tV,PyData.depth];lia}|int i=>exact{by simp only[Dp,tV],by simp only[tV,PyData.canLay0],by simp only[tV,PyData.depth];lia}|str z=>refine{by simp only[Dp,tV],?_,by simp only[tV,PyData.depth];lia};unfold a_ at hx;simp only[zA]at hx;simp only[tV,PyData.canLay0];exact hx.2|_=>cases hx
theorem qR:∀{xs:v0},(∀x∈xs,a_ x=true)->DpAll S xs (xs.map tV)/\PyData.canLayAll0 (xs.map tV)=true/\PyData.depthAll (xs.map tV)<=0|[],_=>{by simp only[yQ,DpAll],rfl,zY _}|x::xs,h=>by obtain⟨a,b,c⟩:=So (S:=S)<|h x zj;obtain⟨a',b',c'⟩:=qR (S:=S) λy hy=>h y<|zf _ hy;exact{by simp only[zt,DpAll];exact{_,_,rfl,a,a'},by simp only[zt,PyData.canLayAll0,b,b',Bool.and_self],by simp only[zt,PyData.depthAll];lia}
noncomputable def O8(r:Row):PyData:=.tuple [.str r.1,.tuple<|r.2.map tV]
theorem Sr(hw:Wg cs r.2):Dr S (ag r) (O8 r):=by refine .tup<|.cons (.str _)<|.cons (.tup ?_) .nil;have h:=Wg.all hw;generalize r.2=ws at h;induction ws with|nil=>exact .nil|cons v ws ih=>refine .cons ?_<|ih λd hd=>h d<|zf _ hd;have hv:=h v zj;cases v<;>first|exact .au|exact .int _|exact .str _|cases hv
theorem Fw:∀{rows:wS},(∀r∈rows,Wg cs r.2)->Jt S (rows.map ag) (rows.map O8)|[],_=>.nil|r::rows,h=>.cons (Sr<|h r zj)<|Fw λx hx=>h x<|zf _ hx
theorem ND(hw:Wg cs r.2)(hk:r.1∈KS):(O8 r).canLay0=true/\(O8 r).depth<=2:=by obtain⟨_,b,c⟩:=qR (S:=λ_=>none)<|Wg.all hw;have z:=(fL _ hk).2.2;unfold O8;refine{by simp only[PyData.canLay0,PyData.canLayAll0,z,b,Bool.and_self],?_};simp only[PyData.depth,PyData.depthAll];lia
theorem BG:∀{rows:wS},(∀r∈rows,Wg cs r.2)->Ks rows->PyData.canLayAll0 (rows.map O8)=true/\PyData.depthAll (rows.map O8)<=2|[],_,_=>{rfl,zY _}|r::rows,h,k=>by obtain⟨a,b⟩:=ND (h r zj)<|k r zj;obtain⟨a',b'⟩:=BG (λx hx=>h x<|zf _ hx) λx hx=>k x<|zf _ hx;exact{by simp only[zt,PyData.canLayAll0,a,a',Bool.and_self],by simp only[zt,PyData.depthAll];lia}
theorem gq(h:r∈seg A b e):r∈A:=List.mem_of_mem_drop<|List.mem_of_mem_take h
noncomputable def YN(A:wS)(b e:Nat):PyData:=.tuple [.list<|(seg A b e).map O8,.int (b:Nat),.int<|(A.length-e:Nat)]
theorem O9(hw:∀r∈A,Wg cs r.2)(h:S p=some (.lst<|(seg A b e).map ag)):Dr S (B7 p b<|A.length-e) (YN A b e):=.tup<|.cons (.ref h<|Fw λr hr=>hw r<|gq hr)<|.cons (.int _)<|.cons (.int _) .nil
theorem Ss(hw:∀r∈A,Wg cs r.2)(hk:Ks A):(YN A b e).canLay0=true/\(YN A b e).depth<=4:=by obtain⟨a,c⟩:=BG (rows:=seg A b e) (λr hr=>hw r<|gq hr) λr hr=>hk r<|gq hr;unfold YN;refine{by simp only[PyData.canLay0,PyData.canLayAll0,a,Bool.and_self],?_};simp only[PyData.depth,PyData.depthAll];lia
noncomputable def Hg:List D->List D->Bool|[],[]=>true|x::xs,y::ys=>lL x y&&Hg xs ys|_,_=>false
theorem xV:∀{xs ys:v0},(∀x∈xs,a_ x=true)->(∀x∈ys,a_ x=true)->(Hg xs ys=true↔xs=ys)|[],[],_,_=>by simp[Hg]|[],_::_,_,_=>by simp[Hg]|_::_,[],_,_=>by simp[Hg]|x::xs,y::ys,h,k=>by unfold Hg;rw[zA,aR (h x zj)<|k y zj,xV (λz hz=>h z<|zf _ hz) λz hz=>k z<|zf _ hz,List.cons.injEq]
theorem Su(hx:a_ x=true)(hy:a_ y=true):PyData.eqv (tV x) (tV y)=lL x y:=by rcases fc hx with rfl|⟨i,rfl⟩|⟨i,rfl⟩<;>rcases fc hy with rfl|⟨j,rfl⟩|⟨j,rfl⟩<;>simp only[tV,PyData.eqv,lL]<;>first|rfl|exact beq_eq_decide _ _
theorem Fx:∀{xs ys:v0},(∀x∈xs,a_ x=true)->(∀x∈ys,a_ x=true)->PyData.eqvAll (xs.map tV) (ys.map tV)=Hg xs ys|[],[],_,_=>by simp only[yQ,PyData.eqvAll,Hg]|[],y::ys,_,_=>by simp only[yQ,zt,PyData.eqvAll,Hg]|x::xs,[],_,_=>by simp only[yQ,zt,PyData.eqvAll,Hg]|x::xs,y::ys,h,k=>by have a:=Su (h x zj)<|k y zj;have b:=Fx (λz hz=>h z<|zf _ hz) λz hz=>k z<|zf _ hz;simp only[zt,PyData.eqvAll,a,b,Hg]
noncomputable def Lb(xs:v0)(k:Str):PyData:=.tuple [.tuple<|xs.map tV,.str k]
theorem O_(h:∀x∈xs,a_ x=true):Dl S (xQ xs k) (Lb xs k):=by obtain⟨a,_,_⟩:=qR (S:=S) h;simp only[xQ,Lb,Dl,Dp,DpAll];exact !{_,_,rfl,!⟨a⟩,_,_,rfl,rfl,rfl}
theorem D8(h:∀x∈xs,a_ x=true)(hk:k∈KS):(Lb xs k).canLay0=true/\(Lb xs k).depth<=2:=by obtain⟨_,b,c⟩:=qR (S:=λ_=>none) h;have z:=(fL _ hk).2.2;unfold Lb;refine{by simp only[PyData.canLay0,PyData.canLayAll0,z,b,Bool.and_self],?_};simp only[PyData.depth,PyData.depthAll];lia
theorem Sv(hx:∀x∈xs,a_ x=true)(hy:∀x∈ys,a_ x=true):PyData.eqv (Lb xs k) (Lb ys l)=(Hg xs ys&&decide (k=l)):=by have h:=Fx hx hy;simp only[Lb,PyData.eqv,PyData.eqvAll,h,Bool.and_true];congr 1
theorem g8(h:Paired (λk x=>Vg k x) ks xs):∀x∈xs,a_ x=true:=by induction h with|nil=>exact λ_ h=>(nomatch h)|cons r _ ih=>exact List.forall_mem_cons.mpr ⟨r.2,ih⟩
theorem Xi(hx:∀x∈xs,a_ x=true)(hy:∀x∈ys,a_ x=true)(hk:k∈KS)(hl:l∈KS)(q:R (.bl<|Hg xs ys&&decide (k=l)) S):EB false (xQ xs k) (xQ ys l) S R:=by refine{Lb xs k,Lb ys l,O_ hx,O_ hy,(D8 hx hk).1,(D8 hy hl).1,.inl<|by have:=(D8 hx hk).2;lia,?_};rw[if_neg zd,Sv hx hy];exact q
inductive BH(ds:v0)(S:ak)(R:KD)(Z:KX):Prop where
 |mk (ps:wP)(wy:Str)(xs:v0)(k:Str)(ys:v0)(l:Str)(ks:j4)(h0:ds=[bN ps wy,xQ xs k,xQ ys l])(h1:ps.length=xs.length)(h2:ps.length=ys.length)(h3:ps.length<=8)(h4:Paired (λk x=>Vg k x) ks xs)(h5:Paired (λk x=>Vg k x) ks ys)(h6:k∈KS)(h7:l∈KS)
  (h8:R (.bl<|decide<|cD (pX ps wy) (xs++[.str k]) (ys++[.str l])<0) S):BH ds S R Z
inductive Plw(S:ak)(ps:wP)(wy:Str)(xs ys:v0)(k l:Str)(j:Int)(aA:SD)(S':ak):Prop where
 |mk (o3 o4 o5 o6 o7 o8:wn)(h0:aA=[some<|bN ps wy,some<|xQ xs k,some<|xQ ys l,o3,o4,o5,o6,o7,o8])(h1:S'=S)(h2:cD (pX ps wy) (xs++[.str k]) (ys++[.str l])=j):Plw S ps wy xs ys k l j aA S'
theorem Fy:Ok P w base T.w4 1 BH:=by
 obtain⟨ps,wy,xs,k,ys,l,ks,e,h1,h2,h8,vx,vy,hk,hl,q⟩:T.w4.F.bF fi;have eO:(ps.map p3).length=ps.length:=zb _;refine{_,(sc (ql<|Hy (Oo T.f9<|ac (cb br T.aY aK<|ac (bn (dv 0) di) an) an) (gn (i:=3) fi.nd)<|sc (sa (bn (bn (dv 0) di)<|dv 3)<|gt (n:=3)<|gc (gn (i:=4) fi.nd)<|gc (gn (i:=5) fi.nd)<|gc (gn (i:=6) fi.nd) g0)<|sc (RB (i:=7) (j:=8) fi.nd<|ac (bn (bn (dv 1) di)<|dv 3)<|ac (bn (bn (dv 2) di)<|dv 3) an)<|s1<|si (bi k9 (dv 7)<|dv 8) (sc (si (twd<|twor (bi ib (dv 7) dn)<|tw1<|bi ib (dv 8) dn) (s1<|sr<|be aL (be ib (dv 7) dn)<|be aL (dv 6) ds) s0)<|s1<|sr<|be aL (be rL (dv 7)<|dv 8)<|be aL (dv 5) ds) s0)<|sc (si (bi aL (bn (dv 1) di)<|bn (dv 2) di) (s1<|sr db) s0)<|s1<|sr<|be aL (be rL (bn (dv 1) di)<|bn (dv 2) di)<|be aL (bn (dv 0) di) ds),?_};refine{Plw S ps wy xs ys k l<|cV wy "last" (.str k)<|.str l,?_,?_};{refine !!!!{by rw[eO];lia,by rw[eO];lia,?_};refine{λi=>Plw S ps wy xs ys k l<|cD (pX (ps.drop i) wy) (xs.drop i++[.str k])<|ys.drop i++[.str l],{_,_,_,_,_,_,rfl,rfl,rfl},λ_ _ _ _=>trivial,?_,?_};rintro i d aA S' hd ⟨o3,o4,o5,o6,o7,o8,rfl,rfl,he⟩;obtain⟨hi,rfl⟩:=c9 hd;have i1:i<ps.length:=(by rw[eO]at hi;lia);have i2:i<xs.length:=(by lia);have i3:i<ys.length:=(by lia);have e1:=zg i1;have e2:=zg i2;have e3:=zg i3;rw[yj i1,yj i2,yj i3]at he;generalize ps[i]=p at e1 he;generalize xs[i]=y at e2 he;generalize ys[i]=z at e3 he;have he:_=if cV p.2.1 p.2.2 y z=0 then cD (pX (ps.drop<|i+1) wy) (xs.drop (i+1)++[.str k]) (ys.drop (i+1)++[.str l]) else cV p.2.1 p.2.2 y z:=he;obtain⟨k1,q1,v1⟩:=dD vx e2;obtain⟨k2,q2,v2⟩:=dD vy e3;cases q1.symm.trans q2;have ez:(0:Int)+((i:Nat):Int)=((i:Nat):Int):=Int.zero_add _;have a1:iW (ps.map p3) (0+((i:Nat):Int))=some (p3 p):=(by rw[ez];exact bZ<|by rw[zm,e1];rfl);have a2:iW xs (0+((i:Nat):Int))=some y:=(by rw[ez];exact bZ e2);have a3:iW ys (0+((i:Nat):Int))=some z:=(by rw[ez];exact bZ e3);refine !!!{_,a1,_,rfl,rfl,_,_,rfl,_,_,rfl,_,_,rfl,rfl,?_};refine !!!{_,a2,_,rfl,_,rfl,_,rfl,_,a3,_,_,rfl,?_};refine !!⟨m7 v1.2 v2.2 !⟨b9 (λh=>?_) λh=>?_⟩⟩;have h:lL y z=false:=nt h;have kK:y≠z:=λe=>(by rw[(aR v1.2 v2.2).mpr e]at h;cases h);have hc:cV p.2.1 p.2.2 y z≠0:=λe=>kK<|(iM ⟨k1,v1,v2⟩).mp e;rw[if_neg hc]at he;have hq:R (.bl<|cH ("",p.2.1,p.2.2) y z) S':=(by have:decide (cV p.2.1 p.2.2 y z<0)=cH ("",p.2.1,p.2.2) y z:=(by rw[yo,zS,pV ⟨k1,v1,v2⟩];exact{λh=>h.2,λh=>⟨kK,h⟩});rw[he,this]at q;exact q);unfold cH at hq;have two:(ah y||ah z)=(ah y != ah z):=(by cases e4:ah y<;>cases e5:ah z<;>first|rfl|(exfalso;exact kK<|(cZ e4).trans (cZ e5).symm));refine !{ah y,rfl,Kh (ah z) (λh=>!!⟨h⟩) ?_};rw[two];refine b9 (λh5=>?_) λh5=>?_;rw[if_pos h5]at hq;exact !!⟨pU<|fo hq⟩;rw[if_neg<|by rw[h5];exact zd]at hq;rw[<-two,Bool.or_eq_false_iff]at h5;rcases lM v1 v2 (aS h5.1) (aS h5.2) with⟨a,b,rfl,rfl⟩|⟨a,b,rfl,rfl⟩;exact !!!⟨pU<|fo hq⟩;exact !!!⟨pU<|fo hq⟩;have h:lL y z=true:=nf h;rw[if_pos<|(iM ⟨k1,v1,v2⟩).mpr<|(aR v1.2 v2.2).mp h]at he;exact{_,_,_,_,_,_,rfl,rfl,he};{rintro aA S' ⟨o3,o4,o5,o6,o7,o8,rfl,rfl,he⟩;have he:_=cD (pX (ps.drop (dS 0 (((ps.map p3).length:Nat):Int).toNat).length) wy) (xs.drop (dS 0 (((ps.map p3).length:Nat):Int).toNat).length++[.str k]) (ys.drop (dS 0 (((ps.map p3).length:Nat):Int).toNat).length++[.str l]):=he;rw[cE,eO,show((ps.length:Nat):Int).toNat=ps.length by lia,List.drop_length,h1,List.drop_length,<-h1,h2,List.drop_length]at he;refine fo {_,_,_,_,_,_,rfl,rfl,he.trans ?_};show(if cV wy "last" (.str k) (.str l)=0 then 0 else cV wy "last" (.str k) (.str l))=_;split;{next h=>exact h.symm};rfl}};rintro aA S' ⟨o3,o4,o5,o6,o7,o8,rfl,rfl,he⟩;rw[he]at q;have cm:Cm (.str k) (.str l):={_,kO k hk,kO l hl};refine !!!!!⟨b9 (λh=>?_) λh=>?_⟩;have h:k=l:=zC h;rw[(iM cm).mpr<|by rw[h]]at q;exact fo q;have h:¬k=l:=zZ h;have kK:D.str k≠.str l:=λe=>h<|D.str.inj e;have e9:decide (cV wy "last" (.str k) (.str l)<0)=(nK k l==decide (wy ="up")):=by rw[yo,zS,pV cm];exact{λh=>h.2,λh=>⟨kK,h⟩}
 rw[e9]at q;exact !!!!!!⟨pU<|fo q⟩
inductive vT(ds:v0)(S:ak)(R:KD)(Z:KX):Prop where
 |mk (cs ps wy r)(h0:ds=[.tup<|cs.map az,bN ps wy,ag r])(h1:Gd cs)(h2:Pin cs ps)(h3:ps.length<=8)(h4:Wg cs r.2)(h5:R (xQ (ps.map λp=>ai cs r.2 p.1) r.1) S)
theorem nA:Ok P w base T.jZ 1 vT:=by
 obtain⟨cs,ps,wy,r,e,hg,hp,h8,hw,q⟩:T.jZ.F.bF sF;refine{_,(sc (ck (i:=3) sF.nd<|TB (N:=["_law_name","_law_kind"]) (src:=[none,none]) (jW vi) (EF<|dv 0) (We<|show(["_law_name","_law_kind"]:j4).Nodup by trivial) (me rfl rfl) mx (λ_ _ _ _ _=>pC) λ_ _ _ _ _=>(dv 0))<|s1<|sr<|bc<|ac (ct eV T.bC aX<|ac (wK (N:=["_law_part","_law_row","_law_names"]) (src:=[none,some 2,some 3]) (jW vi) (EF<|bn (dv 1) di) pC<|bn (bn (dv 1) di)<|bm zM PySem.F.slot_list_index PySem.F.type_list_index rO (dv 2)<|ac (bn (dv 0) di) an) an)<|ac (bn (dv 2) di) an),?_};refine !{_,.inl rfl,?_};refine comp_map Sn trivial (by show(cs.map az).length<=1000;rw[zb];have:=hg.1;lia) (λd hd Q hQ=>?_) λpn j5=>?_;obtain⟨c,_,rfl⟩:=zh.mp hd;exact !{rfl,_,_,rfl,_,_,rfl,rfl,_,rfl,hQ};rw[show({cs.map az,λ_=>True}:lW).xs=cs.map az from rfl,BF];have sb:=Sub.new (c:=.lst<|(cs.map Prod.fst).map D.str) j5;have iY:(S.set pn<|.lst<|(cs.map Prod.fst).map D.str) pn=some (.lst<|(cs.map Prod.fst).map D.str):=aa;generalize S.set pn (.lst<|(cs.map Prod.fst).map D.str)=S1 at sb iY⊢;refine !!{_,.inl rfl,?_};refine comp_map (λd=>match d with|.tup (.str z::_)=>ai cs r.2 z|_=>.au) trivial (by show(ps.map p3).length<=_;rw[zb];lia) (λd hd Q hQ=>?_) λp2 eT=>?_;obtain⟨pt,hpt,rfl⟩:=zh.mp hd;obtain⟨c,hc,ec⟩:=hp pt hpt;have lx:=Kv hg hc;have YM:=(j6 hg hw hc).1;rw[ec]at lx YM;exact !!!⟨{rfl,_,iY},_,rfl,_,rfl,_,.str pt.1,JY cs pt.1,rfl,iY,rfl,lx.1,lx.2.1,lx.2.2,_,bZ YM,hQ⟩;have e3:(ps.map p3).map (λd=>match d with|.tup (.str z::_)=>ai cs r.2 z|_=>.au)=ps.map λp=>ai cs r.2 p.1:=by rw[zq];rfl
 rw[show({ps.map p3,λ_=>True}:lW).xs=ps.map p3 from rfl,e3];exact{_,_,rfl,.inl aa,_,rfl,_,rfl,bR,S,sb.trans<|.new eT,q}
noncomputable def Sw(x:Int):sB:=[1,2,3,1+x/6%9,1000,13+x/6%30]
noncomputable def HG(x:Int):Nat:=((Sw x).getD (x%6).toNat 1).toNat
theorem Kw(h:y∈Sw x):1<=y/\y<=1000:=by have a0:0<=x/6%9:=zO _ (by decide);have a1:x/6%9<9:=zL _ (by decide);have b0:0<=x/6%30:=zO _ (by decide);have b1:x/6%30<30:=zL _ (by decide);unfold Sw at h;simp only[zi,zH,or_false]at h;rcases h with h|h|h|h|h|h<;>lia
theorem Kx(x:Int):1<=HG x/\HG x<=1000:=by
 have h:(x%6).toNat<(Sw x).length:=by have:=zO x (show(6:Int)≠0 by decide);have:=zL x (show(0:Int)<6 by decide);show _<6;lia
 have:=Kw<|List.getElem_mem h;unfold HG;rw[zB,zg h];show 1<=((Sw x)[(x%6).toNat]).toNat/\((Sw x)[(x%6).toNat]).toNat<=1000;lia
inductive BI(ds:v0)(S:ak)(R:KD)(Z:KX):Prop where
 |mk (x:Int)(h0:ds=[.int x])(h1:R (.int (HG x:Nat)) S)
theorem qS:Ok P w base T.oz 1 BI:=by
 obtain⟨x,e,q⟩:T.oz.F.bF GV;refine{_,(s1<|sr<|wD<|bn (cK<|ac di<|ac di<|ac di<|ac (bd bw di<|bd bq (bd bU (dv 0) di) di)<|ac di<|ac (bd bw di<|bd bq (bd bU (dv 0) di) di) an)<|bd bq (dv 0) di),?_};refine{_,rfl,{by decide,by trivial},by decide,_,rfl,{by decide,by trivial},by decide,abr,λp hp=>!{by decide,?_}};obtain⟨v,e1,e2⟩:=mf (l:=(Sw x).map D.int) (i:=x%6) (zO _<|by decide)<|zL _ (by decide);refine{_,v,aa,e1,S,.new hp,?_};rw[zm]at e2;obtain⟨y,ey,rfl⟩:=Option.map_eq_some_iff.mp e2;have hy:=Kw<|zG ey;have e3:((HG x:Nat):Int)=y:=by unfold HG;rw[zB,ey];show((y.toNat:Nat):Int)=y;lia
 rw[e3]at q;exact fo q
theorem Fz(hg:Gd cs)(hp:Pin cs ps):∀{B:wS},Rg cs B->∃A:wS,A.Perm B/\A.Pairwise λa b=>bM cs wy ps a b=true|[],_=>{[],.refl _,.nil}|x::B,hr=>by obtain⟨A,pm,pw⟩:=Fz hg hp<|hr.sub<|List.sublist_cons_self x B;have dO:Rg cs (x::A):=hr.perm<|pm.cons x;exact{_,(J3 x A _).trans<|List.perm_append_comm.trans<|pm.cons x,Bu hg hp dO pw}
theorem NF(hg:Gd cs)(hp:Pin cs ps)(hr:Rg cs rows)(hk:Ks rows):∃A,Fu cs ps wy 7 d rows A:=by obtain⟨A,pm,pw⟩:=Fz hg hp<|hr.sub yJ;exact{A,Kt hr hk pm pw}
theorem Ky(h:xs.length=10):(cq xs (some 2) none).length=8:=by unfold cq;rw[yp,List.length_drop,show HT.sIx xs.length 0 (some 2)=min 2 xs.length from HT.sIx_nat ..,show HT.sIx xs.length xs.length none=xs.length from rfl,h];rfl
inductive BJ(ds:v0)(S:ak)(R:KD)(Z:KX):Prop where
 |mk (cs:ww)(lk:Addr)(kn:Kn)(c:Int)(h0:ds=[.tup<|cs.map az,.ref lk,.int c])(h1:Gd cs)(h2:S lk=some (.cj<|hG kn))(h3:KI cs kn)(h4:∀d oQ,GD KS cs kn d->KnD kn d oQ->KI cs oQ->R d (S.set lk<|.cj<|hG oQ))
theorem BK:Ok P w base T.w6 3 BJ:=by
 obtain⟨cs,lk,kn,c0,e,hg,hk,hI,q⟩:T.w6.F.bF gT;have W_:=hg.1;have hkl:=hI.len;refine{_,(sc (ck (i:=3) gT.nd<|aQ T.iq (jG T) hr<|ap 2<|ac di an)<|sc (ck (i:=4) gT.nd<|aQ T.EW (JP T) hr<|ac (bn (dv 3) di) an)<|sc (ck (i:=5) gT.nd<|aQ T.sy (G6 T) hr<|ap 0<|ac (MY (dv 3) (o1 di) o0) an)<|sc (si (twd<|twand (bi rN (dv 4)<|dv 1)<|tw1<|bi aL (bd bq (bn (dv 3) di) di) di) (sc (se<|mp1 (dv 1)<|dv 4)<|s1<|sr<|bc<|ac ds<|ap 4 an) s0)<|sc (ck (i:=6) gT.nd<|wD<|bn (cK<|ac ds<|ac ds an)<|ct EC T.A3 rC<|ac (be rN (dv 4)<|dv 1) an)<|sc (sd hr.u (dv 1) (dv 4)<|dv 5)<|s1<|sr<|bc<|ap 6<|ap 4<|ap 5 an),?_};refine !{c0,10,rfl,by decide,λxs lx HD hx Aq=>?_};have s1:=Sub.new (c:=.lst<|xs.map D.int) Aq;have hX:(S.set lx<|.lst<|xs.map D.int) lx=some (.lst<|xs.map D.int):=aa;generalize S.set lx (.lst<|xs.map D.int)=S1 at s1 hX⊢;have at_:∀k:Nat,k<10->∃x:Int,iW (xs.map D.int) ((k:Nat):Int)=some (.int x)/\0<=x:=λk hk=>mX (by lia) (by rw[zb];lia) hx;obtain⟨x0,e0,_⟩:=at_ 0 (by decide);obtain⟨x1,e1,_⟩:=at_ 1 (by decide);refine !{_,_,hX,e0,x0,rfl,λz hz=>?_};refine !!!{_,hX,λp2 eT=>{cs,p2,cq xs (some 2) none,rfl,hg,by rw[jK];exact aa,by rw[Ky HD];lia,λws hw=>?_}};have s2:=s1.trans<|Sub.new (c:=.lst<|cq (xs.map D.int) (some 2) none) eT;have E_:=(Sub.new (c:=.lst<|cq (xs.map D.int) (some 2) none) eT) _ _ hX;generalize S1.set p2 (.lst<|cq (xs.map D.int) (some 2) none)=S2 at s2 E_⊢;have dw:=s2 _ _ hk;have isS:(cn (hG kn)<|.inr z).isSome=(iU kn z).isSome:=by rw[sS];cases iU kn z<;>rfl
 have hl:(hG kn).length<sizeLine:=bg (by unfold hG;rw[zb];lia);have n2:=bR;have n3:=mP;have fin:∀{d:D}{oQ:Kn},GD KS cs kn d->KnD kn d oQ->KI cs oQ->Fo (S2.set lk<|.cj<|hG oQ) (R d):=λh1 h2 h3=>{_,bD s2,q _ _ h1 h2 h3};refine !!⟨.inr {hG kn,.inr z,dw,rfl,_,rfl,b9 (λh=>?_) λh=>?_}⟩;have h:(cn (hG kn)<|.inr z).isSome=true:=h;have Pa:(iU kn z).isSome=true:=isS ▸ h;obtain⟨vs,hvs⟩:=Option.isSome_iff_exists.mp Pa;refine !{_,_,E_,e1,by decide,_,rfl,b9 (λ_=>?_) λ_=>?_};refine !{lk,hG kn,rfl,dw,_,rfl,hG kn,.inr z,.tup vs,dw,rfl,by rw[sS,hvs];rfl,?_};rw[R5];exact !{n2,fin (.inr<|.inr ⟨z,hz,Pa,rfl⟩) (.inr ⟨z,Pa,rfl,rfl⟩)<|hI.del z};refine{n2,λp hp=>!!⟨.inr {hG kn,.inr z,(Sub.new hp) _ _ dw,rfl,?_}⟩};rw[h];refine .inr !{_,_,aa,(show iW _ 1=some _ from rfl),S2,.new hp,?_};refine !!!{lk,hG kn,.inr z,rfl,dw,rfl,hl,?_};rw[JR];exact !!!{n3,fin (.inr<|.inl ⟨z,ws,hz,hw,Pa,rfl⟩) (.inl {_,z,ws,.inr rfl,rfl,rfl})<|hI.put hz hw};have h:(cn (hG kn)<|.inr z).isSome=false:=h;have QT:iU kn z=none:=by cases e:iU kn z with|none=>rfl|some _=>rw[isS,e]at h;cases h
 refine aW {n2,λp hp=>!!⟨.inr {hG kn,.inr z,(Sub.new hp) _ _ dw,rfl,?_}⟩};rw[h];refine .inr !{_,_,aa,(show iW _ 0=some _ from rfl),S2,.new hp,?_};refine !!!{lk,hG kn,.inr z,rfl,dw,rfl,hl,?_};rw[JR];exact !!!{n3,fin (.inl ⟨z,ws,hz,hw,QT,rfl⟩) (.inl {_,z,ws,.inl rfl,rfl,rfl})<|hI.put hz hw}
inductive BL(ds:v0)(S:ak)(R:KD)(Z:KX):Prop where
 |mk (cs:ww)(lk:Addr)(kn:Kn)(h0:ds=[.ref lk])(h1:S lk=some (.cj<|hG kn))(h2:KI cs kn)(h3:∀ss p,ss.Perm (kn.map (·.1))->PyProof.Rows.sortedS ss=true->S p=none->R (.ref p) (S.set p<|.lst<|(dR kn ss).map ag))
theorem tq:Ok P w base T.sA 1 BL:=by
 obtain⟨cs,lk,kn,e,hk,hI,q⟩:T.sA.F.bF GU;have hkl:=hI.len;refine{_,(s1<|sr<|wK (N:=["_law_key_here","_law_standing"]) (src:=[none,some 0]) (jW JA) (il<|cb AI T.gO fe<|ap 0 an) pC<|bc<|ap 0<|ac (bn (dv 1)<|dv 0) an),?_};refine !{lk,hG kn,kn.map (·.1),rfl,hk,by unfold hG;rw[zq,zq];rfl,by unfold hG;rw[zb];lia,λss hp hs p j5=>?_};have hlen:ss.length<=60:=by rw[hp.length_eq,zb];exact hkl
 refine{_,aa,?_};refine comp_map (λd=>match d with|.str z=>.tup [.str z,uF kn z]|_=>.au) aa (by show(ss.map D.str).length<=1000;rw[zb];lia) (λd hd Q hQ=>?_) λp2 eT=>?_;obtain⟨z,hz,rfl⟩:=zh.mp hd;obtain⟨ws,BB⟩:=jH<|hp.mem_iff.mp hz;have hQ:Q (.tup [.str z,uF kn z]) (S.set p<|.lst<|ss.map D.str):=hQ;have e1:cn (hG kn) (.inr z)=some (uF kn z):=by rw[sS];unfold uF;rw[BB];rfl
 exact !!!{hG kn,_,(Sub.new j5) _ _ hk,e1,bR,hQ};have em:(ss.map D.str).map (λd=>match d with|.str z=>D.tup [.str z,uF kn z]|_=>.au)=(dR kn ss).map ag:=by rw[vN hp,zq];rfl
 rw[show({ss.map D.str,λS=>u4 S (.ref p)<|ss.map D.str}:lW).xs=ss.map D.str from rfl,em];exact{_,bD<|.new j5,q ss p2 hp hs<|bz (.new j5) eT}
structure Xj(t:eJ)(ds:v0)(S:ak)(R:KD)(Z:KX):Prop where
 of:OW t ds S R Z
noncomputable def Fs(lk lm:Addr)(kn:Kn)(ce:v0):List (Addr×Ce):=[(lk,.cj<|hG kn),(lm,.lst ce)]
structure Bt(t:eJ)(S0:ak)(a lk lm:Addr)(cs:ww)(kn:Kn)(ce:v0)(F:im)(dl:v0)(rs:mU)(S:ak):Prop where
 st:St t S0 a (Fs lk lm kn ce) F cs dl rs S
 ki:KI cs kn
 ri:RI rs dl.length kn
 le:dl.length<=99
inductive Bv(S:ak)(cs:ww)(l a lk lm:Addr)(aA:SD)(S':ak):Prop where
 |mk (lx:Addr)(ys:sB)(o6:wn)(h0:aA=[some<|.tup<|cs.map az,some<|.ref l,some<|.ref a,some<|.ref lk,some<|.ref lm,some<|.ref lx,o6])(h1:Sub S S')(h2:S' lx=some (.lst<|ys.map D.int))(h3:ys.length<=59):Bv S cs l a lk lm aA S'
inductive Bw(t:eJ)(S:ak)(cs:ww)(l a lk lm lx lz:Addr)(zs:sB)(i:Nat)(aA:SD)(S':ak):Prop where
 |mk (kn:Kn)(ce:v0)(F:im)(dl:v0)(rs:mU)(o6:wn)(h0:aA=[some<|.tup<|cs.map az,some<|.ref l,some<|.ref a,some<|.ref lk,some<|.ref lm,some<|.ref lx,o6])(h1:dl.length=i)(h2:St t S a ((lz,.lst<|zs.map D.int)::Fs lk lm kn ce) F cs dl rs S')(h3:KI cs kn)(h4:RI rs dl.length kn)(h5:ce.length=dl.length+1):Bw t S cs l a lk lm lx lz zs i aA S'
inductive vU(t:eJ)(ds:v0)(S:ak)(R:KD)(Z:KX):Prop where
 |mk (cs:ww)(l:Addr)(ms:sB)(h0:ds=[.tup<|cs.map az,.ref l])(h1:Gd cs)(h2:S l=some (.lst<|ms.map D.int))(h3:ms.length<=40)(h4:∀S' a lk lm kn ce F dl rs,Bt t S a lk lm cs kn ce F dl rs S'->R (.tup [.ref a,.ref lm,.ref lk]) S')
theorem Kz:Ok P w base T.w9 8 (vU t):=by
 have tw:Ok P w base T.oy 7 (Xj t):=(Fc T).Q8 λds S R Z h=>h.of;obtain⟨cs,l,ms,e,hg,hl,h30,q⟩:T.w9.F.bF cQ;refine{_,(sc (ck (i:=2) cQ.nd<|mk T.JI (Nd T) (hr.mono<|by decide) T.JH T.fG.b d0<|ap 0 an)<|sc (ck (i:=3) cQ.nd VC)<|sc (ck (i:=4) cQ.nd<|cK<|ac (cK an) an)<|sc (ck (i:=5) cQ.nd<|cK an)<|sc (ql<|Hy (il<|MY (dv 1) o0<|o1 di) (gn (i:=6) cQ.nd)<|s1<|si (bi aL (bd bq (dv 6) di) di) (s1<|qm (N:=["_law_k","_law_cell"]) (src:=[none,some 6]) 5 cQ.nd (jW GL) (Oo T.f9<|ac (bd bw di<|bd bq (bd bU (dv 6) di) di) an) pC<|bd bw (bd bU (dv 1) di)<|bd rK di<|dv 0) s0)<|sc (ql<|Hy (il<|bd bw (dv 5)<|dv 1) (gn (i:=6) cQ.nd)<|sc (se<|aQ T.oy tw hr<|ap 2<|ac (aQ T.w6 (BK T) hr<|ap 0<|ap 3<|ap 6 an) an)<|s1<|se<|bm zM z0 ya cL (dv 4)<|ac (aQ T.sA (tq T) hr<|ap 3 an) an)<|s1<|sr<|bc<|ap 2<|ap 4<|ap 3 an),?_};refine{_,rfl,λa ha=>{a,cs,rfl,hg,aa,λS1 F1 Bb WX=>{rfl,?_}}};have abV:YL S F1 S1:=λb c hb=>by have h2:b≠a:=fk hb ha;exact WX b c (λm=>h2<|zK.mp m)<|(ae h2).trans hb
 have Xk:St t S a [] F1 cs [] [] S1:={Bb,λ_ h=>(nomatch h),.nil,abV};refine λlk Wn=>?_;have Ld:=Xk.new Wn<|.cj [];generalize S1.set lk (.cj [])=SA at Ld⊢;refine{uA,λq0 hq0=>{M8,λlm hlm=>?_}};have Cb:=(Ld.sub<|.new (c:=.lst []) hq0).new hlm<|.lst [.ref q0];generalize (SA.set q0<|.lst []).set lm (.lst [.ref q0])=SB at Cb⊢;have y1:St t S a (Fs lk lm [] [.ref q0]) F1 cs [] [] SB:=Cb;refine{uA,λle hle=>?_};have sb0:=Sub.new (c:=.lst []) hle;have Xl:(SB.set le<|.lst []) le=some (.lst []):=aa;have HC:=sb0 _ _<|y1.HE.sub _ _ hl;generalize SB.set le (.lst [])=SC at sb0 Xl HC⊢;refine{Bv SC cs l a lk lm,?_,?_};refine !!{_,HC,λp1 iY=>{_,aa,?_}};have Sb:=Sub.new (c:=.lst<|cq (ms.map D.int) none<|some 1) iY;have NG:(SC.set p1<|.lst<|cq (ms.map D.int) none<|some 1) p1=some (.lst<|cq (ms.map D.int) none<|some 1):=aa;generalize SC.set p1 (.lst<|cq (ms.map D.int) none<|some 1)=SD at Sb NG⊢;rw[jK]at NG⊢;generalize cq ms none (some 1)=m1 at NG⊢;refine{λ_=>Bv SD cs l a lk lm,{le,[],none,rfl,.refl _,Sb _ _ Xl,zY _},?_,?_,?_};rintro i aA S' ⟨_,_,_,_,sb,_⟩;exact sb _ _ NG;rintro i d aA S' hd ⟨lx,ys,o6,rfl,sb,hx,hy⟩;have hd:(m1.map D.int)[i]?=some d:=hd;obtain⟨c,_,rfl⟩:=zh.mp<|zG hd;refine !{by decide,_,rfl,b9 (λ_=>?_) λ_=>{lx,ys,_,rfl,sb,hx,hy}};have b0:0<=c/8%40:=zO _ (by decide);have b1:c/8%40<40:=zL _ (by decide);refine{_,rfl,{by decide,by trivial},by decide,_,rfl,by lia,by lia,?_};refine jz (λ_ v=>∃x:Int,v=.int x) trivial (by show(dS 0 _).length<=_;rw[cE];lia) (λd hd Q hQ=>?_) λout wG p j5=>?_;obtain⟨j,hj⟩:=yE hd;obtain⟨_,rfl⟩:=c9 hj;exact{_,rfl,{by decide,by trivial},_,rfl,.inl<|by decide,hQ _ {_,rfl}};have hlen:=yX wG;have:∀{L out:v0},Paired (λ_ v=>∃x:Int,v=D.int x) L out->∃xs:sB,out=xs.map D.int:=λ{L out} h=>by induction h with|nil=>exact{[],rfl}|cons r _ ih=>obtain⟨x,rfl⟩:=r;obtain⟨xs,rfl⟩:=ih;exact{x::xs,rfl}
 obtain⟨zs,rfl⟩:=this wG;rw[zb]at hlen;have hlen:(dS 0 (20+c/8%40).toNat).length=zs.length:=hlen;rw[cE]at hlen;exact{p,zs,_,rfl,sb.trans<|.new j5,aa,by lia};rintro aA S' ⟨lx,ys,o6,rfl,sb,r1,r2⟩;exact fo {lx,ys,o6,rfl,Sb.trans sb,r1,r2};rintro aA S2 ⟨lx,ys,o6,rfl,K6,hx,hy⟩;have Sy:=(y1.sub sb0).sub K6;refine{λaA S'=>∃(kn:Kn)(ce:v0)(F:im)(dl:v0)(rs:mU)(o6:wn),aA=[some<|.tup<|cs.map az,some<|.ref l,some<|.ref a,some<|.ref lk,some<|.ref lm,some<|.ref lx,o6]/\Bt t S a lk lm cs kn ce F dl rs S',?_,?_};refine !!{_,_,hx,K6 _ _ HC,sm<|by rw[zb,zb];lia,λlz hlz=>{_,aa,?_}};rw[<-zN];have hzl:(ys++ms).length<=99:=by rw[zE];lia
 generalize ys++ms=zs at hzl⊢;have FN:St t S a ((lz,.lst<|zs.map D.int)::Fs lk lm [] [.ref q0]) F1 cs [] [] (S2.set lz<|.lst<|zs.map D.int):=(Sy.new hlz _).perm (List.perm_append_singleton _ _).symm;generalize S2.set lz (.lst<|zs.map D.int)=S3 at FN⊢;refine{Bw t S cs l a lk lm lx lz zs,?_,?_,?_,?_};exact{[],[.ref q0],F1,[],[],_,rfl,rfl,FN,KI.nil cs,RI.nil,rfl};rintro i aA S' ⟨_,_,_,_,_,_,_,_,st,_⟩;exact st.at 0 rfl;rintro i d aA S' hd ⟨kn,ce,F,dl,rs,o6,rfl,Gq,st,hI,hR,hH⟩;have hd:(zs.map D.int)[i]?=some d:=hd;have hi:=(ze.mp hd).1;rw[zb]at hi;obtain⟨c,_,rfl⟩:=zh.mp<|zG hd;refine !!!!{cs,lk,kn,c,rfl,hg,st.at 1 rfl,hI,λde oQ hde W2 YO=>?_};have T9:St t S a ((lz,.lst<|zs.map D.int)::Fs lk lm oQ ce) F cs dl rs _:=st.put 1 rfl<|.cj<|hG oQ;generalize S'.set lk (.cj<|hG oQ)=S6 at T9⊢;refine⟨(vP T9.sh hg hI hR (by lia) hde W2 λS7 F7 rs7 hS7 hK7 hR7=>?_).of⟩;have st7:=T9.Xb hS7 hK7;have hM:=st7.at 2 rfl;have Ap:ce.length<sizeLine:=bg (by lia);refine{_,rfl,{rfl,_,hM},_,rfl,cs,lk,oQ,rfl,st7.at 1 rfl,YO,λss p hp ho j5=>?_};refine{lm,_,_,rfl,rfl,(Sub.new j5) _ _ hM,Ap,?_};have st8:=(st7.sub<|.new (c:=.lst<|(dR oQ ss).map ag) j5).put 2 rfl<|.lst<|ce++[.ref p];exact{oQ,ce++[D.ref p],F7,dl++[de],rs7,_,rfl,by rw[zE,Gq];rfl,st8,YO,by rw[zE];exact hR7,by rw[zE,zE,hH];rfl};rintro aA S' ⟨kn,ce,F,dl,rs,o6,rfl,Gq,st,hI,hR,hH⟩;have Gq:dl.length=(zs.map D.int).length:=Gq;rw[zb]at Gq;exact fo {kn,ce,F,dl,rs,o6,rfl,st.less (yi.mp st.nd).2 λx hx=>zf _ hx,hI,hR,by lia};rintro aA S' ⟨kn,ce,F,dl,rs,o6,rfl,hb⟩;exact !!!{mP,fo<|q _ _ _ _ _ _ _ _ _ hb}
theorem tD{cs:ww}{ps:wP}{g:vQ}(h:Gp cs ps g){S:ak} : Ly S 3 (oY g):=by
 have hs:PyData.strOk g.2.2=true:=by have:=h.side;unfold vR at this;rw[yR]at this;rcases this with q|q<;>rw[zC q]<;>decide +kernel
 refine Ly.tup λx hx=>?_;simp only[zi,zH,or_false]at hx;rcases hx with rfl|rfl;refine Ly.tup λx hx=>?_;simp only[zi,zH,or_false]at hx;rcases hx with rfl|rfl;refine Ly.tup λx hx=>?_;obtain⟨i,ei⟩:=yE hx;obtain⟨k,_,hv⟩:=dD h.pv ei;exact Ly.plain hv.2;exact(Ly.str (fL _ h.key).2.2).le (by decide);exact(Ly.str hs).le<|by decide
theorem Xm{S:ak}{ds:v0}{z:Str}{R:KD}(h:Ly S 3<|.tup ds)(hz:PyData.strOk z=true)(q:R (.bl false) S):EB false (.tup ds) (.str z) S R:=by obtain⟨p,a,b,c⟩:=h;simp only[Dp]at a;obtain⟨ps,rfl,k⟩:=a;refine{.tuple ps,.str z,by simp only[Dl,Dp];exact⟨ps,rfl,k⟩,by simp only[Dl,Dp],b,by simp only[PyData.canLay0];exact hz,.inl<|by lia,?_};rw[if_neg zd,show PyData.eqv (.tuple ps) (.str z)=false by simp only[PyData.eqv]];exact q
theorem FA{S:ak}{σ:SD}{ds:v0}{z:Str}{R:KD}{Z:KX}(h:Ly S 3<|.tup ds)(hz:PyData.strOk z=true)(q:R (.bl false) S):dC (.str z) σ S (λy S2=>EB false (.tup ds) y S2 R) Z:=Xm h hz q
set_option genInjectivity true in
set_option genSizeOfSpec true in
inductive Sd where
 |s
 |e
 |g (g:vQ)
noncomputable def nB:Sd->D|.s=>.str "start"|.e=>.str "end"|.g g=>oY g
noncomputable def kx(cs:ww)(ps:wP)(wy:Str)(A:wS):Sd->Nat|.s=>0|.e=>A.length|.g g=>A.countP<|gP cs ps wy g
def lS(cs:ww)(ps:wP):Sd->Prop|.g g=>Gp cs ps g|_=>True
theorem oZ:∀s,kx cs ps wy A s<=A.length|.s=>zY _|.e=>zr _|.g _=>List.countP_le_length
structure Wk where
 (w a:Addr)
 ps:List Part
 wy:Str
 d:D
 n:Nat
 (f h:Sd)
noncomputable def nL(C:Addr)(q:Wk):Ce:=.ins C [("shelf",.ref q.a),("order",bN q.ps q.wy),("sieve",q.d),("size",.int (q.n:Nat)),("fore",nB q.f),("hinder",nB q.h)]
noncomputable def BM(cs:ww)(ps:wP)(rows:wS)(s:Sd):Sd×Sd:=match rows[0]?,rows[rows.length-1]? with|some r0,some r1=>(.g<|Xh cs ps "ahead" r0,.g<|Xh cs ps "behind" r1)|_,_=>(s,s)
noncomputable def KA(cs:ww)(ps:wP)(wy:Str)(A:wS)(s:Sd)(n:Nat):Nat×Nat:=(kx cs ps wy A s,HF A (kx cs ps wy A s) n)
noncomputable def Le(cs:ww)(ps:wP)(wy:Str)(A:wS)(s:Sd)(n:Nat):Nat×Nat:=(kx cs ps wy A s-n,kx cs ps wy A s)
inductive kR(ds:v0)(S:ak)(R:KD)(Z:KX):Prop where
 |mk (cs:ww)(ps:wP)(wy:Str)(p:Addr)(rows:wS)(b c:Nat)(s:Sd)(h0:ds=[.tup<|cs.map az,bN ps wy,B7 p b c,nB s])(h1:Gd cs)(h2:Pin cs ps)(h3:ps.length<=8)(h4:S p=some (.lst<|rows.map ag))(h5:∀r∈rows,Wg cs r.2)(h6:R (.tup [nB (BM cs ps rows s).1,nB (BM cs ps rows s).2]) S)
theorem tH:Ok P w base T.ju 5 kR:=by obtain⟨cs,ps,wy,p,rows,b,c,s,e,hg,hp,h8,hS,hw,q⟩:T.ju.F.bF jw;refine{_,(sc (ck (i:=4) jw.nd<|aQ T.wY (D6 T) hr<|ap 0<|ap 1<|ap 2 an)<|s1<|sr<|VB (bi ib (dv 4) dn) (bc<|ap 3<|ap 3 an)<|dv 4),?_};refine !!!{cs,ps,wy,p,rows,b,c,rfl,hg,hp,h8,hS,hw,λz=>?_,λr0 r1 q0 q1=>?_};subst z;exact !!⟨eU !!{bR,fo q}⟩;unfold BM at q;rw[q0,q1]at q;exact !!⟨aW !⟨fo q⟩⟩
inductive pZ(t:eJ)(ds:v0)(S:ak)(R:KD)(Z:KX):Prop where
 |mk (k a:Addr)(cs:ww)(ps:wP)(wy:Str)(d:D)(n:Nat)(F:im)(dl:v0)(rs:mU)(h0:ds=[.ref k,.ref a,bN ps wy,d,.int (n:Nat)])(h1:Gd cs)(h2:Og cs ps wy)(h3:Sq cs d)(h4:1<=n)(h5:n<=1000)(h6:bY t.ar S a F cs dl rs)(h7:S k=some (.ins t.aC []))(h8:R .au<|S.set k<|nL t.aC {k,a,ps,wy,d,n,.s,.s})
theorem KC:lY P w mg base T.gD 7 (pZ t):=by obtain⟨k,a,cs,ps,wy,d,n,F,dl,rs,e,hg,ho,hd,h1,h2,hS,hk,q⟩:T.gD.F.bF oH;obtain⟨ld,lr,ra,h,_⟩:=id hS;refine{_,(sc (se<|aQ T.jq (sU T) hr<|ac (fS (dv 1) T.aq T.aM (bK T) hr)<|ap 2 an)<|sc (se<|aQ T.gb (jJ T) hr<|ac (fS (dv 1) T.aq T.aM (bK T) hr)<|ap 3 an)<|sc (se<|aQ T.ip (kP T) hr<|ap 4 an)<|sc (sf T.ao T.c_ (dv 0)<|dv 1)<|sc (sf T.ao T.bV (dv 0)<|dv 2)<|sc (sf T.ao T.d_ (dv 0)<|dv 3)<|sc (sf T.ao T.dF (dv 0)<|dv 4)<|sc (sf T.ao T.cw (dv 0)<|dg (v:=.str "start") T.gN {_,rfl} λ_=>cu _)<|s1<|sf T.ao T.bH (dv 0)<|dg (v:=.str "start") T.gN {_,rfl} λ_=>cu _),?_};refine !{a,_,rfl,h.ins,rfl,a,F,cs,dl,rs,rfl,hS,_,rfl,cs,ps,wy,rfl,hg,ho.tx,ho.ok,?_};refine !{a,_,rfl,h.ins,rfl,a,F,cs,dl,rs,rfl,hS,_,rfl,cs,d,rfl,hg,hd,?_};refine !!{by lia,by lia,?_};refine !!{k,_,rfl,hk,(show 0<1000 by decide),?_};refine !!{k,_,rfl,aa,(show 1<1000 by decide),?_};refine !!{k,_,rfl,aa,(show 2<1000 by decide),?_};refine !!{k,_,rfl,aa,(show 3<1000 by decide),?_};refine !{k,_,rfl,aa,(show 4<1000 by decide),?_};refine !{k,_,rfl,aa,(show 5<1000 by decide),?_};rw[aJ,aJ,aJ,aJ,aJ];exact fo q
inductive p5(t:eJ)(ds:v0)(S:ak)(R:KD)(Z:KX):Prop where
 |mk (q:Wk)(l:Addr)(s:Sd)(A:wS)(cs:ww)(F:im)(dl:v0)(rs:mU)(h0:ds=[.ref q.w,.ref l,nB s])(h1:S q.w=some (nL t.aC q))(h2:Gd cs)(h3:Og cs q.ps q.wy)(h4:bY t.ar S q.a F cs dl rs)(h5:S l=some (.lst<|A.map ag))(h6:An cs q.ps q.wy A)(h7:lS cs q.ps s)(h8:R (.int (kx cs q.ps q.wy A s:Nat)) S)
theorem nC:lY P w mg base T.bO 6 (p5 t):=by obtain⟨k,l,s,A,cs,F,dl,rs,e,hk,hg,ho,hS,hl,hA,hs,q⟩:T.bO.F.bF lI;obtain⟨ld,lr,ra,h,_⟩:=id hS;refine{_,(sc (si (bi aL (dv 2)<|dg (v:=.str "start") T.gN {_,rfl} λ_=>cu _) (s1<|sr di) s0)<|sc (si (bi aL (dv 2)<|dg (v:=.str "end") T.wQ {_,rfl} λ_=>cu _) (s1<|sr<|cb br T.aY aK<|ap 1 an) s0)<|s1<|sr<|aQ T.jt (tm T) hr<|ac (fS (fl T.ao T.c_<|dv 0) T.aq T.aM (bK T) hr)<|ac (fl T.ao T.bV<|dv 0)<|ap 1<|ap 2 an),?_};cases s with|s=>exact (!!⟨iG<|fo q⟩)|e=>refine !!⟨b8 !!⟨iG !!⟨.inl {_,hl,?_}⟩⟩⟩;rw[zb];exact fo q|g g=>have Sz:=tD hs (S:=S);exact{_,rfl,FA Sz (by trivial) !⟨aW !⟨FA Sz (by trivial) !⟨aW !{k.w,_,_,rfl,hk,rfl,k.a,_,rfl,h.ins,rfl,k.a,F,cs,dl,rs,rfl,hS,_,rfl,k.w,_,_,rfl,hk,rfl,_,rfl,_,rfl,cs,k.ps,k.wy,A,l,g,rfl,hg,ho.pin,ho.len,hl,hA,hs,fo q}⟩⟩⟩}
inductive nD(t:eJ)(ds:v0)(S:ak)(R:KD)(Z:KX):Prop where
 |mk (q:Wk)(p:Addr)(b c:Nat)(s:Sd)(rows:wS)(cs:ww)(F:im)(dl:v0)(rs:mU)(h0:ds=[.ref q.w,B7 p b c,nB s])(h1:S q.w=some (nL t.aC q))(h2:Gd cs)(h3:Og cs q.ps q.wy)(h4:bY t.ar S q.a F cs dl rs)(h5:S p=some (.lst<|rows.map ag))(h6:∀r∈rows,Wg cs r.2)(h7:R .au<|S.set q.w<|nL t.aC {q.w,q.a,q.ps,q.wy,q.d,q.n,(BM cs q.ps rows s).1,(BM cs q.ps rows s).2})
theorem vV:lY P w mg base T.cI 6 (nD t):=by obtain⟨k,p,b,c,s,rows,cs,F,dl,rs,e,hk,hg,ho,hS,hp,hw,q⟩:T.cI.F.bF eE;obtain⟨ld,lr,ra,h,_⟩:=id hS;refine{_,(sc (ck (i:=3) eE.nd<|aQ T.ju (tH T) hr<|ac (fS (fl T.ao T.c_<|dv 0) T.aq T.aM (bK T) hr)<|ac (fl T.ao T.bV<|dv 0)<|ap 1<|ap 2 an)<|sc (sf T.ao T.cw (dv 0)<|bn (dv 3) di)<|s1<|sf T.ao T.bH (dv 0)<|bn (dv 3) di),?_};refine !{k.w,_,_,rfl,hk,rfl,k.a,_,rfl,h.ins,rfl,k.a,F,cs,dl,rs,rfl,hS,_,rfl,k.w,_,_,rfl,hk,rfl,_,rfl,_,rfl,cs,k.ps,k.wy,p,rows,b,c,s,rfl,hg,ho.pin,ho.len,hp,hw,?_};refine !!!{k.w,_,rfl,hk,(show 6<1000 by decide),?_};refine !!!{k.w,_,rfl,aa,(show 6<1000 by decide),?_};rw[aJ];exact fo q
inductive kT(t:eJ)(ds:v0)(S:ak)(R:KD)(Z:KX):Prop where
 |mk (q:Wk)(cs:ww)(rows:wS)(h0:ds=[.ref q.w])(h1:S q.w=some (nL t.aC q))(h2:Qs t S q.a cs q.ps q.wy q.d .au rows)(h3:∀(A:wS)(p:Addr),Fu cs q.ps q.wy 7 q.d rows A->S p=none->R (.ref p) (S.set p<|.lst<|A.map ag))
theorem lT(B:Bm mg base):lY P w mg base T.cG 13 (kT t):=by obtain⟨k,cs,rows,e,hk,hq,q⟩:T.cG.F.bF lH;refine{_,(s1<|sr<|aQ T.fC (nh T B) hr<|ac (fl T.ao T.c_<|dv 0)<|ac (fl T.ao T.bV<|dv 0)<|ac (fl T.ao T.d_<|dv 0)<|ac dn an),?_};exact !{k.w,_,_,rfl,hk,rfl,_,rfl,k.w,_,_,rfl,hk,rfl,_,rfl,k.w,_,_,rfl,hk,rfl,k.a,cs,k.ps,k.wy,k.d,.au,rows,rfl,hq.g,hq.o,hq.s,hq.v,hq.t,λA l pm pw hl=>fo<|q A l (Kt hq.v.rg hq.k pm pw) hl}
inductive jN(t:eJ)(f:List (Str×Str)->List Part->Str->List Row->Sd->Nat->Nat×Nat)(ds:v0)(S:ak)(R:KD)(Z:KX):Prop where
 |mk (q:Wk)(s:Sd)(cs:ww)(rows:wS)(h0:ds=[.ref q.w,nB s])(h1:S q.w=some (nL t.aC q))(h2:Qs t S q.a cs q.ps q.wy q.d .au rows)(h3:lS cs q.ps s)(h4:∀(A:wS)(p:Addr)(b e:Nat),Fu cs q.ps q.wy 7 q.d rows A->S p=none->f cs q.ps q.wy A s q.n=(b,e)->R (B7 p b<|A.length-e) ((S.set p<|.lst<|(seg A b e).map ag).set q.w<|nL t.aC {q.w,q.a,q.ps,q.wy,q.d,q.n,(BM cs q.ps (seg A b e) s).1,(BM cs q.ps (seg A b e) s).2}))
theorem p6(B:Bm mg base):lY P w mg base T.e_ 14 (jN t KA):=by obtain⟨k,s,cs,rows,e,hk,hq,hs,q⟩:T.e_.F.bF eM;obtain⟨F,dl,rs,hS,_⟩:=hq.v.sh;refine{_,(sc (ck (i:=2) eM.nd<|fS (dv 0) T.ao T.cG (lT T B) hr)<|sc (ck (i:=3) eM.nd<|aQ T.ou (xT T) hr<|ap 2<|ac (lZ (dv 0) T.ao T.bO (nC T) hr<|ap 2<|ap 1 an)<|ac (fl T.ao T.dF<|dv 0) an)<|sc (se<|lZ (dv 0) T.ao T.cI (vV T) hr<|ap 3<|ap 1 an)<|s1<|sr<|dv 3),?_};refine !{k.w,_,rfl,hk,rfl,k,cs,rows,rfl,hk,hq,λA l hA hl=>?_};have s1:=Sub.new (c:=.lst<|A.map ag) hl;have uE:(S.set l<|.lst<|A.map ag) l=some (.lst<|A.map ag):=aa;generalize S.set l (.lst<|A.map ag)=S1 at s1 uE⊢;have AK:=s1 _ _ hk;refine !!{k.w,_,rfl,AK,rfl,_,rfl,_,rfl,k,l,s,A,cs,F,dl,rs,rfl,AK,hq.g,hq.o,hS.sub s1,uE,hA.an,hs,_,rfl,k.w,_,_,rfl,AK,rfl,l,A,_,k.n,rfl,uE,oZ s,λp hp=>?_};have Oq:=(Sub.new (c:=.lst<|(seg A (KA cs k.ps k.wy A s k.n).1 (KA cs k.ps k.wy A s k.n).2).map ag) hp) _ _ AK;exact !{k.w,_,rfl,Oq,rfl,_,rfl,_,rfl,k,p,_,_,s,seg A (KA cs k.ps k.wy A s k.n).1 (KA cs k.ps k.wy A s k.n).2,cs,F,dl,rs,rfl,Oq,hq.g,hq.o,(hS.sub s1).sub<|.new hp,aa,λr hr=>hA.an.rg.1 r<|gq hr,_,rfl,_,bD<|bD s1,q A p _ _ hA (bz s1 hp) rfl}
theorem kU(B:Bm mg base):lY P w mg base T.dI 14 (jN t Le):=by obtain⟨k,s,cs,rows,e,hk,hq,hs,q⟩:T.dI.F.bF dJ;obtain⟨F,dl,rs,hS,_⟩:=hq.v.sh;refine{_,(sc (ck (i:=2) dJ.nd<|fS (dv 0) T.ao T.cG (lT T B) hr)<|sc (ck (i:=3) dJ.nd<|aQ T.lC (uI T) hr<|ap 2<|ac (lZ (dv 0) T.ao T.bO (nC T) hr<|ap 2<|ap 1 an)<|ac (fl T.ao T.dF<|dv 0) an)<|sc (se<|lZ (dv 0) T.ao T.cI (vV T) hr<|ap 3<|ap 1 an)<|s1<|sr<|dv 3),?_};refine !{k.w,_,rfl,hk,rfl,k,cs,rows,rfl,hk,hq,λA l hA hl=>?_};have s1:=Sub.new (c:=.lst<|A.map ag) hl;have uE:(S.set l<|.lst<|A.map ag) l=some (.lst<|A.map ag):=aa;generalize S.set l (.lst<|A.map ag)=S1 at s1 uE⊢;have AK:=s1 _ _ hk;refine !!{k.w,_,rfl,AK,rfl,_,rfl,_,rfl,k,l,s,A,cs,F,dl,rs,rfl,AK,hq.g,hq.o,hS.sub s1,uE,hA.an,hs,_,rfl,k.w,_,_,rfl,AK,rfl,l,A,_,k.n,rfl,uE,oZ s,λp hp=>?_};have Oq:=(Sub.new (c:=.lst<|(seg A (Le cs k.ps k.wy A s k.n).1 (Le cs k.ps k.wy A s k.n).2).map ag) hp) _ _ AK;exact !{k.w,_,rfl,Oq,rfl,_,rfl,_,rfl,k,p,_,_,s,seg A (Le cs k.ps k.wy A s k.n).1 (Le cs k.ps k.wy A s k.n).2,cs,F,dl,rs,rfl,Oq,hq.g,hq.o,(hS.sub s1).sub<|.new hp,aa,λr hr=>hA.an.rg.1 r<|gq hr,_,rfl,_,bD<|bD s1,q A p _ _ hA (bz s1 hp) rfl}
inductive g9(t:eJ)(f:List (Str×Str)->List Part->Str->List Row->Sd->Nat->Nat×Nat)(g:Wk->Sd)(ds:v0)(S:ak)(R:KD)(Z:KX):Prop where
 |mk (q:Wk)(cs:ww)(rows:wS)(h0:ds=[.ref q.w])(h1:S q.w=some (nL t.aC q))(h2:Qs t S q.a cs q.ps q.wy q.d .au rows)(h3:lS cs q.ps<|g q)(h4:∀(A:wS)(p:Addr)(b e:Nat),Fu cs q.ps q.wy 7 q.d rows A->S p=none->f cs q.ps q.wy A (g q) q.n=(b,e)->R (B7 p b<|A.length-e) ((S.set p<|.lst<|(seg A b e).map ag).set q.w<|nL t.aC {q.w,q.a,q.ps,q.wy,q.d,q.n,(BM cs q.ps (seg A b e)<|g q).1,(BM cs q.ps (seg A b e)<|g q).2}))
theorem SE(B:Bm mg base):lY P w mg base T.xc 15 (g9 t KA Wk.h):=by obtain⟨k,cs,rows,e,hk,hq,hs,q⟩:T.xc.F.bF Du;refine{_,(s1<|sr<|lZ (dv 0) T.ao T.e_ (p6 T B) hr<|ac (fl T.ao T.bH<|dv 0) an),?_};exact !{k.w,_,rfl,hk,rfl,_,rfl,k.w,_,_,rfl,hk,rfl,k,k.h,cs,rows,rfl,hk,hq,hs,λA p b e hA hp he=>fo<|q A p b e hA hp he}
theorem KG(B:Bm mg base):lY P w mg base T.oB 15 (g9 t Le Wk.f):=by obtain⟨k,cs,rows,e,hk,hq,hs,q⟩:T.oB.F.bF xo;refine{_,(s1<|sr<|lZ (dv 0) T.ao T.dI (kU T B) hr<|ac (fl T.ao T.cw<|dv 0) an),?_};exact !{k.w,_,rfl,hk,rfl,_,rfl,k.w,_,_,rfl,hk,rfl,k,k.f,cs,rows,rfl,hk,hq,hs,λA p b e hA hp he=>fo<|q A p b e hA hp he}
inductive nE(t:eJ)(ds:v0)(S:ak)(R:KD)(Z:KX):Prop where
 |mk (q:Wk)(cs:ww)(rows:wS)(h0:ds=[.ref q.w])(h1:S q.w=some (nL t.aC q))(h2:Qs t S q.a cs q.ps q.wy q.d .au rows)(h3:lS cs q.ps q.f)(h4:lS cs q.ps q.h)(h5:∀(A:wS)(p:Addr),Fu cs q.ps q.wy 7 q.d rows A->S p=none->R (.ref p) (S.set p<|.lst<|cq (A.map ag) (some ((kx cs q.ps q.wy A q.f:Nat):Int))<|some ((kx cs q.ps q.wy A q.h:Nat):Int)))
theorem Hh(B:Bm mg base):lY P w mg base T.lG 14 (nE t):=by obtain⟨k,cs,rows,e,hk,hq,hf,hh,q⟩:T.lG.F.bF kI;obtain⟨F,dl,rs,hS,_⟩:=hq.v.sh;refine{_,(sc (ck (i:=1) kI.nd<|fS (dv 0) T.ao T.cG (lT T B) hr)<|s1<|sr<|MY (dv 1) (o1<|lZ (dv 0) T.ao T.bO (nC T) hr<|ap 1<|ac (fl T.ao T.cw<|dv 0) an)<|o1<|lZ (dv 0) T.ao T.bO (nC T) hr<|ap 1<|ac (fl T.ao T.bH<|dv 0) an),?_};refine !{k.w,_,rfl,hk,rfl,k,cs,rows,rfl,hk,hq,λA l hA hl=>?_};have s1:=Sub.new (c:=.lst<|A.map ag) hl;have uE:(S.set l<|.lst<|A.map ag) l=some (.lst<|A.map ag):=aa;generalize S.set l (.lst<|A.map ag)=S1 at s1 uE⊢;have AK:=s1 _ _ hk;have Bb:=hS.sub s1;exact !!{k.w,_,rfl,AK,rfl,_,rfl,_,rfl,k.w,_,_,rfl,AK,rfl,k,l,k.f,A,cs,F,dl,rs,rfl,AK,hq.g,hq.o,Bb,uE,hA.an,hf,_,rfl,_,rfl,k.w,_,rfl,AK,rfl,_,rfl,_,rfl,k.w,_,_,rfl,AK,rfl,k,l,k.h,A,cs,F,dl,rs,rfl,AK,hq.g,hq.o,Bb,uE,hA.an,hh,_,rfl,_,uE,λp hp=>{_,bD s1,q A p hA<|bz s1 hp}}
theorem Hi(B:Bm mg base):lY P w mg base T.lF 15 (g9 t KA λ_=>.s):=by obtain⟨k,cs,rows,e,hk,hq,hs,q⟩:T.lF.F.bF uy;refine{_,(s1<|sr<|lZ (dv 0) T.ao T.e_ (p6 T B) hr<|ac (dg (v:=.str "start") T.gN {_,rfl} λ_=>cu _) an),?_};exact !{k.w,_,rfl,hk,rfl,k,.s,cs,rows,rfl,hk,hq,hs,λA p b e hA hp he=>fo<|q A p b e hA hp he}
theorem KH(B:Bm mg base):lY P w mg base T.oE 15 (g9 t Le λ_=>.e):=by obtain⟨k,cs,rows,e,hk,hq,hs,q⟩:T.oE.F.bF xp;refine{_,(s1<|sr<|lZ (dv 0) T.ao T.dI (kU T B) hr<|ac (dg (v:=.str "end") T.wQ {_,rfl} λ_=>cu _) an),?_};exact !{k.w,_,rfl,hk,rfl,k,.e,cs,rows,rfl,hk,hq,hs,λA p b e hA hp he=>fo<|q A p b e hA hp he}
inductive jO(t:eJ)(ds:v0)(S:ak)(R:KD)(Z:KX):Prop where
 |mk (q:Wk)(n:Nat)(h0:ds=[.ref q.w,.int (n:Nat)])(h1:S q.w=some (nL t.aC q))(h2:1<=n)(h3:n<=1000)(h4:R .au<|S.set q.w<|nL t.aC ⟨q.w,q.a,q.ps,q.wy,q.d,n,q.f,q.h⟩)
theorem KJ:lY P w mg base T.ir 3 (jO t):=by obtain⟨k,n,e,hk,h1,h2,q⟩:T.ir.F.bF qv;refine{_,(sc (se<|aQ T.ip (kP T) hr<|ap 1 an)<|s1<|sf T.ao T.dF (dv 0)<|dv 1),?_};exact !!{by lia,by lia,_,rfl,_,rfl,k.w,_,rfl,hk,(show 6<1000 by decide),fo q}
inductive iO(t:eJ)(ds:v0)(S:ak)(R:KD)(Z:KX):Prop where
 |mk (q:Wk)(cs:ww)(d:D)(F:im)(dl:v0)(rs:mU)(h0:ds=[.ref q.w,d])(h1:S q.w=some (nL t.aC q))(h2:Gd cs)(h3:Sq cs d)(h4:bY t.ar S q.a F cs dl rs)(h5:R .au<|S.set q.w<|nL t.aC ⟨q.w,q.a,q.ps,q.wy,d,q.n,q.f,q.h⟩)
theorem Hj:lY P w mg base T.gE 7 (iO t):=by obtain⟨k,cs,d,F,dl,rs,e,hk,hg,hd,hS,q⟩:T.gE.F.bF oI;obtain⟨ld,lr,ra,h,_⟩:=id hS;refine{_,(sc (se<|aQ T.gb (jJ T) hr<|ac (fS (fl T.ao T.c_<|dv 0) T.aq T.aM (bK T) hr)<|ap 1 an)<|s1<|sf T.ao T.d_ (dv 0)<|dv 1),?_};exact !{k.w,_,_,rfl,hk,rfl,k.a,_,rfl,h.ins,rfl,k.a,F,cs,dl,rs,rfl,hS,_,rfl,cs,d,rfl,hg,hd,_,rfl,_,rfl,k.w,_,rfl,hk,(show 6<1000 by decide),fo q}
noncomputable def kz(q:Wk):D:=.tup [bN q.ps q.wy,q.d,.int (q.n:Nat),nB q.f,nB q.h]
inductive kW(t:eJ)(ds:v0)(S:ak)(R:KD)(Z:KX):Prop where
 |mk (q:Wk)(h0:ds=[.ref q.w])(h1:S q.w=some (nL t.aC q))(h2:R (kz q) S)
theorem tI:lY P w mg base T.gk 1 (kW t):=by obtain⟨k,e,hk,q⟩:T.gk.F.bF sG;refine{_,(s1<|sr<|bc<|ac (fl T.ao T.bV<|dv 0)<|ac (fl T.ao T.d_<|dv 0)<|ac (fl T.ao T.dF<|dv 0)<|ac (fl T.ao T.cw<|dv 0)<|ac (fl T.ao T.bH<|dv 0) an),?_};exact !{k.w,_,_,rfl,hk,rfl,_,rfl,k.w,_,_,rfl,hk,rfl,_,rfl,k.w,_,_,rfl,hk,rfl,_,rfl,k.w,_,_,rfl,hk,rfl,_,rfl,k.w,_,_,rfl,hk,rfl,M9,fo q}
noncomputable def tW(z:Str):Str:=if z ="up" then "down" else "up"
noncomputable def tE(z:Str):Str:=if z ="first" then "last" else "first"
noncomputable def tZ(z:Str):Str:=if z ="behind" then "ahead" else "behind"
noncomputable def tP(p:Part):Part:=(p.1,tW p.2.1,tE p.2.2)
noncomputable def tG(g:vQ):vQ:=(g.1,g.2.1,tZ g.2.2)
noncomputable def Xn:Sd->Sd|.s=>.e|.e=>.s|.g g=>.g<|tG g
theorem vW(z:Str):kr (tW z)=true/\Bj (tE z)=true/\vR (tZ z)=true:=by refine{?_,?_,?_};unfold tW;split<;>decide;unfold tE;split<;>decide;unfold tZ;split<;>decide
theorem Xo(ps:wP)(f:Str->α):(ps.map tP).map (λp=>f p.1)=ps.map λp=>f p.1:=by rw[zq];rfl
theorem Gp.tu(h:Gp cs ps g):Gp cs (ps.map tP) (tG g):={by rw[Xo ps<|O7 cs];exact h.pv,h.key,(vW _).2.2}
theorem lS.tu:∀{s:Sd},lS cs ps s->lS cs (ps.map tP) (Xn s)|.s,_=>trivial|.e,_=>trivial|.g _,h=>Gp.tu h
theorem Og.two(h:Og cs ps wy):∀p∈ps,Bj p.2.2=true:=by have:=h.ok;unfold Bk at this;rw[zA,zA,zR]at this;intro p hp;have:=this.2.1 p hp;unfold sT at this;rw[zA,zA]at this;exact this.2.2
theorem Og.tu(h:Og cs ps wy):Og cs (ps.map tP) (tW wy):=by refine{λq hq=>?_,λq hq=>?_,(vW _).1,?_,λq hq=>?_};obtain⟨p,hp,rfl⟩:=zh.mp hq;exact h.pin p hp;obtain⟨p,hp,rfl⟩:=zh.mp hq;exact(vW _).1;have o:=h.ok;unfold Bk at o⊢;rw[zA,zA,zA,zR]at o⊢;refine{by rw[zb];exact o.1,λq hq=>?_,?_,(vW _).1};obtain⟨p,hp,rfl⟩:=zh.mp hq;have:=o.2.1 p hp;unfold sT at this⊢;rw[zA,zA]at this⊢;exact{this.1,(vW _).1,(vW _).2.1};rw[zq];exact o.2.2.1;obtain⟨p,hp,rfl⟩:=zh.mp hq;refine{(h.tx p hp).1,?_,?_};show(tW p.2.1).cps.size<=1000;unfold tW;split<;>decide;show(tE p.2.2).cps.size<=1000;unfold tE;split<;>decide
theorem xW{a b z:Str}{T:Str->Str}(h:z=a\/z=b)(ha:T a=b)(hb:T b=a)(n:a≠b):([(a,V.str b),(b,V.str a)]:ge).lookup z=some (.str<|T z):=by rcases h with rfl|rfl;rw[zX,beq_self_eq_true,ha];rw[zX,zX,beq_self_eq_true,hb,show(z==a)=false from beq_eq_false_iff_ne.mpr (Ne.symm n)]
theorem jP{z a b:Str}(h:(decide (z=a)||decide (z=b))=true):z=a\/z=b:=by rw[yR]at h;exact h.imp zC zC
noncomputable def YQ:D->D|.tup [.str a,.str b,.str c]=>p3 (tP (a,b,c))|_=>.au
noncomputable def Wk.tn(q:Wk):Wk:={q.w,q.a,q.ps.map tP,tW q.wy,q.d,q.n,Xn q.h,Xn q.f}
inductive BN(ds:v0)(S:ak)(R:KD)(Z:KX):Prop where
 |mk (cs ps wy)(h0:ds=[bN ps wy])(h1:Og cs ps wy)(h2:R (bN (ps.map tP)<|tW wy) S)
theorem Hk:Ok P w base T.turned 1 BN:=by
 obtain⟨cs,ps,wy,e,ho,q⟩:T.turned.F.bF vn;have h8:=ho.len;refine{_,(sc (qm (N:=["part"]) (src:=[none]) 1 vn.nd (jW Jz) (EF<|bn (dv 0) di) pC<|bc<|ac (bn (dv 0) di)<|ac (YB T.jn (by decide) (gK T.ig)<|bn (dv 0) di)<|ac (YB T.pF (by decide) (gK T.mG)<|bn (dv 0) di) an)<|s1<|sr<|bc<|ac (ct eV T.bC aX<|ap 1 an)<|ac (YB T.jn (by decide) (gK T.ig)<|bn (dv 0) di) an),?_};refine !!{_,.inl rfl,?_};refine comp_map YQ trivial (by show(ps.map p3).length<=1000;rw[zb];lia) (λd hd Q hQ=>?_) λp j5=>?_;obtain⟨r,dO,rfl⟩:=zh.mp hd;exact !!!!{_,_,rfl,xW (T:=tW) (jP<|ho.Se r dO) (by decide) (by decide)<|by decide,_,rfl,_,rfl,_,_,rfl,xW (T:=tE) (jP<|ho.two r dO) (by decide) (by decide)<|by decide,mP,hQ};have e3:(ps.map p3).map YQ=(ps.map tP).map p3:=by rw[zq,zq];rfl
 rw[show({ps.map p3,λ_=>True}:lW).xs=ps.map p3 from rfl,e3];exact !{_,_,rfl,.inl aa,_,rfl,_,rfl,_,_,rfl,xW (T:=tW) (jP ho.way) (by decide) (by decide)<|by decide,bR,S,.new j5,q}
inductive nF(ds:v0)(S:ak)(R:KD)(Z:KX):Prop where
 |mk (g:vQ)(h0:ds=[oY g])(h1:vR g.2.2=true)(h2:R (oY<|tG g) S)
theorem uJ:Ok P w base T.lB 1 nF:=by obtain⟨g,e,hs,q⟩:T.lB.F.bF uu;refine{_,(s1<|sr<|bc<|ac (bn (dv 0) di)<|ac (YB T.wR (by decide) (gK T.uo)<|bn (dv 0) di) an),?_};refine !!!!{_,_,rfl,xW (T:=tZ) (jP hs) (by decide) (by decide)<|by decide,bR,fo q}
inductive jQ(ds:v0)(S:ak)(R:KD)(Z:KX):Prop where
 |mk (cs ps s)(h0:ds=[nB s])(h1:lS cs ps s)(h2:R (nB<|Xn s) S)
theorem iP:Ok P w base T.eY 2 jQ:=by obtain⟨cs,ps,s,e,hs,q⟩:T.eY.F.bF qt;refine{_,(sc (si (bi aL (dv 0)<|dg (v:=.str "start") T.gN {_,rfl} λ_=>cu _) (s1<|sr<|dg (v:=.str "end") T.wQ {_,rfl} λ_=>cu _) s0)<|sc (si (bi aL (dv 0)<|dg (v:=.str "end") T.wQ {_,rfl} λ_=>cu _) (s1<|sr<|dg (v:=.str "start") T.gN {_,rfl} λ_=>cu _) s0)<|s1<|sr<|aQ T.lB (uJ T) hr<|ap 0 an),?_};cases s with|s=>exact (!!⟨iG<|fo q⟩)|e=>exact (!!⟨b8 !!⟨iG<|fo q⟩⟩)|g g=>have Sz:=tD hs (S:=S);exact{_,rfl,FA Sz (by trivial) !⟨aW !⟨FA Sz (by trivial) !⟨aW !{g,rfl,Gp.side hs,fo q}⟩⟩⟩}
inductive p7(t:eJ)(ds:v0)(S:ak)(R:KD)(Z:KX):Prop where
 |mk (q:Wk)(cs)(h0:ds=[.ref q.w])(h1:S q.w=some (nL t.aC q))(h2:Og cs q.ps q.wy)(h3:lS cs q.ps q.f)(h4:lS cs q.ps q.h)(h5:R .au<|S.set q.w<|nL t.aC q.tn)
theorem KL:lY P w mg base T.oF 3 (p7 t):=by obtain⟨k,cs,e,hk,ho,hf,hh,q⟩:T.oF.F.bF mN;refine{_,(sc (ck (i:=1) mN.nd<|aQ T.eY (iP T) hr<|ac (fl T.ao T.bH<|dv 0) an)<|sc (sf T.ao T.bH (dv 0)<|aQ T.eY (iP T) hr<|ac (fl T.ao T.cw<|dv 0) an)<|sc (sf T.ao T.cw (dv 0)<|dv 1)<|s1<|sf T.ao T.bV (dv 0)<|aQ T.turned (Hk T) hr<|ac (fl T.ao T.bV<|dv 0) an),?_};refine !{k.w,_,_,rfl,hk,rfl,cs,k.ps,k.h,rfl,hh,?_};refine !{k.w,_,_,rfl,hk,rfl,cs,k.ps,k.f,rfl,hf,_,rfl,k.w,_,rfl,hk,(show 6<1000 by decide),?_};refine !!{k.w,_,rfl,aa,(show 6<1000 by decide),?_};refine !{k.w,_,_,rfl,aa,rfl,cs,k.ps,k.wy,rfl,ho,_,rfl,k.w,_,rfl,aa,(show 6<1000 by decide),?_};rw[aJ,aJ];exact fo q
noncomputable def D9(cs:ww)(ps:wP)(r:Row):D:=.tup [xQ (ps.map λp=>ai cs r.2 p.1) r.1,ag r]
noncomputable def prF(cs:ww)(ps:wP):D->D|.tup [.str k,.tup ws]=>D9 cs ps (k,ws)|d=>d
noncomputable def SF(cs:ww)(ps:wP)(wy:Str)(b x:Row):Bool:=decide<|cD (pX ps wy) (Fp cs ps x) (Fp cs ps b)<0
theorem An.ix{cs:ww}(hg:Gd cs){ps:wP}(hp:Pin cs ps){wy:Str}{A:wS}(h:An cs ps wy A){j:Nat}{b:Row}(e:A[j]?=some b):A.countP (SF cs ps wy b)=j:=by
 have hj:=(ze.mp e).1;have hb:=zG e;have pv:∀r∈A,PV (Xc cs ps) (Fp cs ps r):=λr hr=>s9 hg hp (h.rg.1 r hr)<|h.ky r hr;have lx:=List.pairwise_iff_getElem.mp<|h.lex hg hp;have lt:∀i i' a a',i<i'->A[i]?=some a->A[i']?=some a'->cD (pX ps wy) (Fp cs ps a) (Fp cs ps a')<0:=λi i' a a' hi e1 e2=>by have:=lx i i' (ze.mp e1).1 (ze.mp e2).1 hi;rw[(ze.mp e1).2,(ze.mp e2).2]at this;exact this
 refine(Kr ?_ (yN hj) (λi a hi ei=>zu<|lt i j a b hi ei e) λi a hi ei=>zx ?_).symm;refine(List.Pairwise.and_mem.mp<|h.lex hg hp).imp λ{x y} R_ hy=>?_;exact zu<|D5 (pv x R_.1) (pv y R_.2.1) (pv b hb) R_.2.2<|zC hy;rcases Nat.lt_or_ge j i with q|q;have h1:=lt j i b a q e ei;have:=(BC (pv a<|zG ei)<|pv b hb).mp h1;lia;have:i=j:=by lia
 subst this;rw[e]at ei;cases ei;have:=(nq (ws:=pX ps wy) xS (pv b hb)<|pv b hb).mpr rfl;lia
noncomputable def fill(B:wS)(r:Row):D:=if B.any (λx=>decide<|x.1=r.1) then ag r else .au
theorem KN{cs:ww}{A B:wS}(hr:Rg cs A){i j:Nat}{b:Row}(eb:B[i]?=some b)(ej:A[j]?=some b):(A.map<|fill<|B.take i).set j (ag b)=A.map (fill<|B.take<|i+1):=by have hj:=(ze.mp ej).1;refine List.ext_getElem? λm=>?_;by_cases e:m=j;subst e;rw[List.getElem?_set_self<|by rw[zb];exact hj,zm,ej];show some (ag b)=some (fill _ b);unfold fill;rw[take_snoc eb,List.any_append,show([b].any λx=>decide<|x.1=b.1)=true by simp,Bool.or_true];rfl;rw[List.getElem?_set_ne<|Ne.symm e,zm,zm];cases ea:A[m]? with|none=>rfl|some a=>show some (fill _ a)=some (fill _ a);have kK:b.1≠a.1:=λq=>(by have h1:(A.map Prod.fst)[m]?=some a.1:=(by rw[zm,ea];rfl);have h2:(A.map Prod.fst)[j]?=some a.1:=(by rw[zm,ej,<-q];rfl);obtain⟨b1,c1⟩:=ze.mp h1;obtain⟨b2,c2⟩:=ze.mp h2;exact e<|(List.getElem_inj hr.2 (h₀:=b1) (h₁:=b2)).mp<|c1.trans c2.symm);unfold fill;rw[take_snoc eb,List.any_append,show([b].any λx=>decide<|x.1=a.1)=false by simp[kK],Bool.or_false]
theorem KO{A B:wS}(h:∀r∈A,r∈B):A.map (fill B)=A.map ag:=zV λr hr=>by unfold fill;rw[if_pos<|List.any_eq_true.mpr {r,h r hr,zu rfl}]
theorem FC{g:Row->Bool} : ∀l:wS,(l.map λx=>if g x then (1:Int) else 0).sum=((l.countP g:Nat):Int)|[]=>rfl|x::l=>by rw[zt,List.sum_cons,FC l,List.countP_cons];cases g x<;>simp<;>lia
theorem NH{n j:Nat}(h:j<n):FZ n ((j:Nat):Int)=some j:=by unfold FZ;rw[if_pos<|by lia,if_pos<|by lia];rfl
inductive vX(ds:v0)(S:ak)(R:KD)(Z:KX):Prop where
 |mk (cs:ww)(ps:wP)(wy:Str)(d:D)(lr:Addr)(rows A:wS)(h0:ds=[.tup<|cs.map az,bN ps wy,d,.ref lr])(h1:Gd cs)(h2:Og cs ps wy)(h3:Sg cs 7 d)(h4:S lr=some (.lst<|rows.map ag))(h5:rows.length<=100)(h6:Rg cs rows)(h7:Ks rows)(h8:Fu cs ps wy 7 d rows A)
  (h9:∀p,S p=none->R (.ref p) (S.set p<|.lst<|A.map ag)):vX ds S R Z
theorem Hl:Ok P w base T.w5 11 vX:=by
 obtain⟨cs,ps,wy,d,lr,rows,A,e,hg,ho,hd,EK,ab4,T_,hk,hA,q⟩:T.w5.F.bF fI;have h8:=ho.len;refine{_,(sc (qm (N:=["_law_row","_law_columns_here","_law_order_here","_law_sieve_here"]) (src:=[none,some 0,some 1,some 2]) 5 fI.nd (jW vj) (il<|dv 3) (if1<|tv<|aQ T.gR (lR T 7) hr<|ap 1<|ap 3<|ap 0 an)<|bc<|ac (aQ T.jZ (nA T) hr<|ap 1<|ap 2<|ap 0 an)<|ap 0 an)<|sc (ck (i:=6) fI.nd<|bd Ru (cK<|ac dn an)<|cb br T.aY aK<|ap 5 an)<|sc (ql<|Hy (il<|dv 5) (gt (n:=2)<|gc (gn (i:=7) fI.nd)<|gc (gn (i:=4) fI.nd) g0)<|s1<|sls (dv 6) (cb WK T.WU QW<|ac (TB (N:=["_law_other","_law_more","_law_order_here","_law_place_here"]) (src:=[none,none,some 1,some 7]) (jW vj) (il<|dv 5) (We<|show(["_law_other","_law_more","_law_order_here","_law_place_here"]:j4).Nodup by trivial) (me rfl rfl) mx (λ_ _ _ _ _=>pC) λ_ _ _ _ _=>(ct EC T.A3 rC<|ac (aQ T.w4 (Fy T) hr<|ap 2<|ap 0<|ap 3 an) an)) an)<|dv 4)<|s1<|sr<|dv 6),?_};refine !{_,EK,?_};refine dA (By cs d) (prF cs ps) EK (by show(rows.map ag).length<=_;rw[zb];lia) (λx hx Q Q' hQ DL=>?_) λls hls=>?_;obtain⟨r,dO,rfl⟩:=zh.mp hx;exact !!!{cs,d,r,rfl,hg,hd,T_.1 r dO,_,rfl,b9 (λh=>!!!{cs,ps,wy,r,rfl,hg,ho.pin,h8,T_.1 r dO,_,rfl,bR,hQ h}) λh=>DL h};have eB:((({rows.map ag,λS=>S lr=some (.lst<|rows.map ag)}:lW).xs.filter<|By cs d).map<|prF cs ps)=(rows.filter λr=>aZ cs r 7 d).map (D9 cs ps):=by show(((rows.map ag).filter<|By cs d).map<|prF cs ps)=_;rw[List.filter_map,zq];rfl
 rw[eB];have Nl:=hA.pm;have hB:∀x∈rows.filter (λr=>aZ cs r 7 d),Wg cs x.2/\x.1∈KS:=λx hx=>{T_.1 x (yn.mp hx).1,hk x (yn.mp hx).1};have hBl:(rows.filter λr=>aZ cs r 7 d).length<=100:=zI (yA _ _) ab4;generalize (rows.filter λr=>aZ cs r 7 d)=B at Nl hB hBl⊢;have s1:=Sub.new (c:=.lst<|B.map<|D9 cs ps) hls;have SG:(S.set ls<|.lst<|B.map<|D9 cs ps) ls=some (.lst<|B.map<|D9 cs ps):=aa;generalize S.set ls (.lst<|B.map<|D9 cs ps)=S1 at s1 SG⊢;have ml:(B.map<|D9 cs ps).length=B.length:=zb _;refine{M8,λp0 RV=>!!⟨.inl {_,(Sub.new RV) _ _ SG,p0,.au,_,rfl,rfl,aa,by lia,by rw[ml];lia,λlf G5=>?_}⟩};have e0:List.replicate (((B.map<|D9 cs ps).length:Nat):Int).toNat D.au=A.map (fill<|B.take 0):=by rw[ml,show((B.length:Nat):Int).toNat=A.length by rw[Nl.length_eq];lia];exact(List.map_const' ..).symm
 rw[e0];have s2:=s1.trans<|Sub.new (c:=.lst [.au]) RV;have KP:=(Sub.new (c:=.lst [D.au]) RV) _ _ SG;generalize S1.set p0 (.lst [.au])=S2 at s2 KP G5⊢;have nlf:ls≠lf:=fk KP G5;have R4:S lf=none:=bz s2 G5;refine{λaA S'=>∃(o6 o7:wn),aA=[some<|.tup<|cs.map az,some<|bN ps wy,some d,some<|.ref lr,o6,some<|.ref ls,some<|.ref lf,o7]/\Sub (S2.set lf<|.lst<|A.map ag) S',?_,?_};refine !{_,(ae nlf).trans KP,?_};refine{λi aA S'=>∃(o6 o7:wn),aA=[some<|.tup<|cs.map az,some<|bN ps wy,some d,some<|.ref lr,o6,some<|.ref ls,some<|.ref lf,o7]/\Sub (S2.set lf<|.lst<|A.map<|fill<|B.take i) S',{none,none,rfl,.refl _},?_,?_,?_};rintro i aA S' ⟨_,_,_,sb⟩;exact sb _ _<|(ae nlf).trans KP;rintro i x aA S' hx ⟨o6,o7,rfl,sb⟩;have hx:(B.map<|D9 cs ps)[i]?=some x:=hx;rw[zm]at hx;cases eb:B[i]? with|none=>(rw[eb]at hx;cases hx)|some b=>rw[eb]at hx;cases hx;have Xp:=zG eb;obtain⟨j,ej⟩:=yE<|Nl.mem_iff.mpr Xp;have hjA:=(ze.mp ej).1;refine !{rfl,_,_,rfl,_,_,rfl,rfl,?_};have Xq:=sb _ _<|(ae nlf).trans KP;have vb:=s9 hg ho.pin (hB b Xp).1 (hB b Xp).2;refine !!!{_,Xq,?_};refine jz (λe v=>∃y∈B,e=D9 cs ps y/\v=.int (if SF cs ps wy b y then 1 else 0)) Xq (by show(B.map<|D9 cs ps).length<=_;lia) (λe he Q hQ=>?_) λout wG p hp=>?_;obtain⟨y,hy,rfl⟩:=zh.mp he;exact !{rfl,_,_,rfl,_,_,rfl,rfl,_,rfl,_,rfl,_,rfl,ps,wy,_,_,_,_,_,rfl,by rw[zb],by rw[zb],h8,oX hg ho.pin (hB y hy).1,oX hg ho.pin (hB b Xp).1,(hB y hy).2,(hB b Xp).2,.inr !⟨hQ _ ⟨y,hy,rfl,rfl⟩⟩};have eo:out=(B.map λy=>if SF cs ps wy b y then (1:Int) else 0).map D.int:=(by have:∀{L:wS}{out:v0},Paired (λe v=>∃y∈B,e=D9 cs ps y/\v=D.int (if SF cs ps wy b y then 1 else 0)) (L.map<|D9 cs ps) out->out=(L.map λy=>if SF cs ps wy b y then (1:Int) else 0).map D.int:=(by intro L;induction L with|nil=>(intro out h;cases h;rfl)|cons z L ih=>intro out h;cases h with|cons r t=>obtain⟨y,_,e1,e2⟩:=r;have:z=y:=(by unfold D9 ag at e1;injection e1 with e1;injection e1 with _ e1;injection e1 with e1 _;injection e1 with e1;injection e1 with a1 e1;injection e1 with a2 _;injection a1 with a1;injection a2 with a2;exact Prod.ext a1 a2);rw[e2,ih t,<-this];rfl);exact this wG);subst eo;have ec:((B.map λy=>if SF cs ps wy b y then (1:Int) else 0).sum)=((j:Nat):Int):=(by rw[FC,<-Nl.countP_eq,hA.an.ix hg ho.pin ej]);refine{_,_,rfl,aa,?_};rw[ec];have hF:(S'.set p<|.lst<|(B.map λy=>if SF cs ps wy b y then (1:Int) else 0).map D.int) lf=some (.lst<|A.map<|fill<|B.take i):=(Sub.new hp) _ _<|sb _ _ aa;refine{lf,_,((j:Nat):Int),j,rfl,rfl,hF,NH<|by rw[zb];exact hjA,_,_,rfl,?_};rw[KN hA.an.rg eb ej];exact Kj<|sb.trans<|.new hp
 rintro aA S' ⟨o6,o7,rfl,sb⟩;have sb:Sub (S2.set lf<|.lst<|A.map<|fill<|B.take (B.map<|D9 cs ps).length) S':=sb;rw[ml,yK,KO λr hr=>Nl.mem_iff.mp hr]at sb;exact fo {_,_,rfl,sb};rintro aA S' ⟨o6,o7,rfl,sb⟩;exact !{_,(bD s2).trans sb,q lf R4}
noncomputable def Lg(cs:ww)(ps:wP)(wy:Str):Sd->Row->Bool|.s,_=>false|.e,_=>true|.g g,r=>gP cs ps wy g r
theorem NI:∀s,kx cs ps wy A s=A.countP (Lg cs ps wy s)|.s=>(List.countP_eq_zero.mpr λ_ _ h=>Bool.noConfusion h).symm|.e=>(List.countP_eq_length.mpr λ_ _=>rfl).symm|.g _=>rfl
theorem KQ(hg:Gd cs)(hp:Pin cs ps)(hA:An cs ps wy A)(hs:lS cs ps s)(e:A[i]?=some r):Lg cs ps wy s r=true↔i<kx cs ps wy A s:=by have hi:=(ze.mp e).1;cases s with|s=>exact{λh=>Bool.noConfusion h,λh=>absurd h<|Nat.not_lt_zero _}|e=>exact{λ_=>hi,λ_=>rfl}|g g=>exact xP (hA.mono hg hp hs) e
theorem BO:∀{l:List α}{b e:Nat},(∀i a,l[i]?=some a->(p a=true↔b<=i/\i<e))->l.filter p=(l.drop b).take (e-b)|[],b,e,h=>by simp|x::l,b,e,h=>by have h0:=h 0 x rfl;have ih:∀{b' e':Nat},(∀i a,l[i]?=some a->(p a=true↔b'<=i/\i<e'))->l.filter p=(l.drop b').take (e'-b'):=BO;cases b with|zero=>(cases e with|zero=>rw[yw,if_neg λk=>by have:=h0.mp k;lia,ih (b':=0) (e':=0) λi a k=>(h (i+1) a k).trans<|by lia];simp|succ e=>rw[yw,if_pos<|h0.mpr<|by lia,ih (b':=0) (e':=e) λi a k=>(h (i+1) a k).trans<|by lia];simp)|succ b=>rw[yw,if_neg λk=>by have:=h0.mp k;lia,ih (b':=b) (e':=e-1) λi a k=>(h (i+1) a k).trans<|by lia];rw[List.drop_succ_cons,show e-1-b=e-(b+1) by lia]
theorem NJ{xs ys:v0}{k l:Str} : xs++[.str k]=ys++[.str l]↔xs=ys/\k=l:=by constructor;intro h;obtain⟨a,b⟩:=List.append_inj' h rfl;exact{a,D.str.inj (List.cons.inj b).1};rintro⟨rfl,rfl⟩;rfl
theorem p8{S:ak}{ds:v0}(h:Ly S 3<|.tup ds):Alike S (.tup ds) [.str "start",.str "end"] false:=by obtain⟨p,a,b,c⟩:=h;simp only[Dp]at a;obtain⟨ps,rfl,k⟩:=a;refine{.tuple ps,by simp only[Dl,Dp];exact⟨ps,rfl,k⟩,b,λd hd=>?_};simp only[zi,zH,or_false]at hd;rcases hd with rfl|rfl;exact{.str "start",by simp only[Dl,Dp],by trivial,.inl<|by simp only[PyData.depth];lia,by simp only[PyData.eqv]};exact{.str "end",by simp only[Dl,Dp],by trivial,.inl<|by simp only[PyData.depth];lia,by simp only[PyData.eqv]}
inductive nG(ds:v0)(S:ak)(R:KD)(Z:KX):Prop where
 |mk (cs:ww)(ps:wP)(wy:Str)(r:Row)(g:vQ)(h0:ds=[bN ps wy,xQ (ps.map λp=>ai cs r.2 p.1) r.1,oY g])(h1:Gd cs)(h2:Pin cs ps)(h3:ps.length<=8)(h4:Wg cs r.2)(h5:r.1∈KS)(h6:Gp cs ps g)(h7:R (.bl<|gP cs ps wy g r) S)
theorem xX:Ok P w base T.lE 2 nG:=by
 obtain⟨cs,ps,wy,r,g,e,hg,hp,h8,hw,hk,hv,q⟩:T.lE.F.bF ux;have px:=oX hg hp hw;have z:=nq (ws:=pX ps wy) xS (s9 hg hp hw hk) hv.vs;unfold Fp Sm at z;rw[NJ]at z;have q:R (.bl<|decide (cD (pX ps wy) ((ps.map λp=>ai cs r.2 p.1)++[.str r.1]) (g.1++[.str g.2.1])<0)||(decide (cD (pX ps wy) ((ps.map λp=>ai cs r.2 p.1)++[.str r.1]) (g.1++[.str g.2.1])=0)&&decide (g.2.2 ="behind"))) S:=q;refine{_,(sc (si (bi aL (dv 1)<|bn (dv 2) di) (s1<|sr<|be aL (bn (dv 2) di) ds) s0)<|s1<|sr<|aQ T.w4 (Fy T) hr<|ap 0<|ap 1<|ac (bn (dv 2) di) an),?_};refine !!!⟨Xi (g8 px) (g8 hv.pv) hk hv.key !⟨b9 (λh=>?_) λh=>?_⟩⟩;rw[zA,xV (g8 px)<|g8 hv.pv,zS]at h;rw[z.mpr h]at q;exact !!⟨fo q⟩;have n:¬cD (pX ps wy) ((ps.map λp=>ai cs r.2 p.1)++[.str r.1]) (g.1++[.str g.2.1])=0:=λe=>by rw[Bool.and_eq_true_iff.mpr {(xV (g8 px)<|g8 hv.pv).mpr (z.mp e).1,zu (z.mp e).2}]at h;cases h
 rw[zx n,zW,Bool.or_false]at q;exact !!!!{ps,wy,_,r.1,_,g.2.1,_,rfl,by rw[zb],hv.len.symm,h8,px,hv.pv,hk,hv.key,fo q}
inductive BP(ds:v0)(S:ak)(R:KD)(Z:KX):Prop where
 |mk (cs:ww)(ps:wP)(wy:Str)(r:Row)(s:Sd)(h0:ds=[.tup<|cs.map az,bN ps wy,ag r,nB s])(h1:Gd cs)(h2:Pin cs ps)(h3:ps.length<=8)(h4:Wg cs r.2)(h5:r.1∈KS)(h6:lS cs ps s)(h7:R (.bl<|Lg cs ps wy s r) S)
theorem tJ:Ok P w base T.sC 3 BP:=by obtain⟨cs,ps,wy,r,s,e,hg,hp,h8,hw,hk,hs,q⟩:T.sC.F.bF GW;have n2:=bR;refine{_,(sc (si (bi OH (dv 3)<|bc<|ac ds<|ac ds an) (s1<|sr<|be aL (dv 3) ds) s0)<|s1<|sr<|aQ T.lE (xX T) hr<|ap 1<|ac (aQ T.jZ (nA T) hr<|ap 0<|ap 1<|ap 2 an)<|ap 3 an),?_};cases s with|s=>exact (!{n2,.inl {rfl,rfl,_,rfl,iG !⟨fo q⟩}})|e=>exact (!{n2,.inl {rfl,rfl,_,rfl,iG !⟨fo q⟩}})|g g=>refine !{n2,.inr {_,false,.inl rfl,p8<|tD hs,_,rfl,aW ?_}};exact !!!!{cs,ps,wy,r,rfl,hg,hp,h8,hw,_,rfl,cs,ps,wy,r,g,rfl,hg,hp,h8,hw,hk,hs,fo q}
set_option genInjectivity true in
set_option genSizeOfSpec true in
inductive Wz where
 |on
 |back
 |first
 |last
noncomputable def HH:Wz->Str|.on=>"on"|.back=>"back"|.first=>("first")|.last=>"last"
noncomputable def jR:Wz->Wk->Sd|.on,q=>q.h|.back,q=>q.f|.first,_=>.s|.last,_=>.e
noncomputable def Lh:Wz->List (Str×Str)->List Part->Str->List Row->Sd->Nat->Nat×Nat|.on=>KA|.first=>KA|_=>Le
noncomputable def Wk.to(cs:ww)(q:Wk)(rows:wS)(s:Sd):Wk:={q.w,q.a,q.ps,q.wy,q.d,q.n,(BM cs q.ps rows s).1,(BM cs q.ps rows s).2}
theorem Xr(z:Wz):(Lh z=KA/\wa (.str<|HH z) [.str "on",.str "first"]=true)\/(Lh z=Le/\wa (.str<|HH z) [.str "on",.str "first"]=false):=by cases z;exact .inl {rfl,by trivial};exact .inr {rfl,by trivial};exact .inl {rfl,by trivial};exact .inr {rfl,by trivial}
theorem Xs(hf:lS cs q.ps q.f)(hh:lS cs q.ps q.h):∀z,lS cs q.ps (jR z q)|.on=>hh|.back=>hf|.first=>trivial|.last=>trivial
theorem Xt(z:Wz)(h:Lh z cs ps wy A s n=(b,e)):b<=e/\e<=A.length:=by have l:=oZ (cs:=cs) (ps:=ps) (wy:=wy) (A:=A) s;rcases Xr z with⟨e1,_⟩|⟨e1,_⟩<;>rw[e1]at h;have h1:kx cs ps wy A s=b:=congrArg Prod.fst h;have h2:HF A (kx cs ps wy A s) n=e:=congrArg Prod.snd h;unfold HF at h2;omega;have h1:kx cs ps wy A s-n=b:=congrArg Prod.fst h;have h2:kx cs ps wy A s=e:=congrArg Prod.snd h;omega
noncomputable def T8:ww:=[("up","down"),("down","up"),("first","last"),("last","first"),("ahead","behind"),("behind","ahead"),("start","end"),("end","start")]
inductive tK(ds:v0)(S:ak)(R:KD)(Z:KX):Prop where
 |mk (z z':Str)(h0:ds=[.str z])(h1:(z,z')∈T8)(h2:R (.str z') S)
theorem fO:Ok P w base T.fF 1 tK:=by obtain⟨z,z',e,h,q⟩:T.fF.F.bF pJ;refine{_,(sc (ck (i:=1) pJ.nd<|edd<|HB ds ds<|HB ds ds<|HB ds ds<|HB ds ds dp0)<|sc (se<|mu1 (dv 1)<|edd<|HB ds ds<|HB ds ds<|HB ds ds<|HB ds ds dp0)<|s1<|sr<|bn (dv 1)<|dv 0),?_};refine λp hp=>{aa,?_};rw[aJ];refine !{p,_,rfl,aa,λp2 eT=>{aa,?_}};rw[aJ];have kK:p≠p2:=fk aa eT;refine{p2,_,_,rfl,kK,(ae kK).trans aa,aa,Dz,?_};refine !!{_,.str z',aa,?_,S,λb c hb=>?_,q};unfold T8 at h;simp only[zi,zH,or_false,Prod.mk.injEq]at h;rcases h with⟨rfl,rfl⟩|⟨rfl,rfl⟩|⟨rfl,rfl⟩|⟨rfl,rfl⟩|⟨rfl,rfl⟩|⟨rfl,rfl⟩|⟨rfl,rfl⟩|⟨rfl,rfl⟩<;>rfl;have n1:b≠p:=fk hb hp;have n2:b≠p2:=fk ((ae n1).trans hb) eT;rw[ae n1,ae n2,ae n1];exact hb
inductive jS(ds:v0)(S:ak)(R:KD)(Z:KX):Prop where
 |mk (cs:ww)(ps:wP)(s:Sd)(h0:ds=[nB s])(h1:lS cs ps s)(h2:R (nB<|Xn s) S)
theorem jT:Ok P w base T.e8 2 jS:=by obtain⟨cs,ps,s,e,hs,q⟩:T.e8.F.bF qu;have n2:=bR;refine{_,(sc (si (bi OH (dv 0)<|bc<|ac ds<|ac ds an) (s1<|sr<|aQ T.fF (fO T) hr<|ap 0 an) s0)<|s1<|sr<|bc<|ac (bn (dv 0) di)<|ac (aQ T.fF (fO T) hr<|ac (bn (dv 0) di) an) an),?_};cases s with|s=>exact (!{n2,.inl {rfl,rfl,_,rfl,iG !{"start","end",rfl,by simp[T8],fo q}}})|e=>exact (!{n2,.inl {rfl,rfl,_,rfl,iG !{"end","start",rfl,by simp[T8],fo q}}})|g g=>have hm:(g.2.2,tZ g.2.2)∈T8:=(by rcases jP (Gp.side hs) with h|h<;>rw[h]<;>simp[T8,tZ]);exact !{n2,.inr {_,false,.inl rfl,p8<|tD hs,_,rfl,aW !!!!{g.2.2,tZ g.2.2,rfl,hm,n2,fo q}}}
inductive FD(t:eJ)(ds:v0)(S:ak)(R:KD)(Z:KX):Prop where
 |mk (q:Wk)(z:Wz)(cs:ww)(rows:wS)(h0:ds=[.ref q.w,.str<|HH z])(h1:S q.w=some (nL t.aC q))(h2:Qs t S q.a cs q.ps q.wy q.d .au rows)(h3:lS cs q.ps q.f)(h4:lS cs q.ps q.h)
  (h5:∀(A:wS)(p:Addr)(b e:Nat),Fu cs q.ps q.wy 7 q.d rows A->S p=none->Lh z cs q.ps q.wy A (jR z q) q.n=(b,e)->R (B7 p b<|A.length-e) ((S.set p<|.lst<|(seg A b e).map ag).set q.w<|nL t.aC<|q.to cs (seg A b e)<|jR z q)):FD t ds S R Z
theorem SH(B:Bm mg base):Ok P w base T.xa 16 (FD t):=by obtain⟨q,z,cs,rows,e,hk,hq,hf,hh,k⟩:T.xa.F.bF Ds;refine{_,(sc (si (bi aL (dv 1) ds) (s1<|sr<|fS (dv 0) T.ao T.xc (SE T B) hr) s0)<|sc (si (bi aL (dv 1) ds) (s1<|sr<|fS (dv 0) T.ao T.oB (KG T B) hr) s0)<|sc (si (bi aL (dv 1) ds) (s1<|sr<|fS (dv 0) T.ao T.lF (Hi T B) hr) s0)<|s1<|sr<|fS (dv 0) T.ao T.oE (KH T B) hr),?_};cases z with|on=>exact (!!⟨RU (by trivial) !{q.w,_,rfl,hk,rfl,q,cs,rows,rfl,hk,hq,hh,λA p b e hA hp he=>fo<|k A p b e hA hp he}⟩)|back=>exact (!!⟨jF (by trivial) !!⟨RU (by trivial) !{q.w,_,rfl,hk,rfl,q,cs,rows,rfl,hk,hq,hf,λA p b e hA hp he=>fo<|k A p b e hA hp he}⟩⟩)|first=>exact (!!⟨jF (by trivial) !!⟨jF (by trivial) !!⟨RU (by trivial) !{q.w,_,rfl,hk,rfl,q,cs,rows,rfl,hk,hq,trivial,λA p b e hA hp he=>fo<|k A p b e hA hp he}⟩⟩⟩)|last=>exact !!⟨jF (by trivial) !!⟨jF (by trivial) !!⟨jF (by trivial) !{q.w,_,rfl,hk,rfl,q,cs,rows,rfl,hk,hq,trivial,λA p b e hA hp he=>fo<|k A p b e hA hp he}⟩⟩⟩
noncomputable def SI(cs:ww)(ps:wP)(wy:Str)(s:Sd):D->Bool|.tup [.str k,.tup ws]=>Lg cs ps wy s (k,ws)|_=>false
theorem tL(A:wS)(p:D->Bool):(((A.map ag).filter p).map id)=(A.filter λr=>p<|ag r).map ag:=by rw[List.map_id,List.filter_map];rfl
theorem SJ{B:wS}{r1:Row}(e1:B[B.length-1]?=some r1):iW (B.map ag) (-1)=some (ag r1):=by have h0:=(ze.mp e1).1;unfold iW FZ;rw[zb,if_neg<|by decide,if_pos<|by lia,show((-1:Int)+((B.length:Nat):Int)).toNat=B.length-1 by lia];show(B.map ag)[B.length-1]?=_;rw[zm,e1];rfl
inductive vY(ds:v0)(S:ak)(R:KD)(Z:KX):Prop where
 |mk (cs:ww)(q:Wk)(la:Addr)(A:wS)(z:Wz)(h0:ds=[.tup<|cs.map az,kz q,.ref la,.str<|HH z])(h1:Gd cs)(h2:Og cs q.ps q.wy)(h3:S la=some (.lst<|A.map ag))(h4:An cs q.ps q.wy A)(h5:A.length<=60)(h6:lS cs q.ps q.f)(h7:lS cs q.ps q.h)
  (h8:∀p b e,Lh z cs q.ps q.wy A (jR z q) q.n=(b,e)->S p=none->R (.tup [B7 p b<|A.length-e,kz<|q.to cs (seg A b e)<|jR z q]) (S.set p<|.lst<|(seg A b e).map ag)):vY ds S R Z
theorem Hm:Ok P w base T.w_ 4 vY:=by
 obtain⟨cs,q,la,A,z,e,hg,ho,Li,hA,h60,hf,hh,k⟩:T.w_.F.bF bj;have hs:=Xs hf hh z;have ml:(A.map ag).length=A.length:=zb _;refine{_,(sc (sa (dv 1)<|gt (n:=5)<|gc (gn (i:=4) bj.nd)<|gc (gn (i:=5) bj.nd)<|gc (gn (i:=6) bj.nd)<|gc (gn (i:=7) bj.nd)<|gc (gn (i:=8) bj.nd) g0)<|sc (ck (i:=9) bj.nd<|bn (edd<|HB ds (dv 8)<|HB ds (dv 7)<|HB ds ds<|HB ds ds dp0)<|dv 3)<|sc (ck (i:=10) bj.nd<|cb br T.aY aK<|ac (wK (N:=["_law_row","_law_columns_here","_law_order_here","_law_gap"]) (src:=[none,some 0,some 4,some 9]) (jW GN) (il<|dv 2) (if1<|tv<|aQ T.sC (tJ T) hr<|ap 1<|ap 2<|ap 0<|ap 3 an)<|dv 0) an)<|sc (RB (i:=11) (j:=12) bj.nd<|ap 10<|ac (cb IS T.JG CO<|ac (cb br T.aY aK<|ap 2 an)<|ac (bd bw (dv 10)<|dv 6) an) an)<|sc (ql<|si (bi rN (dv 3)<|bc<|ac ds<|ac ds an) (s1<|RB (i:=11) (j:=12) bj.nd<|ac (cb Oh T.OO Js<|ac di<|ac (bd mj (dv 10)<|dv 6) an)<|ap 10 an) s0)<|sc (ck (i:=13) bj.nd<|MY (dv 2) (o1<|dv 11)<|o1<|dv 12)<|sc (ck (i:=14) bj.nd<|bc<|ap 9<|ap 9 an)<|sc (ql<|si (bi k9 (dv 13)<|cK an) (s1<|ck (i:=14) bj.nd<|bc<|ac (bc<|ac (aQ T.jZ (nA T) hr<|ap 0<|ap 4<|ac (bn (dv 13) di) an)<|ac ds an)<|ac (bc<|ac (aQ T.jZ (nA T) hr<|ap 0<|ap 4<|ac (bn (dv 13)<|Gu di) an)<|ac ds an) an) s0)<|s1<|sr<|bc<|ac (bc<|ap 13<|ap 11<|ac (bd mj (cb br T.aY aK<|ap 2 an)<|dv 12) an)<|ac (bd RD (bc<|ap 4<|ap 5<|ap 6 an)<|dv 14) an),?_};refine !!{rfl,_,_,rfl,_,_,rfl,_,_,rfl,_,_,rfl,_,_,rfl,rfl,?_};refine λp0 RV=>!!{aa,?_};rw[aJ];refine !{_,nB<|jR z q,aa,by cases z<;>rfl,?_};have s0:=Sub.new (c:=.cj [(.inr "on",nB q.h),(.inr "back",nB q.f),(.inr "first",.str "start"),(.inr "last",.str "end")]) RV;generalize S.set p0 (.cj [(.inr "on",nB q.h),(.inr "back",nB q.f),(.inr "first",.str "start"),(.inr "last",.str "end")])=S0 at s0⊢;have HC:=s0 _ _ Li;refine !{_,HC,?_};refine dA (SI cs q.ps q.wy<|jR z q) id HC (by show(A.map ag).length<=_;lia) (λx hx Q Q' hQ DL=>?_) λpf hpf=>?_;obtain⟨r,dO,rfl⟩:=zh.mp hx;exact !!!!{cs,q.ps,q.wy,r,jR z q,rfl,hg,ho.pin,ho.len,hA.rg.1 r dO,hA.ky r dO,hs,_,rfl,b9 (λh=>!⟨hQ h⟩) λh=>DL h};rw[show({A.map ag,λS=>u4 S (.ref la)<|A.map ag}:lW).xs=A.map ag from rfl,tL];have ec:((A.filter λr=>SI cs q.ps q.wy (jR z q)<|ag r).map ag).length=kx cs q.ps q.wy A (jR z q):=by rw[zb,NI,List.countP_eq_length_filter];rfl
 have s1:=s0.trans<|Sub.new (c:=.lst<|(A.filter λr=>SI cs q.ps q.wy (jR z q)<|ag r).map ag) hpf;refine{_,rfl,.inl {_,aa,?_}};rw[ec];generalize S0.set pf (.lst<|(A.filter λr=>SI cs q.ps q.wy (jR z q)<|ag r).map ag)=S1 at s1⊢;have uE:=s1 _ _ Li;have hle:=oZ (cs:=cs) (ps:=q.ps) (wy:=q.wy) (A:=A)<|jR z q;have ewz:∀b e,Lh z cs q.ps q.wy A (jR z q) q.n=(b,e)->b<=e/\e<=A.length:=λb e h=>Xt z h;refine !!!⟨.inl {_,uE,_,rfl,_,rfl,_,_,rfl,_,_,rfl,?_}⟩;have emin:(if decide (((kx cs q.ps q.wy A (jR z q):Nat):Int)+((q.n:Nat):Int)<((A.length:Nat):Int))=true then ((kx cs q.ps q.wy A (jR z q):Nat):Int)+((q.n:Nat):Int) else ((A.length:Nat):Int))=((HF A (kx cs q.ps q.wy A<|jR z q) q.n:Nat):Int):=by unfold HF;by_cases h:((kx cs q.ps q.wy A (jR z q):Nat):Int)+((q.n:Nat):Int)<((A.length:Nat):Int);rw[if_pos<|zu h];lia;rw[if_neg<|by rw[zx h];exact zd];lia
 rw[ml,emin];refine{λaA S'=>∃b e:Nat,Lh z cs q.ps q.wy A (jR z q) q.n=(b,e)/\S'=S1/\aA=[some<|.tup<|cs.map az,some<|kz q,some<|.ref la,some<|.str<|HH z,some<|bN q.ps q.wy,some q.d,some<|.int (q.n:Nat),some<|nB q.f,some<|nB q.h,some<|nB<|jR z q,some<|.int (kx cs q.ps q.wy A (jR z q):Nat),some<|.int (b:Nat),some<|.int (e:Nat),none,none],?_,?_};have no:wa (.str<|HH z) [.str "back",.str "last"]=false->Lh z=KA:=by cases z<;>first|exact λ_=>rfl|(intro h;exact absurd h<|by trivial)
 have ye:wa (.str<|HH z) [.str "back",.str "last"]=true->Lh z=Le:=by cases z<;>first|exact λ_=>rfl|(intro h;exact absurd h<|by trivial)
 refine !{bR,rfl,rfl,_,rfl,b9 (λh=>?_) λh=>?_};refine !!{_,_,rfl,_,rfl,_,_,rfl,?_};have emax:(if (λa b:Int=>decide<|b<a) (((kx cs q.ps q.wy A (jR z q):Nat):Int)-((q.n:Nat):Int)) 0=true then ((kx cs q.ps q.wy A (jR z q):Nat):Int)-((q.n:Nat):Int) else 0)=((kx cs q.ps q.wy A (jR z q)-q.n:Nat):Int):=by dsimp only;by_cases h:(0:Int)<((kx cs q.ps q.wy A (jR z q):Nat):Int)-((q.n:Nat):Int);rw[if_pos<|zu h];lia;rw[if_neg<|by rw[zx h];exact zd];lia
 rw[emax];exact fo {_,_,by rw[ye h];rfl,rfl,rfl};exact fo {_,_,by rw[no h];rfl,rfl,rfl};rintro aA S2 ⟨b,e,he,rfl,rfl⟩;obtain⟨Lk,QP⟩:=ewz b e he;refine !!!!!{_,uE,λp hp=>?_};rw[Ft Lk QP];refine !!{bR,?_};have B4:∀r∈seg A b e,r∈A:=λr dO=>gq dO;refine{λaA S'=>S'=S2.set p (.lst<|(seg A b e).map ag)/\aA=[some<|.tup<|cs.map az,some<|kz q,some<|.ref la,some<|.str<|HH z,some<|bN q.ps q.wy,some q.d,some<|.int (q.n:Nat),some<|nB q.f,some<|nB q.h,some<|nB<|jR z q,some<|.int (kx cs q.ps q.wy A (jR z q):Nat),some<|.int (b:Nat),some<|.int (e:Nat),some<|.ref p,some<|.tup [nB (BM cs q.ps (seg A b e)<|jR z q).1,nB (BM cs q.ps (seg A b e)<|jR z q).2]],?_,?_};have Sz:∀{S':ak},∀d∈(seg A b e).map ag,Ly S' 60 d:=λ{S'} d hd=>by obtain⟨r,dO,rfl⟩:=zh.mp hd;exact Kq (hA.ky r<|B4 r dO)<|hA.rg.1 r<|B4 r dO
 refine !{uA,λpe ML=>Nv ((Sub.new ML) _ _ aa) aa Sz !⟨?_⟩};generalize seg A b e=Bs at ML B4⊢;cases Bs with|nil=>exact aW {_,.new ML,rfl,rfl}|cons r0 B=>have e1:(r0::B)[(r0::B).length-1]?=some ((r0::B)[(r0::B).length-1]'(by simp)):=zg (by simp);generalize (r0::B)[(r0::B).length-1]'(by simp)=r1 at e1;have w0:=hA.rg.1 r0<|B4 r0 zj;have w1:=hA.rg.1 r1<|B4 r1<|zG e1;have n2:=bR;have Xu:=(Sub.new (c:=.lst []) ML) _ _<|aa (S:=S2) (a:=p) (c:=.lst<|(r0::B).map ag);refine eU !!!{_,ag r0,Xu,bZ (j:=0) rfl,cs,q.ps,q.wy,r0,rfl,hg,ho.pin,ho.len,w0,n2,?_};refine !!!!{_,ag r1,Xu,SJ e1,cs,q.ps,q.wy,r1,rfl,hg,ho.pin,ho.len,w1,n2,n2,?_};refine{_,.new ML,rfl,?_};unfold BM;rw[e1];rfl
 rintro aA S' ⟨rfl,rfl⟩;have YJ:=(Sub.new (c:=.lst<|(seg A b e).map ag) hp) _ _ uE;refine !!!!⟨.inl {_,YJ,_,rfl,mP,_,rfl,_,rfl,_,rfl,mP,_,rfl,_,_,rfl,rfl,List.cons_ne_nil _ _,List.cons_ne_nil _ _,M9,bR,?_}⟩;rw[ml,show((A.length:Nat):Int)-((e:Nat):Int)=((A.length-e:Nat):Int) by lia];exact{_,bD s1,k p b e he<|bz s1 hp}
theorem Sg.up:∀{n:Nat}{d:D},Sg cs n d->Sg cs (n+1) d|0,_,h=>h.elim|n+1,d,h=>by rcases h with h|⟨e,h1,h2⟩|⟨o,ds,h1,h2,h3,h4⟩;exact .inl h;exact .inr<|.inl ⟨e,h1,h2.up⟩;exact .inr<|.inr {o,ds,h1,h2,h3,λe he=>(h4 e he).up}
theorem Pb:∀{n:Nat}{d:D},Sg cs n d->oR (n+1) d=oR n d|0,_,h=>h.elim|n+1,d,h=>by show((m6 d).map<|oR<|n+1).sum+1=((m6 d).map<|oR n).sum+1;rw[zV λf hf=>Pb<|JW h f hf]
theorem Pc(h:Sg cs n d)(h2:oR n d<=40):∀k,Sg cs (n+k) d/\oR (n+k) d<=40|0=>⟨h,h2⟩|k+1=>by obtain⟨a,b⟩:=Pc h h2 k;exact{a.up,by show oR (n+k+1) d<=40;rw[Pb a];exact b}
theorem Xv{cs:ww}{m:Nat}{d:D}(hm:m<3)(hd:Sg cs (m+1) d)(hsz:oR (m+1) d<=O4 (m+1)):Sq cs d:=by have h13:oR (m+1) d<=40:=zI hsz (by rcases m with _|_|_|m<;>first|decide|lia);obtain⟨a,b⟩:=Pc hd h13<|6-m;rw[show m+1+(6-m)=7 by lia]at a b;exact{a,by lia}
theorem KR{P:Program}{w:World}{K:Frag}{mg:Str->Option Value}{base:Heap}{k N:Nat}{f:Addr}{fd:FuncData}{ps:j4}{sp:Nat->rP}(F:∀n,n<=N->bT P w K mg base (fR P w mg) k f fd ps (tQ K<|sp n)):bT P w K mg base (fR P w mg) k f fd ps (tQ K λds S R Z=>∃n,n<=N/\sp n ds S R Z):=by refine{?_,?_};rintro vs H Q E ⟨ds,S,R,Z,a,b,⟨n,hn,c⟩,d⟩;exact(F n hn).len vs H Q E ⟨ds,S,R,Z,a,b,c,d⟩;rintro A outer s H args us vs Q E hr he hb hv ⟨ds,S,R,Z,a,b,⟨n,hn,c⟩,d⟩;exact(F n hn).run A outer s H args us vs Q E hr he hb hv ⟨ds,S,R,Z,a,b,c,d⟩
structure YR(cs:ww)(q:Wk):Prop where
 o:Og cs q.ps q.wy
 s:Sq cs q.d
 n1:1<=q.n
 n2:q.n<=1000
 f:lS cs q.ps q.f
 h:lS cs q.ps q.h
theorem Xw(c:Int):∃m:Nat,c%3=(m:Nat)/\m<3:=by obtain⟨m,em⟩:=Int.eq_ofNat_of_zero_le<|show 0<=c%3 from zO _ (by decide);exact{m,em,by have:=zL c (show(0:Int)<3 by decide);lia}
theorem ab7{xs:sB}(h:xs.length=18):(cq xs (some 4) none).length<=20/\∀x∈cq xs (some 4) none,x∈xs:=by unfold cq;exact{by rw[yp,List.length_drop];lia,λx hx=>List.mem_of_mem_drop<|List.mem_of_mem_take hx}
inductive vZ(ds:v0)(S:ak)(R:KD)(Z:KX):Prop where
 |mk (cs:ww)(q:Wk)(la:Addr)(A:wS)(h0:ds=[.tup<|cs.map az,kz q,.ref la])(h1:Gd cs)(h2:Og cs q.ps q.wy)(h3:S la=some (.lst<|A.map ag))(h4:An cs q.ps q.wy A)(h5:A.length<=60)(h6:lS cs q.ps q.f)(h7:lS cs q.ps q.h)
  (h8:∀p,S p=none->R (.ref p) (S.set p<|.lst<|cq (A.map ag) (some ((kx cs q.ps q.wy A q.f:Nat):Int))<|some ((kx cs q.ps q.wy A q.h:Nat):Int))):vZ ds S R Z
theorem Hn:Ok P w base T.xb 4 vZ:=by
 obtain⟨cs,q,la,A,e,hg,ho,Li,hA,h60,hf,hh,k⟩:T.xb.F.bF du;have ml:(A.map ag).length=A.length:=zb _;have l1:=oZ (cs:=cs) (ps:=q.ps) (wy:=q.wy) (A:=A) q.f;have l2:=oZ (cs:=cs) (ps:=q.ps) (wy:=q.wy) (A:=A) q.h;have fin:((A.filter λr=>!Lg cs q.ps q.wy q.f r).filter λr=>Lg cs q.ps q.wy q.h r).map ag=cq (A.map ag) (some ((kx cs q.ps q.wy A q.f:Nat):Int)) (some ((kx cs q.ps q.wy A q.h:Nat):Int)):=by rw[List.filter_filter,BO (b:=kx cs q.ps q.wy A q.f) (e:=kx cs q.ps q.wy A q.h) λi a ei=>?_];unfold cq;rw[HT.sIx_nat,HT.sIx_nat,ml,Nat.min_eq_left l1,Nat.min_eq_left l2,List.map_take,List.map_drop];have h1:=KQ hg ho.pin hA hf ei;have h2:=KQ hg ho.pin hA hh ei;rw[zA,h2,Bool.not_eq_true',<-Bool.not_eq_true,h1];lia
 rw[<-fin]at k;refine{_,(sc (sa (dv 1)<|gt (n:=5)<|gc (gn (i:=3) du.nd)<|gc (gn (i:=4) du.nd)<|gc (gn (i:=5) du.nd)<|gc (gn (i:=6) du.nd)<|gc (gn (i:=7) du.nd) g0)<|sc (qm (N:=["_law_row","_law_columns_here","_law_order_here","_law_fore"]) (src:=[none,some 0,some 3,some 6]) 8 du.nd (jW vk) (il<|dv 2) (if1<|cX<|tv<|aQ T.sC (tJ T) hr<|ap 1<|ap 2<|ap 0<|ap 3 an)<|dv 0)<|s1<|sr<|wK (N:=["_law_row","_law_columns_here","_law_order_here","_law_hinder"]) (src:=[none,some 0,some 3,some 7]) (jW vk) (il<|dv 8) (if1<|tv<|aQ T.sC (tJ T) hr<|ap 1<|ap 2<|ap 0<|ap 3 an)<|dv 0),?_};refine !!{rfl,_,_,rfl,_,_,rfl,_,_,rfl,_,_,rfl,_,_,rfl,rfl,?_};refine !{_,Li,?_};refine dA (λx=>!SI cs q.ps q.wy q.f x) id Li (by show(A.map ag).length<=_;lia) (λx hx Q Q' hQ DL=>?_) λpf hpf=>?_;obtain⟨r,dO,rfl⟩:=zh.mp hx;exact !!!!{cs,q.ps,q.wy,r,q.f,rfl,hg,ho.pin,ho.len,hA.rg.1 r dO,hA.ky r dO,hf,_,rfl,b9 (λh=>!⟨hQ h⟩) λh=>DL h};rw[show({A.map ag,λS=>u4 S (.ref la)<|A.map ag}:lW).xs=A.map ag from rfl,tL,show(A.filter λr=>(λx=>!SI cs q.ps q.wy q.f x)<|ag r)=A.filter λr=>!Lg cs q.ps q.wy q.f r from rfl];have B4:∀r∈A.filter (λr=>!Lg cs q.ps q.wy q.f r),r∈A:=λr h=>(yn.mp h).1;have hlb:(A.filter λr=>!Lg cs q.ps q.wy q.f r).length<=60:=zI (yA _ _) h60;generalize (A.filter λr=>!Lg cs q.ps q.wy q.f r)=B at B4 hlb k⊢;have s1:=Sub.new (c:=.lst<|B.map ag) hpf;have iY:(S.set pf<|.lst<|B.map ag) pf=some (.lst<|B.map ag):=aa;generalize S.set pf (.lst<|B.map ag)=S1 at s1 iY⊢;refine !{_,iY,?_};refine dA (SI cs q.ps q.wy q.h) id iY (by show(B.map ag).length<=_;rw[zb];lia) (λx hx Q Q' hQ DL=>?_) λpg hpg=>?_;obtain⟨r,dO,rfl⟩:=zh.mp hx;exact !!!!{cs,q.ps,q.wy,r,q.h,rfl,hg,ho.pin,ho.len,hA.rg.1 r<|B4 r dO,hA.ky r<|B4 r dO,hh,_,rfl,b9 (λh=>!⟨hQ h⟩) λh=>DL h};rw[show({B.map ag,λS=>u4 S (.ref pf)<|B.map ag}:lW).xs=B.map ag from rfl,tL];exact{_,bD s1,k pg<|bz s1 hpg}
inductive p9(t:eJ)(ds:v0)(S:ak)(R:KD)(Z:KX):Prop where
 |mk (cs:ww)(q:Wk)(lx:Addr)(xs:sB)(F:im)(dl:v0)(rs:mU)(h0:ds=[.ref q.w,.tup<|cs.map az,kz q,.ref lx])(h1:Cg cs)(h2:YR cs q)(h3:S q.w=some (nL t.aC q))(h4:S lx=some (.lst<|xs.map D.int))(h5:xs.length=18)(h6:∀x∈xs,0<=x)(h7:bY t.ar S q.a F cs dl rs)
  (h8:∀q':Wk,q'.w=q.w->q'.a=q.a->YR cs q'->R (kz q') (S.set q.w<|nL t.aC q')):p9 t ds S R Z
theorem BQ:Ok P w base T.oA 8 (p9 t):=by
 have o_:Ok P w base T.eZ 5 _:=KR (sp:=Nz) (N:=3) λn hn=>(j9 T n).mono (by lia);obtain⟨cs,q,lx,xs,F,dl,rs,e,SK,hw,hk,hX,HD,Xx,hS,k⟩:T.oA.F.bF bQ;have hg:=SK.1;have ho:=hw.o;have at_:∀k:Nat,k<18->∃x:Int,iW (xs.map D.int) ((k:Nat):Int)=some (.int x)/\0<=x:=λk hk=>mX (by lia) (by rw[zb];lia) Xx;obtain⟨x1,e1,_⟩:=at_ 1 (by decide);obtain⟨x2,e2,_⟩:=at_ 2 (by decide);have n5:=M9;refine{_,(sc (sa (dv 2)<|gt (n:=5)<|gc (gn (i:=4) bQ.nd)<|gc (gn (i:=5) bQ.nd)<|gc (gn (i:=6) bQ.nd)<|gc (gn (i:=7) bQ.nd)<|gc (gn (i:=8) bQ.nd) g0)<|sc (si (bi aL (bd bq (bn (dv 3) di) di) di) (sc (si (bi jc (fS (dv 0) T.ao T.oF (KL T) hr) dn) (s1<|sr dn) s0)<|sc (qm (N:=["_law_part"]) (src:=[none]) 9 bQ.nd (jW AZ) (EF<|bn (dv 4) di) pC<|bc<|ac (bn (dv 0) di)<|ac (aQ T.fF (fO T) hr<|ac (bn (dv 0) di) an)<|ac (aQ T.fF (fO T) hr<|ac (bn (dv 0) di) an) an)<|s1<|sr<|bc<|ac (bc<|ac (ct eV T.bC aX<|ap 9 an)<|ac (aQ T.fF (fO T) hr<|ac (bn (dv 4) di) an) an)<|ap 5<|ap 6<|ac (aQ T.e8 (jT T) hr<|ap 8 an)<|ac (aQ T.e8 (jT T) hr<|ap 7 an) an) s0)<|sc (si (bi aL (bd bq (bn (dv 3) di) di) di) (sc (ck (i:=10) bQ.nd<|aQ T.eZ o_ hr<|ap 1<|ac (MY (dv 3) (o1 di) o0)<|ac (bd bq (bn (dv 3) di) di) an)<|sc (si (bi jc (lZ (dv 0) T.ao T.gE (Hj T) hr<|ap 10 an) dn) (s1<|sr dn) s0)<|s1<|sr<|bc<|ap 4<|ap 10<|ap 6<|ap 7<|ap 8 an) s0)<|sc (si (bi jc (lZ (dv 0) T.ao T.ir (KJ T) hr<|ac (aQ T.oz (qS T) hr<|ac (bn (dv 3) di) an) an) dn) (s1<|sr dn) s0)<|s1<|sr<|bc<|ap 4<|ap 5<|ac (aQ T.oz (qS T) hr<|ac (bn (dv 3) di) an)<|ap 7<|ap 8 an),?_};refine !!{rfl,_,_,rfl,_,_,rfl,_,_,rfl,_,_,rfl,_,_,rfl,rfl,?_};refine !{_,_,hX,e1,by decide,_,rfl,b9 (λ_=>?_) λ_=>?_};refine !{q.w,_,rfl,hk,rfl,q,cs,rfl,hk,ho,hw.f,hw.h,_,rfl,aW ?_};have kq:=k q.tn rfl rfl ⟨ho.tu,hw.s,hw.n1,hw.n2,hw.h.tu,hw.f.tu⟩;generalize S.set q.w (nL t.aC q.tn)=S1 at kq⊢;refine !!{_,.inl rfl,?_};refine comp_map YQ trivial (by show(q.ps.map p3).length<=1000;rw[zb];have:=ho.len;lia) (λd hd Q hQ=>?_) λp j5=>?_;obtain⟨r,dO,rfl⟩:=zh.mp hd;have m1:(r.2.1,tW r.2.1)∈T8:=by rcases jP (ho.Se r dO) with h|h<;>rw[h]<;>simp[T8,tW]
 have m2:(r.2.2,tE r.2.2)∈T8:=by rcases jP (ho.two r dO) with h|h<;>rw[h]<;>simp[T8,tE]
 exact !!!!{r.2.1,_,rfl,m1,_,rfl,_,rfl,r.2.2,_,rfl,m2,mP,hQ};have e3:(q.ps.map p3).map YQ=(q.ps.map tP).map p3:=by rw[zq,zq];rfl
 rw[show({q.ps.map p3,λ_=>True}:lW).xs=q.ps.map p3 from rfl,e3];have m3:(q.wy,tW q.wy)∈T8:=by rcases jP ho.way with h|h<;>rw[h]<;>simp[T8,tW]
 exact !{_,_,rfl,.inl aa,_,rfl,_,rfl,q.wy,_,rfl,m3,bR,_,rfl,_,rfl,_,rfl,cs,q.ps,q.h,rfl,hw.h,_,rfl,cs,q.ps,q.f,rfl,hw.f,n5,S1,.new j5,kq};refine !{_,_,hX,e1,by decide,_,rfl,b9 (λ_=>?_) λ_=>?_};obtain⟨m,em,hm⟩:=Xw x2;obtain⟨c1,c2⟩:=ab7 HD;refine !!!{_,hX,λp hp=>!{_,_,(Sub.new hp) _ _ hX,e2,by decide,?_}};refine{m+1,by lia,cs,p,m,cq xs (some 4) none,rfl,by rw[em];rfl,SK,by rw[jK];exact aa,c1,λx hx=>Xx x<|c2 x hx,λd ys hd hsz _ _=>?_};rw[aJ];have hsq:=Xv hm hd hsz;have s1:=Sub.new (c:=.lst<|ys.map D.int) hp;refine !{q.w,_,rfl,s1 _ _ hk,rfl,_,rfl,q,cs,d,F,dl,rs,rfl,s1 _ _ hk,hg,hsq,hS.sub s1,_,rfl,aW ?_};exact !!!!!{n5,_,bD s1,k ⟨q.w,q.a,q.ps,q.wy,d,q.n,q.f,q.h⟩ rfl rfl ⟨ho,hsq,hw.n1,hw.n2,hw.f,hw.h⟩};obtain⟨n1,n2⟩:=Kx x2;refine !{q.w,_,rfl,hk,rfl,_,rfl,_,_,hX,e2,x2,rfl,q,HG x2,rfl,hk,n1,n2,_,rfl,aW ?_};have kK:lx≠q.w:=λe=>by rw[e,hk]at hX;cases hX
 exact !!!{_,_,(ae kK).trans hX,e2,x2,rfl,_,rfl,_,rfl,n5,fo<|k {q.w,q.a,q.ps,q.wy,q.d,HG x2,q.f,q.h} rfl rfl ⟨ho,hw.s,n1,n2,hw.f,hw.h⟩}
theorem SM(hN:∀c∈cs,c.1∈xB)(ho:Og cs ps wy):Ly S 3 (bN ps wy):=by
 have way:∀z:Str,kr z=true->PyData.strOk z=true:=λz h=>by unfold kr at h;rw[yR]at h;rcases h with q|q<;>rw[zC q]<;>decide +kernel
 have hb:=ho.ok;unfold Bk at hb;simp only[zA,zR]at hb;refine Ly.tup λd hd=>?_;simp only[zi,zH,or_false]at hd;rcases hd with rfl|rfl;refine Ly.tup λd hd=>?_;obtain⟨p,hp,rfl⟩:=zh.mp hd;obtain⟨c,hc,ec⟩:=ho.pin p hp;have hb:=hb.2.1 p hp;unfold sT at hb;simp only[zA]at hb;have he:PyData.strOk p.2.2=true:=by have h:=hb.2.2;unfold Bj at h;rw[yR]at h;rcases h with q|q<;>rw[zC q]<;>decide +kernel
 refine Ly.tup λd hd=>?_;simp only[zi,zH,or_false]at hd;rcases hd with rfl|rfl|rfl;exact .str (by rw[<-ec];exact(xC _<|hN c hc).2);exact .str<|way _ hb.2.1;exact .str he;exact(Ly.str<|way _ ho.way).le<|by decide
theorem Pd:∀{s:Sd},lS cs ps s->Ly S 3 (nB s)|.s,_=>(Ly.str<|by trivial).le (by decide)|.e,_=>(Ly.str<|by trivial).le (by decide)|.g _,h=>tD h
theorem KY(hN:∀c∈cs,c.1∈xB):∀{n:Nat}{d:D},Sg cs n d->Ly S (2*n+1) d|0,_,h=>h.elim|n+1,d,h=>by rcases h with (rfl|⟨ks,rfl,_,hk⟩|⟨o,c,v,hc,hv,ho,rfl⟩)|⟨e,rfl,he⟩|⟨o,ds,ho,rfl,_,he⟩;exact(Ly.tup (n:=0) λd hd=>by rw[zK.mp hd];exact .str<|by trivial).le (by lia);refine(Ly.tup (n:=1) λd hd=>?_).le (by lia);simp only[zi,zH,or_false]at hd;rcases hd with rfl|rfl;exact(Ly.str<|by trivial).le (by decide);refine Ly.tup λd hd=>?_;obtain⟨k,h1,rfl⟩:=zh.mp hd;exact .str (fL _<|hk k h1).2.2;refine(Ly.tup (n:=0) λd hd=>?_).le (by lia);simp only[zi,zH,or_false]at hd;rcases hd with rfl|rfl|rfl;rcases ho with rfl|⟨_,rfl|rfl|⟨rfl,_⟩⟩<;>exact .str (by trivial);exact .str (xC _<|hN c hc).2;exact .plain hv.2;refine(Ly.tup (n:=2*n+1) λd hd=>?_).le (by lia);simp only[zi,zH,or_false]at hd;rcases hd with rfl|rfl;exact(Ly.str<|by trivial).le (by lia);exact KY hN he;refine(Ly.tup (n:=2*n+2) λd hd=>?_).le (by lia);simp only[zi,zH,or_false]at hd;rcases hd with rfl|rfl;rcases ho with rfl|rfl<;>exact(Ly.str<|by trivial).le (by lia);exact Ly.tup λe h1=>KY hN<|he e h1
theorem Xy(hN:∀c∈cs,c.1∈xB)(ho:Og cs q.ps q.wy)(hd:Sq cs q.d)(hf:lS cs q.ps q.f)(hh:lS cs q.ps q.h):Ly S 16 (kz q):=Ly.tup λd h=>by simp only[zi,zH,or_false]at h;rcases h with rfl|rfl|rfl|rfl|rfl;exact(SM hN ho).le (by decide);exact KY hN hd.1;exact(Ly.plain rfl).le (by decide);exact(Pd hf).le (by decide);exact(Pd hh).le<|by decide
noncomputable def fsQ(t:eJ)(lk lc:Addr)(kn:Kn)(q:Wk)(cells:sB):List (Addr×Ce):=[(lk,.cj<|hG kn),(q.w,nL t.aC q),(lc,.lst<|cells.map D.int)]
noncomputable def Ua(ns:sB)(cs:ww)(x2 x3:D)(a lm lk wk:Addr)(x8:D)(o:List<|Option D):SD:=some (.k8<|ns.map D.int)::some (.tup<|cs.map az)::some x2::some x3::some (.ref a)::some (.ref lm)::some (.ref lk)::some (.ref wk)::some x8::o
inductive Iw(t:eJ)(S0:ak)(ns:sB)(cs:ww)(x2 x3:D)(a lm lk lc wk:Addr)(cells:sB)(i:Nat)(aA:SD)(S':ak):Prop where
 |mk (kn:Kn)(q:Wk)(F:im)(dl:v0)(rs:mU)(o9 YS Ub YT Xz SN Uc:wn)(h0:aA=Ua ns cs x2 x3 a lm lk wk (kz q) [o9,YS,Ub,YT,Xz,SN,Uc])(hw:q.w=wk)(ha:q.a=a)(h1:YR cs q)(h2:St t S0 a (fsQ t lk lc kn q cells) F cs dl rs S')(h3:KI cs kn)(h4:RI rs dl.length kn)(h5:dl.length<=99+i):Iw t S0 ns cs x2 x3 a lm lk lc wk cells i aA S'
theorem SO(hg:Gd cs)(hp:Pin cs ps)(hr:∀r∈rows,Wg cs r.2/\r.1∈KS)(hs:lS cs ps s):lS cs ps (BM cs ps rows s).1/\lS cs ps (BM cs ps rows s).2:=by unfold BM;cases e0:rows[0]? with|none=>exact⟨hs,hs⟩|some r0=>cases e1:rows[rows.length-1]? with|none=>exact⟨hs,hs⟩|some r1=>have h0:=hr r0<|zG e0;have h1:=hr r1<|zG e1;exact{Ku hg hp h0.1 h0.2<|by trivial,Ku hg hp h1.1 h1.2<|by trivial}
theorem ab9(ns:sB):(cq ns (some 4)<|some 12).length<=40:=by unfold cq;rw[show HT.sIx ns.length 0 (some 4)=min 4 ns.length from HT.sIx_nat ..,show HT.sIx ns.length ns.length (some 12)=min 12 ns.length from HT.sIx_nat ..];exact zI (List.length_take_le _ _)<|by lia
theorem XB(ns:sB):(cq ns (some 12)<|some 42).length<=30:=by unfold cq;rw[show HT.sIx ns.length 0 (some 12)=min 12 ns.length from HT.sIx_nat ..,show HT.sIx ns.length ns.length (some 42)=min 42 ns.length from HT.sIx_nat ..];exact zI (List.length_take_le _ _)<|by lia
inductive KZ(t:eJ)(ds:v0)(S:ak)(R:KD)(Z:KX):Prop where
 |mk (ns:sB)(h0:ds=[.k8<|ns.map D.int])(h1:ns.length<=63)(h2:Tb t S)(h3:R (.bl true) S)
theorem NK(B:Bm mg base):Ok P w base T.law 20 (KZ t):=by
 have o_:Ok P w base T.eZ 5 _:=KR (sp:=Nz) (N:=3) λn hn=>(j9 T n).mono (by lia);have tw:Ok P w base T.oy 7 (Xj t):=(Fc T).Q8 λds S R Z h=>h.of;obtain⟨ns,e,Rk,htb,q⟩:T.law.F.bF cB;refine{_,(sc (ck (i:=1) cB.nd<|aQ T.ox (DM T) hr<|ac (aQ T.dy (dZ T) hr<|ap 0<|ac di an) an)<|sc (ck (i:=2) cB.nd<|aQ T.wZ (Kg T) hr<|ap 1<|ac (aQ T.dy (dZ T) hr<|ap 0<|ac di an) an)<|sc (ql<|ck (i:=3) cB.nd<|aQ T.eZ o_ hr<|ap 1<|ac (aQ T.iq (jG T) hr<|ac (aQ T.dy (dZ T) hr<|ap 0<|ac di an)<|ac di an)<|ac (bd bq (aQ T.dy (dZ T) hr<|ap 0<|ac di an) di) an)<|sc (sa (aQ T.w9 (Kz T) hr<|ap 1<|ac (MY (dv 0) (o1 di)<|o1 di) an)<|gt (n:=3)<|gc (gn (i:=4) cB.nd)<|gc (gn (i:=5) cB.nd)<|gc (gn (i:=6) cB.nd) g0)<|sc (ck (i:=7) cB.nd<|mk T.M7 (KC T) (hr.mono<|by decide) T.M6 T.gD.b d0<|ap 4<|ap 2<|ap 3<|ac (aQ T.oz (qS T) hr<|ac (bd bU (aQ T.dy (dZ T) hr<|ap 0<|ac di an) di) an) an)<|sc (ql<|ck (i:=8) cB.nd<|bc<|ap 2<|ap 3<|ac (aQ T.oz (qS T) hr<|ac (bd bU (aQ T.dy (dZ T) hr<|ap 0<|ac di an) di) an)<|ac ds<|ac ds an)<|sc (ql<|Hy (il<|MY (dv 0) (o1 di)<|o1 di) (gn (i:=9) cB.nd)<|sc (ck (i:=10) cB.nd<|aQ T.iq (jG T) hr<|ap 9<|ac di an)<|sc (ck (i:=11) cB.nd<|cK<|ac ds<|ac ds<|ac ds<|ac ds<|ac ds<|ac ds<|ac ds<|ac ds<|ac ds<|ac (wD<|bn (cK<|ac ds<|ac ds an)<|bd bq (bn (dv 10) di) di) an)<|sc (ql<|ck (i:=12) cB.nd<|bn (dv 11)<|bd bq (bn (dv 10) di) di)<|sc (ql<|ck (i:=13) cB.nd<|aQ T.w5 (Hl T) hr<|ap 1<|ac (bn (dv 8) di)<|ac (bn (dv 8) di)<|ac (aQ T.sA (tq T) hr<|ap 6 an) an)<|sc (ql<|si (bi aL (dv 12) ds) (s1<|se<|aQ T.oy tw hr<|ap 4<|ac (aQ T.w6 (BK T) hr<|ap 1<|ap 6<|ac (bd bU (dv 9) di) an) an)<|s1<|si (bi aL (dv 12) ds) (sc (ck (i:=8) cB.nd<|aQ T.oA (BQ T) hr<|ap 7<|ap 1<|ap 8<|ap 10 an)<|s1<|si (bi ib (dv 8) dn) (s1<|sr db) s0)<|s1<|si (bi aL (dv 12) ds) (sc (ck (i:=14) cB.nd<|fS (dv 7) T.ao T.lG (Hh T B) hr)<|sc (si (twd<|twor (cX<|tv<|cb c8 T.ay av<|ap 14<|ac (ug T.JF Es) an)<|tw1<|bi k9 (dv 14)<|aQ T.xb (Hn T) hr<|ap 1<|ap 8<|ap 13 an) (s1<|sr db) s0)<|s1<|se<|bm0 zM PySem.F.slot_list_clear PySem.F.type_list_clear EI<|dv 14)<|sc (ql<|sa (aQ T.w_ (Hm T) hr<|ap 1<|ap 8<|ap 13<|ap 12 an)<|gt (n:=2)<|gc (gn (i:=15) cB.nd)<|gc (gn (i:=8) cB.nd) g0)<|sc (ql<|ck (i:=14) cB.nd<|aQ T.xa (SH T B) hr<|ap 7<|ap 12 an)<|sc (si (twd<|twor (bi WG (dv 14)<|dv 15)<|twor (cX<|tv<|cb c8 T.ay av<|ap 14<|ac (ug T.bC aX) an)<|tw1<|cX<|tv<|cb c8 T.ay av<|ac (bn (dv 14) di)<|ac (ug T.JF Es) an) (s1<|sr db) s0)<|s1<|se<|bm0 zM PySem.F.slot_list_clear PySem.F.type_list_clear EI<|bn (dv 14) di)<|s1<|si (twd<|twor (bi k9 (fS (dv 7) T.ao T.gk (tI T) hr)<|dv 8)<|tw1<|bi k9 (fS (dv 7) T.ao T.gk (tI T) hr)<|dv 8) (s1<|sr db) s0)<|s1<|sr<|be aL (VT (dv 4) T.aq T.eW.e ((vt T).mono<|by decide) hr T.oj d1)<|aQ T.sA (tq T) hr<|ap 6 an),?_};refine !{ns,0,rfl,λc0 _=>{c0,rfl,λcs SK=>?_}};have hg:=SK.1;refine !!{ns,1,rfl,λc1 _=>{cs,c1,rfl,hg,λHo Hq ho0=>?_}};refine{λaA S'=>∃d0,Sq cs d0/\Sub S S'/\aA=[some<|.k8<|ns.map D.int,some<|.tup<|cs.map az,some<|bN Ho Hq,some d0,none,none,none,none,none,none,none,none,none,none,none,none],?_,?_};refine !!{ns,2,rfl,λc2 _=>{c2,14,rfl,by decide,λxs lx HD hx Aq=>!{ns,3,rfl,λc3 _=>{by decide,?_}}}};obtain⟨m,em,hm⟩:=Xw c3;refine{m+1,by lia,cs,lx,m,xs,rfl,by rw[em];rfl,SK,aa,by lia,hx,λd ys hd hsz _ _=>?_};rw[aJ];exact fo {d,Xv hm hd hsz,.new Aq,rfl};rintro aA S1 ⟨d0,XD,s1,rfl⟩;refine !!!!⟨λp1 iY=>{cs,p1,cq ns (some 4)<|some 12,rfl,hg,by rw[jK];exact aa,ab9 ns,λS4 a lk lm XE ce F0 Ud Ue hb=>?_}⟩;have s3:=s1.trans<|Sub.new (c:=.lst<|cq (ns.map D.int) (some 4)<|some 12) iY;generalize S1.set p1 (.lst<|cq (ns.map D.int) (some 4)<|some 12)=S0 at s3 hb;clear iY s1;refine !{rfl,_,_,rfl,_,_,rfl,_,_,rfl,rfl,?_};have hI0:=hb.ki;have hR0:=hb.ri;have HC:=hb.le;have Xk:St t S0 a [(lk,.cj<|hG XE)] F0 cs Ud Ue S4:=hb.st.less (by simp) λx hx=>by rw[zK.mp hx];exact zj
 clear hb;refine !!!!{ns,3,rfl,λc3 h3=>{{by decide,by trivial},_,rfl,?_}};obtain⟨n1,n2⟩:=Kx<|c3/3;refine λwk Pe=>?_;refine{wk,a,cs,Ho,Hq,d0,HG<|c3/3,F0,Ud,Ue,rfl,hg,ho0,XD,n1,n2,Xk.sh.sub<|.new Pe,aa,rfl,?_};rw[aJ];have Ld:=Xk.new Pe<|nL t.aC {wk,a,Ho,Hq,d0,HG<|c3/3,.s,.s};generalize S4.set wk (nL t.aC {wk,a,Ho,Hq,d0,HG<|c3/3,.s,.s})=S5 at Ld⊢;refine{λaA S'=>∃q0:Wk,q0.w=wk/\q0.a=a/\YR cs q0/\St t S0 a [(lk,.cj<|hG XE),(q0.w,nL t.aC q0)] F0 cs Ud Ue S'/\aA=Ua ns cs (bN Ho Hq) d0 a lm lk wk (kz q0) [none,none,none,none,none,none,none],?_,?_};refine !!!{ns,3,rfl,λc4 h4=>{{by decide,by trivial},_,rfl,M9,?_}};have ec:c4=c3:=by rw[h4,h3]
 subst ec;exact fo {{wk,a,Ho,Hq,d0,HG<|c4/3,.s,.s},rfl,rfl,⟨ho0,XD,n1,n2,trivial,trivial⟩,Ld,rfl};clear Pe Ld S5 Xk S4;rintro aA S5 ⟨q0,hw0,ha0,SQ,Ld,rfl⟩;refine{λaA S'=>∃lc cells i,Iw t S0 ns cs (bN Ho Hq) d0 a lm lk lc wk cells i aA S',?_,?_};refine !!!⟨λlc hlc=>{_,aa,?_}⟩;have Ap:=XB ns;rw[jK];generalize cq ns (some 12) (some 42)=cells at Ap⊢;have Cb:=Ld.new hlc<|.lst<|cells.map D.int;refine{Iw t S0 ns cs (bN Ho Hq) d0 a lm lk lc wk cells,{XE,q0,F0,Ud,Ue,_,_,_,_,_,_,_,rfl,hw0,ha0,SQ,Cb,hI0,hR0,by lia},?_,?_,?_};rintro i aA S' ⟨_,_,_,_,_,_,_,_,_,_,_,_,_,_,_,_,st,_⟩;exact st.at 2 rfl;clear hI0 hR0 HC SQ Cb Ld hw0 ha0 hlc q0 XE F0 Ud Ue;rintro i x aA S' hx ⟨kn,q,F,dl,rs,o9,YS,Ub,YT,Xz,SN,Uc,rfl,hw,ha,aG,st,hI,hR,Gq⟩;have hi:=(ze.mp hx).1;have hi:i<(cells.map D.int).length:=hi;rw[zb]at hi;obtain⟨c,_,rfl⟩:=zh.mp<|zG hx;subst hw ha;have ho:=aG.o;refine !{c,18,rfl,by decide,λxs lx HD Xx Aq=>?_};have s1:=Sub.new (c:=.lst<|xs.map D.int) Aq;have hX:(S'.set lx<|.lst<|xs.map D.int) lx=some (.lst<|xs.map D.int):=aa;generalize S'.set lx (.lst<|xs.map D.int)=S1 at s1 hX⊢;have at_:∀k:Nat,k<18->∃x:Int,iW (xs.map D.int) ((k:Nat):Int)=some (.int x)/\0<=x:=λk hk=>mX (by lia) (by rw[zb];lia) Xx;obtain⟨x0,e0,_⟩:=at_ 0 (by decide);obtain⟨x1,e1,_⟩:=at_ 1 (by decide);refine{bR,λpa hpa=>!{_,_,(Sub.new hpa) _ _ hX,e1,by decide,cC (zO _<|by decide) (zL _<|by decide) hpa λv hv=>?_}};refine{WV,λlw hlw=>?_};refine{λaA Lj=>∃(W:Str) (Ub:wn),(W ="deed"\/W ="other"\/W ="again"\/∃z,W=HH z)/\aA=Ua ns cs (bN Ho Hq) d0 q.a lm lk q.w (kz q) [some<|.int c,some<|.ref lx,Ub,some<|.str W,Xz,SN,Uc]/\Sub S1 Lj,?_,?_};refine !!{_,_,(Sub.new hlw) _ _ hX,e0,by decide,?_};obtain⟨u,u1,u2⟩:=mf (l:=[D.str "deed",.str "on",.str "on",.str "back",.str "again",.str "other",.str "deed",.str "on",.str "back",v]) (i:=x0%10) (zO _<|by decide)<|zL _ (by decide);have hu:=zG u2;have hW:∃W:Str,u=.str W/\(W ="deed"\/W ="other"\/W ="again"\/∃z,W=HH z):=by have hv:v∈[D.str "first",.str "last"]:=hv;simp only[zi,zH,or_false]at hu hv;rcases hv with rfl|rfl<;>rcases hu with rfl|rfl|rfl|rfl|rfl|rfl|rfl|rfl|rfl|rfl<;>first|exact{_,rfl,.inl rfl}|exact{_,rfl,.inr<|.inl rfl}|exact{_,rfl,.inr<|.inr<|.inl rfl}|exact{_,rfl,.inr<|.inr<|.inr {.on,rfl}}|exact{_,rfl,.inr<|.inr<|.inr {.back,rfl}}|exact{_,rfl,.inr<|.inr<|.inr {.first,rfl}}|exact{_,rfl,.inr<|.inr<|.inr {.last,rfl}}
 obtain⟨W,rfl,hW⟩:=hW;exact{_,_,aa,u1,fo {W,_,hW,rfl,.new hlw}};clear hlw lw hv v pa hpa;rintro aA S2 ⟨W,SR,hW,rfl,s2⟩;have Cb:=(st.sub s1).sub s2;have E_:=s2 _ _ hX;clear hX;refine{λaA Lj=>∃(la:Addr)(A:wS)(ss:j4),ss.Perm (kn.map (·.1))/\PyProof.Rows.sortedS ss=true/\Fu cs q.ps q.wy 7 q.d (dR kn ss) A/\aA=Ua ns cs (bN Ho Hq) d0 q.a lm lk q.w (kz q) [some<|.int c,some<|.ref lx,SR,some<|.str W,some<|.ref la,SN,Uc]/\Sub S2 Lj/\Lj la=some (.lst<|A.map ag),?_,?_};refine !!!!!!{cs,lk,kn,rfl,Cb.at 0 rfl,hI,λss p1 Ji Pa iY=>?_};have T_:=sY hI Ji;have YU:Ks (dR kn ss):=λr dO=>by obtain⟨z,hz,rfl⟩:=zh.mp dO;obtain⟨ws,BB⟩:=jH<|Ji.mem_iff.mp hz;exact(hI.ok _<|mY BB).1
 obtain⟨A,hA⟩:=NF (d:=q.d) (wy:=q.wy) hg ho.pin T_ YU;exact{cs,q.ps,q.wy,q.d,p1,dR kn ss,A,rfl,hg,ho,aG.s.1,aa,by have:=oW hI Ji;lia,T_,YU,hA,λla Li=>fo {la,A,ss,Ji,Pa,hA,rfl,(Sub.new iY).trans<|.new Li,aa}};rintro aA S3 ⟨la,A,ss,Ji,Pa,hA,rfl,s3',Li⟩;have y1:=Cb.sub s3';have hX3:=s3' _ _ E_;have XF:A.length<=60:=by rw[hA.pm.length_eq];exact zI (yA _ _)<|oW hI Ji
 have hsn:Snap rs cs dl.length (dR kn ss):=⟨kn,ss,rfl,hI,Ji,Pa,hR.wt⟩;have Pe:=y1.at 1 rfl;have hq:Qs t S3 q.a cs q.ps q.wy q.d .au (dR kn ss):={hg,ho,aG.s,hsn.vw y1.sh hR (md:=.au) rfl sP,hsn.key,htb.sub<|s3.trans y1.HE.sub};clear Cb E_ s2 s1 hx st;refine{Iw t S0 ns cs (bN Ho Hq) d0 q.a lm lk lc q.w cells<|i+1,?_,?_};rcases hW with rfl|rfl|rfl|⟨z,rfl⟩;refine !!⟨iG ?_⟩;refine !!!!⟨{by decide,by trivial},cs,lk,kn,_,rfl,hg,y1.at 0 rfl,hI,λde oQ hde W2 YO=>?_⟩;have Sy:=y1.put 0 rfl<|.cj<|hG oQ;generalize S3.set lk (.cj<|hG oQ)=S4 at Sy⊢;refine⟨(vP Sy.sh hg hI hR (by lia) hde W2 λS7 F7 rs7 hS7 hK7 hR7=>?_).of⟩;exact fo {oQ,q,F7,dl++[de],rs7,_,_,_,_,_,_,_,rfl,rfl,rfl,aG,Sy.Xb hS7 hK7,YO,by rw[zE];exact hR7,by rw[zE];show _+1<=_;lia};refine !!⟨b8 !!⟨iG ?_⟩⟩;refine !!!!{cs,q,lx,xs,F,dl,rs,rfl,SK,aG,Pe,hX3,HD,Xx,y1.sh,λq' e1 e2 hw'=>?_};refine !!⟨aW ?_⟩;have Sy:=y1.put 1 rfl<|nL t.aC q';exact fo {kn,q',F,dl,rs,_,_,_,_,_,_,_,rfl,e1,e2,hw',by unfold fsQ;rw[e1];exact Sy,hI,hR,by lia};refine !!⟨b8 !!⟨b8 !!⟨iG ?_⟩⟩⟩;refine !{q.w,_,rfl,Pe,rfl,q,cs,dR kn ss,rfl,Pe,hq,aG.f,aG.h,λA' p hA' hp=>?_};obtain rfl:=hA.one hg ho.pin hA';have s4:=Sub.new (c:=.lst<|cq (A.map ag) (some ((kx cs q.ps q.wy A q.f:Nat):Int))<|some ((kx cs q.ps q.wy A q.h:Nat):Int)) hp;refine !{_,_,_,_,rfl,vM,.inl {rfl,_,aa},_,rfl,aW ?_};refine !!!!{cs,q,la,A,rfl,hg,ho,s4 _ _ Li,hA.an,XF,aG.f,aG.h,λp2 eT=>?_};refine Bh ((Sub.new eT) _ _ aa) aa (λd hd=>Fv hA.an.rg hA.an.ky d<|List.mem_of_mem_drop<|List.mem_of_mem_take hd) !⟨aW ?_⟩;refine{_,rfl,{rfl,_,(Sub.new eT) _ _ aa},p,_,rfl,rfl,(Sub.new eT) _ _ aa,fo {kn,q,F,dl,rs,_,_,_,_,_,_,_,rfl,rfl,rfl,aG,y1.sub λb c hb=>?_,hI,hR,by lia}};have m1:b≠p:=fk hb hp;have m2:b≠p2:=fk ((ae m1).trans hb) eT;rw[ae m1,ae m2,ae m1];exact hb;refine !!⟨b8 (!!⟨b8 (!!⟨b8 ?_<|by cases z<;>decide +kernel⟩)<|by cases z<;>decide +kernel⟩)<|by cases z<;>decide +kernel⟩;refine{λaA Lj=>∃(p1:Addr)(b e:Nat),Lh z cs q.ps q.wy A (jR z q) q.n=(b,e)/\aA=Ua ns cs (bN Ho Hq) d0 q.a lm lk q.w (kz<|q.to cs (seg A b e)<|jR z q) [some<|.int c,some<|.ref lx,SR,some<|.str<|HH z,some<|.ref la,SN,some<|B7 p1 b<|A.length-e]/\Sub S3 Lj/\Lj p1=some (.lst<|(seg A b e).map ag),?_,?_};refine !!!!{cs,q,la,A,z,rfl,hg,ho,Li,hA.an,XF,aG.f,aG.h,λp1 b e he iY=>?_};exact !{rfl,_,_,rfl,_,_,rfl,rfl,fo {p1,b,e,he,rfl,.new iY,aa}};rintro aA S4 ⟨p1,b,e,he,rfl,s4,iY⟩;have XG:=s4 _ _ Pe;refine{λaA Lj=>∃p:Addr,aA=Ua ns cs (bN Ho Hq) d0 q.a lm lk q.w (kz<|q.to cs (seg A b e)<|jR z q) [some<|.int c,some<|.ref lx,SR,some<|.str<|HH z,some<|.ref la,some<|B7 p b<|A.length-e,some<|B7 p1 b<|A.length-e]/\Lj p1=some (.lst<|(seg A b e).map ag)/\St t S0 q.a ((p,.lst<|(seg A b e).map ag)::fsQ t lk lc kn (q.to cs (seg A b e)<|jR z q) cells) F cs dl rs Lj,?_,?_};refine !!{q,z,cs,dR kn ss,rfl,XG,hq.sub s4,aG.f,aG.h,λA' p b' e' hA' hp YH=>?_};obtain rfl:=hA.one hg ho.pin hA';cases he.symm.trans YH;have n1:p1≠p:=fk iY hp;have n2:p1≠q.w:=λe=>by rw[e,XG]at iY;cases iY
 refine fo {p,rfl,by rw[ae n2,ae n1];exact iY,?_};exact(((y1.sub s4).new hp<|.lst<|(seg A b e).map ag).put 1 rfl<|nL t.aC<|q.to cs (seg A b e)<|jR z q).perm (List.perm_append_singleton _ _).symm;rintro aA S5 ⟨p,rfl,ach,FN⟩;have Na:=FN.at 0 rfl;have lay:=Ss hA.an.rg.1 hA.an.ky (b:=b) (e:=e);refine !!⟨Ju (O9 hA.an.rg.1 Na) (O9 hA.an.rg.1 ach) lay.1 (by have:=lay.2;lia) !⟨aW ?_⟩⟩;refine !{_,_,_,_,rfl,bh,rfl,_,rfl,aW !!{_,_,_,_,rfl,vM,.inl {rfl,_,Na},_,rfl,aW ?_}};refine !!⟨{rfl,_,Na},p,_,rfl,rfl,Na,?_⟩;have T9:=FN.put 0 rfl<|.lst [];obtain⟨f1,f2⟩:=SO hg ho.pin (λr dO=>{hA.an.rg.1 r<|gq dO,hA.an.ky r<|gq dO}) (Xs aG.f aG.h z) (rows:=seg A b e);exact fo {kn,q.to cs (seg A b e)<|jR z q,F,dl,rs,_,_,_,_,_,_,_,rfl,rfl,rfl,⟨ho,aG.s,aG.n1,aG.n2,f1,f2⟩,T9.less (yi.mp T9.nd).2 λx hx=>zf _ hx,hI,hR,by lia};rintro aA S' ⟨kn,q',F,dl,rs,o9,YS,Ub,YT,Xz,SN,Uc,rfl,hw,ha,aG,st,hI,hR,Gq⟩;have hk:=st.at 1 rfl;rw[hw]at hk;have ly:∀{S:ak},Ly S 64 (kz q'):=(Xy SK.2 aG.o aG.s aG.f aG.h).le (by decide);refine !{q.w,_,rfl,hk,rfl,q',by rw[hw];rfl,by rw[hw];exact hk,_,rfl,eq_self ly !⟨aW ?_⟩};refine !{q.w,_,rfl,hk,rfl,q',by rw[hw];rfl,by rw[hw];exact hk,_,rfl,eq_self ly !⟨aW ?_⟩};exact{kn,q',F,dl,rs,_,_,_,_,_,_,_,rfl,hw,ha,aG,st,hI,hR,Gq};rintro aA S' h;exact fo {lc,cells,_,h};clear hI0 hR0 HC SQ Ld hw0 ha0 q0 XE F0 Ud Ue;rintro aA S' ⟨lc,cells,i,kn,q',F,dl,rs,o9,YS,Ub,YT,Xz,SN,Uc,rfl,hw,ha,aG,st,hI,hR,Gq⟩;obtain⟨ld,lr,ra,h,_⟩:=id st.sh;have hrl:=hR.len st.sh;refine !{a,_,rfl,h.ins,rfl,a,F,cs,dl,rs,.au,rfl,st.sh,by lia,sP,λi ss hi hp ho p j5=>?_,λe=>nomatch e};cases hi;refine !{cs,lk,kn,rfl,(Sub.new j5) _ _<|st.at 0 rfl,hI,λs2 p2 t6 LJ eT=>?_};rw[vO ⟨kn,s2,rfl,hI,t6,LJ,hR.wt⟩ st.sh hp ho]at eT⊢;have YU:Ks (dR kn s2):=λr dO=>by obtain⟨z,hz,rfl⟩:=zh.mp dO;obtain⟨ws,BB⟩:=jH<|t6.mem_iff.mp hz;exact(hI.ok _<|mY BB).1
 exact Bh ((Sub.new eT) _ _ aa) aa (Fv (sY hI t6) YU) {S,(s3.trans st.HE.sub).trans<|(Sub.new j5).trans<|.new eT,q}
def K0(t:eJ)(K:Frag):Sp:=λvs H Q _=>tQ K (KZ t) vs H Q E0
theorem SS(T:Txt w K mg t)(B:Bm mg base):bT P w K mg base X7 20 t.OJ t.JB ["_law_script"] (K0 t K):=bT.calm<|NK T B
theorem K1{w:World}{K:Frag}{mg:Str->Option Value}{t:eJ}(T:Txt w K mg t){H:Hp}{a:Addr}{ns:sB}(hl:ns.length<=63)(hO:AS t.ts H)(hS:iQ K H a<|ns.map V.int):K0 t K [.ref a] H (λv _=>v=.bl true) λ_ _ _=>False:=by
 have hR:Oa K H a (ns.map V.int):=by rcases hS with (h|h)|h;rcases hO.all a with q|⟨o,xs,q⟩|⟨_,q⟩;rw[q]at h;cases h;rw[q]at h;cases h;rw[q]at h;cases h;exact .inl h;exact .inr h
 have kK:t.aI≠t.aO:=λe=>by have:=T.np;rw[e]at this;simp at this
 have tok:∀q,Ey H q #[]:=λq=>{trivial,λ_ _ e=>by cases e};refine{[.k8<|ns.map D.int],λb=>if b=t.aO then some (.tab qK) else if b=t.aI then some (.tab qV) else none,λd _=>d=.bl true,λ_ _=>False,aT (IL hR<|Ex ns) bu,λb c e=>?_,{ns,rfl,hl,{if_pos rfl,(if_neg kK).trans<|if_pos rfl},rfl},λd S v H' e r _ _=>by subst e;exact r.bl,λ_ _ _ z=>z.elim};by_cases h1:b=t.aO;have e:=(if_pos h1).symm.trans e;cases e;rw[h1];exact{#[],hO.tab _ T.mH,tok _};by_cases h2:b=t.aI;have e:=(if_neg h1).symm.trans e;have e:=(if_pos h2).symm.trans e;cases e;rw[h2];exact{#[],hO.tab _ T.km,tok _};have e:=(if_neg h1).symm.trans e;have e:=(if_neg h2).symm.trans e;cases e
theorem SU{P:Program}{w:World}{K:Frag}{mg:Str->Option Value}{fa:Addr}{ts:im}(Qz:mg "law"= some (.ref fa))(T:∃t:eJ,t.ts=ts/\Txt w K mg t):∃(fd:FuncData) (sp:Sp),(∀b∈ts,∃c,codeHdIn K c b=true)/\(∀(s:Shared) (u:Value),BindsTo s fd {[u],[]} [("_law_script",u)])/\(∀base:Heap,Bm mg base->K.In base->base.Ns mainGlobals mg->bT P w K mg base X7 20 fa fd ["_law_script"] sp)/\∀(H:Hp) (a:Addr) (ns:sB),ns.length<=63->AS ts H->iQ K H a (ns.map V.int)->sp [.ref a] H (λv _=>v=.bl true) λ_ _ _=>False:=by obtain⟨t,et,T⟩:=T;have e0:=Qz.symm.trans T.law.m;cases e0;subst et;exact{_,_,λb hb=>(T.ta b<|hb).elim (λe=>{_,e ▸ T.dG}) λe=>{_,e ▸ T.cY},T.bl,λbase B kb nb=>SS T B,λH a ns hl hO hS=>K1 T hl hO hS}
end My
end Tactic
open Tactic
local macro_rules|`(command|universe $xs*)=>do return Lean.mkNullNode (← (xs[0]!.getId.toString.foldl (fun (h,n,k,l) c=>let n:=n*62+(if c.isDigit then c.toNat-48 else if c.isUpper then c.toNat-55 else c.toNat-61);if k=9 then (h+n-10*62^9,0,0,l.push (h+n-10*62^9)) else (h,n,k+1,l)) (0,0,0,(#[]:Array Nat))).2.2.2.mapM fun v=>`(command|theorem $(Lean.mkIdent (.mkSimple s!"tw{v}")):ident : True:=trivial))
namespace PySem.W.Fast
universe AMBp2jRMODA68x4iHUIkAaPU9cAQf8AaiLXi6NEvAJfwrAME7DA5ccjdqiraCeoJRo72cSDEtHHEh1SmAOVvcsjjaGAmtaGCjmhrAcW5QbJLXiCT74duntmSA1XypWrUdPAxd8m9Srx7A25IlOUpi0Byy5rwlqcjC0ESEzC4E9EyoIHevTnWEaGgCLLiV8CJDQoEdu2JCRlBQ1SpasBPHDcqjXE1Akk1notbIeEWzK1w7M2yAaUESqj0klBDmOrAiAFECrhr6K0KcRDeHaNnv3diDV0qz2iyIGBiHpWcu5y1Arl9kFN0anA8fxfCoRx7Aw3HeX6ZCzEFZsUF4ok7Am1E9hZxFsAyzFbZkj7PB06NK8xFaBCqYi7WiJeGAkFdLUJmU9Ar3izxrI9GDzjv1usOp2ADF3BFFmPhFx1cYshF9uADu46NjTR9CDiKCzOnWcC9EUDQ1hXyB9j9mij1N1BAe2Ird0vLBHztb5HRWqEAJxuHQ9L8A44FsMiwauD3JNCKW9nvA3wOaAy4szBckkIOA6i3ALGycmsm21Aoe8w5tq7mA1jrpPRgzUDzdKQpGrH3DRLOvwFqo5Dq1xqDItL1AcwrUCACmaC1ZhBO7AAhAD5avIkTFaARezgFQVXQHek0AjszJfBefXytgO0YFAL4Jx5CdXAOGSHaugPGAyiHq4k79vBHfF25bPsaB01tiUH6ZgAAoUql2xLlAQd8YKy4vZCBzajmSdXRBLOK0vefUGDksxJWwHLLEJ5Rn0Swr9BI92ZS07BABw6ynJRXBbAcBvxrSXh9DclXh7LfucB26F4WSjsfAQb5v1SoxlBZzBEIDiJdA31i6N2eZwCD4ko90yM3CkUzFuMD6GCg6q8JNM3uANibRXIGGCEChusIuhIFAS9WIG1m6xDd3hkoVwknA3s9PEDuoxHVWiWOGpvLCn6g52uutfAO0U5mpM9SHn6rL9CjxHBGW7RGH6SsDZf9vr8tkEAfyOuUq0jhHTwUS7IZBdClTC4xAmh5Cd88zj6RsMHg20SFlNy8ATsHLs3Z6jA4CCCCa9WQIrQfdzPBVHA18T50OLxgCvlhvoJxGECjnvIa5NxXAN43ULrVilAjQpgH3TlrC3ptIiGrNiAZFJVsGrrmCPjUYIKkFzA4do0X5NddBrAjMEq4CRAiSKtzLwVoAG8fzJLSxsCihzKmRQUEADF1hAmXNgAVF8Ve30NuCbnvJNFjTuB1svZBnLJJGL6WVz5d9JBb1uWYyY6RAJ9XFunT5eAWFI7Pw5yUAWFquOa7FLCuKEZwJ3JeDAaiQ50suSBGOFeDernTAAT5zTPhajEaAjJyEaYUCeV5qncxCIB0T38DuUOKA7ioilJNLTAffcTSMlKnC3mUbljIZdAqDQevxX16BzBdRizIiTAvyJhstuGhE8iMDFz9FQB7X6fZc0QvE6WVUdGvPQHQuv1XwFs4AeElw7IuYnGFWFqfcLzEBb0uz5iKI5Cjf36AHB0yCawfB7c1ieAQ9MhlrdGjAUHuEd067tDNGYPNIatyAfmS3S4MFLENAjXY5VALAPEBpD4OGhCUR1zNBpLbBiYIyuKvRzASYuYPKCGiDvaBko65yXElZLt1PLbADV6OCRvDScB16fUPUEaGAbFieZMx1PBIks0fPZniB0uUpU1LNTBqVxeXlbhiDvpDGXNdIQBIq4fWSPq3ADJFeXI4h3A8jhk8Tf1gAc355FEHxxBMB8nYEEyqGy8PabDe9vAMucMsGooEF5UfrqiA52El4a1G5BIvD4IqYp5DYtEmtCQIOFvlAeTGKghxOtF6mnj6IG2DAHtG8C9JfAAKjsea8ttVAfFX1l5kRTADlj48eVqbCO3a8h11aHGkyUy8pXU2D4TRkUcWSIBzLfAJSh1MBBQ3qcieT2GMzdmcOaBQBSIRXmQvxWHLCbvBqSnRAoWX6OGstTBv1UtTa1ZpAxvEWg2sIWCNH8lHsdehAnfpsCsl6hBGAI5bravSGPOxiZOUNMC0RukPUcIXAYeaoOiZ0oA0n3LuJO8oKYJKl0gZP0DITwDtP0FpAjsqUPKl4zBhJXIsPymaD4eftIZvG4BORiZZ598oAMI5nlOqvEAzfvUl5ySwEXnlUKBKVdAxGUQiKjmJAGkrBBvsyyDSYwEIfe4pC5bA6548huC8b1e44hFyDZGzwyWlUdAmSLPjlY0iB4sPukmtIDAaqg4PEQDWBHUb1pmBghA1ST8K0PlHDBi65ehX0hA6CzMELNn7AxMHNEmICBCYj66aiB1BD2me8UQKX6ElZSAbvYTPBkWQVb2HuSA1oS0wlHCnDyxLp13XUTCpU4XtIrDIAV5cQ1sQrQCDGsHMxw1IDpGrUgEk1VAHuHC57RBGAzdTGsENoKEtJytFoQTQA3yc6dP5g3BBhS9cpl9LALuxogQTRkAUSL9yR2FoAJD8ObZsJMAgQpjzkC9XBPRoE7J1khAbHsIJT12wAiVgsJVxQmCme5LIru0GAozNAT69mPAX5iIJMbLvA2R5YdMhBtAuVLShiiInAKzOTdFO8CCcfNG3dKoJElMXj18Ix3CW2nJ2dWLIBp2t2G7sSNAEGqsOJ4wYAqBXzwMmsyDQ0rneIHgFAAPDxOmAf7CiMkTFXqMvDm1u9cKxqID1imZZw8YvAMTslpxrkTAwd6NEMfTHCjRxYfjj5mAWSNQqgVjoARHQixavhXBddhrYeweIB7taLEtfQyCF4ChVT8pjAlCKkiXQT6AddfqiFcPdFjcOvmIo3ZATF15hd08uBo2YOQEDZPBCnxvOZeiWAb1pGXadocECX5IXPi1XC6gs3iUOcuA4vhIvOi8IAHPuRcKXSWCbCfgLpjNhCJXdpPpXrZD5WmXZoiO8B56y7RpwsbBeqXgZ6MTtATKIdXXrnUBGNB0LI9nsB8rgE4TkSaAM0Z38hI4IBkk5GJbgY0BUUEglPWtOAydJWaN0kcFGHejKmbS6Cmpe84UcXcCuGxfyiSstD48yU0WDR0CYZ9eU5mATBtn40ZKPJEAulZggooXIBLZ86DzMzrAAmhmqRODyAEuE7jgUPhC5Bxd4skdcDeQUXavuS1C9e9PJAriOHpaVPs3AK0BJWNUNpjX6A8WasD2LcRA7sLhHTC3jBCyEA61r1PAFHUvo1gb3Bc6VlAyILOABFVKufdYWA0ktPeAct8CSSffxbKf8AhcDBcMgHhD9ix6j4AikEMapmSfgDQCBY373zUm9Fa6QyDbGXXBKUFkNZ10fBVfV50ke1XC4Bf7eafQjAAXvwV2kotCCEv0JzjJBDcyyWghIgCECcAh7jYYpAzvctukmVqFRf4XRZ2tuCEt1jGl4A0CejzlKAqcsC0c1LaKHOFB6ygGm8nWnATdZcRE6sPA3IG4YVWGoEXbLqXkudoEdmG6h7YGfB1Dh5o5wg6EQLSDuJFBHBU9uaOhLJ2Am9LSQvg5CA8H9ORAw1YCnyKoTrOwIDflBcF0eAbADJeprzLlgAMyvlC2cuIAHCLzhlOvyAHXzJjaWBYAxC55mVA5nA99FCggQ8hAKEylYvwdaB206Pv7wHSAh4UYhGjIJBx4fsrRp1kALX9pfggQNAu2oJLxVVUAtOreC7lD3A0ZhXbjqLQKyKrRLZ8iMB64HcJiJqFGY1cfjcdNdBJFTHSDXF0DIGmEQ9G99AbeQo5Qoy3B65zIIonVOATgqkaJ9GDAl0HiIG3gMGCHRemsGs3CUNS3xtKe3Dfd6JRUqCGBUzlesPn7dAjAy3hFPJEASalEhkB2GCn7N0ocBsUAk6X0TlMxCB2b9HpliRsAUzjHrTQyKCSwB2aptPdC5ewAXQwlQDieUWIiDINDUTHlK82XTBQ9QM7giQuASvKC6mZ31A2o4NZCFRDB1xRvxf3YBAFjlnORgVHA4MgU6jSwhACAm33pbRyBivcqktpXrDfpTzkVoinA02beBmDWCAyZqOSZVoiDPq6RxEBOfCf7hLBQx7UAXRyxXu2ufL4p4zUh4dGALFOddns3fA9Zns3PmpPBCtA2VYIWZAQMfZN7iFyGyoc0f05M4AYQk4BsbhTAaKm3tKMe8A2sgeHUdhfAnrVdoOPBIBDdTNu83pmEycXanIZG9AFJ0KgnXEbC3dOwKtLZ1A6YQMacfjmAgoAUpzP8fAfmwgjtCKOCNE5AGMRTwCX6yCLaXmYA5TNJfNMxYBfrs5j27LlC8VqOLPtPNCIATbVIZvJANkXyqwPg3A9llsgrSw8BxIyfaWoS8BS8jES3uYqAY0aatArNbB8X5SiQ05BC7dZP6XnA7DZnLcVaYXrEDQ0JaIjpYDpmcjN0GGNH6O4NPW8KkBJdNNX9lwkB5q53Mv3UOE4fJIXq4qoEivVV0gJfzEaCqyaYiPOA0sNlxemRABZz1Vo5DGkBXY4tSnZEZABHdQTtO7DBbu5OoDn7zBMa1ljsCNnBvpelV88FTBgqCP2p5BgAXdGCPRdL2BmhcR3VtILB8KQ2DiIk8Abbkbo2rkkAGlKXjBGRwBWAw43JRiyA2BVz0ksK6BzCOAFNzhXDEnMOkgcMMC0060us0adF7L7LqXmwrBqkXeiG7w9DbJzThYvKIBFNRsLzDbUAtGzF2lt6mNJicd0DuBFAn2oKs8U4TB5eQ23MhjbAOuRiaNI4gBBjWVJAAoKAdcFuXzfbBAq69Fc3AtzC2xNjEC9lkBvw7ZqFiZRAmHySxLl0jA8lRRYIyiWDj2dPRKukrAURM194rERAe43m5iD6JEOyWoB0uFRAmpgRj2YLuAZKehklytdBhoxggaK79BfUes0AZtGDbly9e4w4wAZGBVncCVkCGaGdgRz7nAMpUmiafXxFLvteXMtqMAnTAg3ISRAA8tAX1YIE9AChGTvC5gUBKE4NBetbxCBABYSo3RKDgRm08DZBvBdQMFnGePQAKeygeqAhyBP5NUD74ewAogAOewoRUBKQI7CJbALASg6Lc78glB3Z1av1j0DBROkJPzu9BB0Q2489d78ANSLOeBi2zA6xUOkxBVHBo53tteENOBQF6NBmKSsALUPM75TQYAokCIcEBY0A7yqheIIgcAU4DuTNIEmDPQ3GfeY1HA7VvP1SAlyAyGA92PmLCGDnn5et4TEA4gpeUhBJoBCxTD3uYG9MyhvZxsvo4CXHn4zli3ZCAOLc1tVGpDan6fZADs9ADntukcvdWKoYWzw9uPlBBMEZ1A0RSCJ9Jc2ScspK8dFyHsA9LB9OfYRXoP9CpKpV6wGDsDnl2pf0u0vAEaJbP7XgYDEcXuZPMNZAx5Eml6x14AZCwU6jeVDFHTxp2uXLaDH7wUtnDnRAe3TW5jQ5ZB4jbhIdGfFCrGhixcRqWAUQ8nyvDZ1DoK8SqSdx5AKwkjvKLcdDlqzWsKrcxGDzirYwlapC57anEYfNRABuPRx6mZJBvlo63gicAA9Xixud7qqAeWlEi5jHfDBI4qbsBY3DSPFqJNCoiBccuAfaGk3B1y7VAvDG8MI3g8a2dJDBBU1Rq2FAZA8IWf1TQN3Ah7rUPXXv1AAmXYq6MG5CYmZMmqoMrAXfqJ2bJuuBRUVnR8uM8BNJLX3WjDLBjU563M5xgAAR5amPkDuAuWwIv1BaVECi1VY1qwfEu1C7mWwVsCplfV11VfODwWxcQdcRjCEzVnwSz7oAt0Ysf6SIDAihDIkyHZVBptoTFPhiqB45rdWc4OvGeB7trD51OBChgV1RmZmCIXumudHTVArnO4AyxFSBu0aU0NZFMBQYrFGBnCYCpKxdlNenGBYCPewgB8PCR20FMYRqHBJFcho8YNNCibdVbg3vxBN9pmNjomPBsXEDWEPkDD718Gi52ctC4WFhEkobqCElStruudADEAvRsoh6sARwCPrxhSuCBcKZJyp9gBr5yw40C58AA9XszFAwlA1p1DAYgKBAnSsmPBLc0BXRiR8q6z2BiwQUx5ekSAA15vp6NvsC5X1brBBjPATwjz4xVfZAAZWMjMfecBeWDO7WXVNHqXcobef2GA9Z6RIShdeDH04bccQwcCiCLVhFo6nBihGfMUeBNAFXZuK1lgsDqL7B559FVAvn4iPw6F7HSqF0XeREUEzMWxiMCzFBLBLIGs8WuBkyPCpw0mzFZEFtUt8VzAu686sJw2VEVO6Wj3NH7AGkzyaD9KEB2fIKDOGgUBdrCAuatZHARe3BcdkGcDwPNoiFBWqBRRUrP2efnBGMX7qDrHgAvMG3a0eckAUhA110QhND4oZcn2EnWGMhpcfWOR8BfJBBxXXDqCAdoL9lXvnBTqtKalNoOAuwW0yev3aAcCsoqVahrAH3JGItPQBBa9DTkFkQtCEtcQVox0FEoJaskt6MRBZgk0iP23dD3WDlsDVXcA4kVFcuJLcAYBAcHlnW4BOnMuMZsqoATpPA2Uc18Ab5sMUnYKUAuMBZO99ULD6R8ROD4I6AAx2Wx7667DL3qkpOdVwCMPpixvOgmA7WFxJ649oDDXmbU84pII19j1WMhf2Amkw7snwVtAAT26QeVSPCs8IwKI6PrBywcqOQJlRB0HCiRQrS3A50NRZxWf6B3WeaQBAoaAGFPgCWF3wA6pjqlW7XQBFobmWtXw9AsUL7QuJsmAEt0yWKcs2BqaTCulrRuBb7D8K4gQfAUOG7r8lF7D3pNspnDJcEG6aarAWcRADJ5uTDTZZB53AUQ5GAjAZvX7J6eLnDtBT55NcXnBNDntrj8NqAA27jugAjZArcoRnIqvTKD7VKHabrYCUaxwkZ5jcBinM938NKGD7KdShRTpVAPoqGWu1ubCDKoEJPQvEDBXwommo5mBFKgRgF3UEEEiTQKTcmg
end PySem.W.Fast
open PySem PySem.W PyProof.Rows
local macro_rules|`(tactic|trivial)=>`(tactic|(first|exact L2.TN fun _=>rfl|exact L2.ln2 fun _ _=>rfl|exact L2.TQ fun _ _ _=>rfl|exact L2.Yy fun _ _ _ _=>rfl|exact L2.Yz fun _ _ _ _ _=>rfl|exact L2.ln6 fun _ _ _ _ _ _=>rfl|exact L2.Yx rfl))
set_option maxRecDepth 100000 in
set_option maxHeartbeats 0 in
theorem PySem.Challenge.cw_pageturns_k41_walks_holds : PySem.Challenge.rw_pageturns_k41_walks.Holds := by
 w_on;o_law;k_head;(case hw=>w_witness2)
 k_fill
 refine L2.Jq (l:=PySem.Challenge.rw_pageturns_k41_walks) (n:=63) (k:=20) (x := "_law_script") (CX:=L2.X7) rfl (by decide) rfl ⟨rfl,by decide,by decide⟩ (fun w h Y=>PySem.W.km_in_of Y) (fun w h Y=>PySem.W.km_tabs_of Y) (fun w h Y=>L2.MM Y (by trivial)) ?tF fun _ _ _ _ z=>z
 intro w mg fa h KX G Qz
 refine My.SU Qz ?_
 refine' L2.gvc KX G "Walk" ?a ?b ?c ?d ?e ?f ?g fun SV aC SW k_Walk=>?_
 (case a|b|c|d|e|f|g=>k_is)
 refine' L2.gvc KX G "Shelf" ?a ?b ?c ?d ?e ?f ?g fun NL ar NM k_Shelf=>?_
 (case a|b|c|d|e|f|g=>k_is)
 refine' L2.afx KX G (l:=[16,17,18,19,20,21,22,23,24,25,28,29,30,31,32,33,34,40,41,42,43,44,45,46,47,48,54,55,56,57,58,59,60,62,63,64,66,70,71,72,73,74,75,76,81,84,86,87,88,89,90,91,92,93,94,95,96,97,98,99,100,101,102,103,104,105,106,107,108,109,110,111]) (top:=My.top) ?xF fun f0 g0 A0=>?zF
 case xF =>
  repeat' (refine' L2.af KX G _ (by decide) ?a ?b ?c ?d ?e ?_;(case a|b|c|d=>k_is);(case e=>trivial))
  exact L2.af0
 refine' L2.amx aC (l:=[0,1,2,3,4,5,6,7,8,9,10,11,12,13,14]) (q := "Walk.") (cl:=My.cM) ?xMWalk fun JC adK K2=>?zMWalk
 case xMWalk =>
  repeat' (refine' L2.am aC _ (by decide) ?a ?b ?c ?d ?f ?e ?_;(case a|b|c|d|f=>k_is);(case e=>trivial))
  exact L2.am0
 refine' L2.amx ar (l:=[0,1,2,3,4,5,6,7,8,13]) (q := "Shelf.") (cl:=My.bt) ?xMShelf fun Dg aci D_=>?zMShelf
 case xMShelf =>
  repeat' (refine' L2.am ar _ (by decide) ?a ?b ?c ?d ?f ?e ?_;(case a|b|c|d|f=>k_is);(case e=>trivial))
  exact L2.am0
 refine' L2.fnl KX G "sorted_by_keys" (My.top 65) ["rows","way"] ?a ?b ?c ?d ?e fun d0 e0 B0 F0=>?_
 (case a|b|c|d=>k_is)
 (case e=>exact L2.ln2 fun _ _=>rfl)
 refine' L2.fnl KX G "sorted_by_values" (My.top 67) ["columns","part","rows"] ?a ?b ?c ?d ?e fun d1 e1 B1 F1=>?_
 (case a|b|c|d=>k_is)
 (case e=>exact L2.TQ fun _ _ _=>rfl)
 refine' L2.fnl KX G "law" (My.top 112) ["_law_script"] ?a ?b ?c ?d ?e fun d2 e2 B2 F2=>?_
 (case a|b|c|d=>k_is)
 (case e=>exact L2.TN fun _=>rfl)
 refine' L2.fmd ar "worths_at" "Shelf.worths_at" ((L2.inClass My.bt 9)) ["self","key","moment"] ?a ?b ?c ?d ?e ?f ?g ?h fun d3 F3 D3=>?_
 (case a|b|c|d|e|f=>k_is)
 (case g=>intro s us t;revert us;exact L2.TQ fun _ _ _=>.of_defaults rfl t rfl rfl rfl)
 (case h=>intro s us t;revert us;exact L2.abb fun _ _=>.of_defaults rfl t rfl rfl rfl)
 refine' L2.fmd ar "all_at" "Shelf.all_at" ((L2.inClass My.bt 10)) ["self","moment"] ?a ?b ?c ?d ?e ?f ?g ?h fun d4 F4 D4=>?_
 (case a|b|c|d|e|f=>k_is)
 (case g=>intro s us t;revert us;exact L2.ln2 fun _ _=>.of_defaults rfl t rfl rfl rfl)
 (case h=>intro s us t;revert us;exact L2.aba fun _=>.of_defaults rfl t rfl rfl rfl)
 refine' L2.MV KX G "MOST_NAME_SIGNS" 8 ?a fun nH=>?_
 (case a=>k_is)
 refine' L2.MV KX G "MOST_KEY_SIGNS" 12 ?a fun pb=>?_
 (case a=>k_is)
 refine' L2.MV KX G "MOST_WORD_SIGNS" 40 ?a fun nI=>?_
 (case a=>k_is)
 refine' L2.MV KX G "MOST_COLUMNS" 8 ?a fun tM=>?_
 (case a=>k_is)
 refine' L2.MV KX G "MOST_PARTS_orders" 8 ?a fun kB=>?_
 (case a=>k_is)
 refine' L2.MV KX G "MOST_DEEP" 8 ?a fun BR=>?_
 (case a=>k_is)
 refine' L2.MV KX G "MOST_PARTS_sieves" 200 ?a fun kC=>?_
 (case a=>k_is)
 refine' L2.MV KX G "MOST_IN_A_TUPLE" 8 ?a fun nJ=>?_
 (case a=>k_is)
 refine' L2.MV KX G "MOST_ROWS" 1000 ?a fun BS=>?_
 (case a=>k_is)
 refine' L2.gvs KX G "START" "start" ?a fun NN=>?_
 (case a=>k_is)
 refine' L2.gvs KX G "END" "end" ?a fun XH=>?_
 (case a=>k_is)
 refine' L2.WE KX G "KINDS" ?a ?b fun NO w_KINDS=>?_
 (case a|b=>k_is)
 refine' L2.WE KX G "OTHER_WAY" ?a ?b fun BU w_OTHER_WAY=>?_
 (case a|b=>k_is)
 refine' L2.WE KX G "OTHER_END" ?a ?b fun BV w_OTHER_END=>?_
 (case a|b=>k_is)
 refine' L2.WE KX G "OTHER_SIDE" ?a ?b fun xY w_OTHER_SIDE=>?_
 (case a|b=>k_is)
 refine' L2.WE KX G "LENGTHS" ?a ?b fun Hr w_LENGTHS=>?_
 (case a|b=>k_is)
 have XI:=L2.y6 KX G "len" (by k_is) id
 have XJ:=L2.y6 KX G "all" (by k_is) id
 have XM:=L2.y6 KX G "any" (by k_is) id
 have xZ:=L2.y6 KX G "isinstance" (by k_is) id
 have NP:=L2.y6 KX G "range" (by k_is) id
 have XN:=L2.y6 KX G "int" (by k_is) id
 have XO:=L2.y6 KX G "str" (by k_is) id
 have SX:=L2.y6 KX G "bool" (by k_is) id
 have NQ:=L2.y6 KX G "tuple" (by k_is) id
 have SY:=L2.y6 KX G "list" (by k_is) id
 have S8:=L2.y6 KX G "dict" (by k_is) id
 have XQ:=L2.y6 KX G "set" (by k_is) id
 have XR:=L2.y6 KX G "zip" (by k_is) id
 have K3:=L2.y6 KX G "sorted" (by k_is) id
 have XS:=L2.y6 KX G "min" (by k_is) id
 have XT:=L2.y6 KX G "max" (by k_is) id
 have XU:=L2.y6 KX G "sum" (by k_is) id
 have Ea:=L2.y6 KX G "reversed" (by k_is) id
 have x5:=L2.MW aC "shelf" (by k_is) id
 have x6:=L2.MW aC "order" (by k_is) id
 have x9:=L2.MW aC "sieve" (by k_is) id
 have BW:=L2.MW aC "size" (by k_is) id
 have BX:=L2.MW aC "fore" (by k_is) id
 have uK:=L2.MW aC "hinder" (by k_is) id
 have qA:=L2.MW ar "columns" (by k_is) id
 have uL:=L2.MW ar "deeds" (by k_is) id
 have x_:=L2.MW ar "runs" (by k_is) id
 refine' L2.gvm KX e0 ?a ?b ?c fun pd=>?_
 (case a=>k_is)
 (case b=>rfl)
 (case c=>first|rfl|decide|simp [codeHdIn])
 refine' L2.gvm KX e1 ?a ?b ?c fun lU=>?_
 (case a=>k_is)
 (case b=>rfl)
 (case c=>first|rfl|decide|simp [codeHdIn])
 exact⟨⟨_,_,_,_,_,_,_,_,_,_,_,_,_,_,_,_,_,_,_,_,_,_,_,_,_,_,_,_,_,_,_,_,_,_,_,_,_,_,_⟩,rfl,⟨A0,K2,D_,F0,F1,F2,F3,D3,F4,D4,nH,pb,nI,tM,kB,BR,kC,nJ,BS,NN,XH,NO,fun H=>L2.Ob (xs:=[.str "number",.str "word"]) ⟨_,_,_,w_KINDS,rfl,rfl,(by rw[yf];show 2≤16777216;decide),.cons ⟨_,rfl⟩ (.cons ⟨_,rfl⟩ (.nil))⟩ (L2.wq ["number","word"]),BU,⟨by first|rfl|decide,_,_,_,w_OTHER_WAY,⟨rfl,rfl,rfl⟩,rfl,.cons ⟨rfl,⟨_,rfl⟩,⟨_,rfl⟩⟩ (.cons ⟨rfl,⟨_,rfl⟩,⟨_,rfl⟩⟩ (.nil)),by trivial⟩,BV,⟨by first|rfl|decide,_,_,_,w_OTHER_END,⟨rfl,rfl,rfl⟩,rfl,.cons ⟨rfl,⟨_,rfl⟩,⟨_,rfl⟩⟩ (.cons ⟨rfl,⟨_,rfl⟩,⟨_,rfl⟩⟩ (.nil)),by trivial⟩,xY,⟨by first|rfl|decide,_,_,_,w_OTHER_SIDE,⟨rfl,rfl,rfl⟩,rfl,.cons ⟨rfl,⟨_,rfl⟩,⟨_,rfl⟩⟩ (.cons ⟨rfl,⟨_,rfl⟩,⟨_,rfl⟩⟩ (.nil)),by trivial⟩,Hr,⟨by first|rfl|decide,_,_,_,w_LENGTHS,⟨rfl,rfl,rfl⟩,rfl,.cons ⟨rfl,⟨_,rfl⟩,⟨_,rfl⟩⟩ (.cons ⟨rfl,⟨_,rfl⟩,⟨_,rfl⟩⟩ (.cons ⟨rfl,⟨_,rfl⟩,⟨_,rfl⟩⟩ (.cons ⟨rfl,⟨_,rfl⟩,⟨_,rfl⟩⟩ (.cons ⟨rfl,⟨_,rfl⟩,⟨_,rfl⟩⟩ (.cons ⟨rfl,⟨_,rfl⟩,⟨_,rfl⟩⟩ (.cons ⟨rfl,⟨_,rfl⟩,⟨_,rfl⟩⟩ (.cons ⟨rfl,⟨_,rfl⟩,⟨_,rfl⟩⟩ (.cons ⟨rfl,⟨_,rfl⟩,⟨_,rfl⟩⟩ (.nil))))))))),by trivial⟩,XI,XJ,XM,xZ,NP,XN,XO,SX,NQ,SY,S8,XQ,XR,K3,XS,XT,XU,Ea,SV,aC,⟨SW,(K2 0 (by decide)).e.at_,(K2 0 (by decide)).e.fn,k_Walk⟩,x5,x6,x9,BW,BX,uK,NL,ar,⟨NM,(D_ 0 (by decide)).e.at_,(D_ 0 (by decide)).e.fn,k_Shelf⟩,qA,uL,x_,e0,pd,by simp,e1,lU,by simp,by simp,by simp,fun s v=>B2 s [v] rfl⟩⟩
