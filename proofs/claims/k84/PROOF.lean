import PyProof.Rows.All
import Wide.All
import OpenK.AllK
import Wide.FinOn
import Lean
import PyProof.EqAt
import PyProof.EqKinds
import PyProof.TupleCall
import PyProof.NsDelKeeps
import KE.KIsBytes
import PyProof.Rows.SetFrom
import KE.KDictOf
import PyProof.AttrMissSeq
import PyProof.WalksMore
import PyProof.ZipIter
import PyProof.StrBlock2
import PyProof.StrBlockI
import PyProof.Rows.StrJoin2
import PyProof.Rows.CountFlat
import PyProof.Rows.Range3
import PyProof.SumWalkG
import PyProof.Rows.ListMulArg
import PyProof.FactsAll.tuple
import PyProof.EnumFor
import PyProof.EnumMake
import KE.KDictLaws
import KE.KDictSum
import KE.KRevIter
import PyProof.Rows.SortStr
import PyProof.Rows.SortWalk
import PyProof.AutoListH
import PyProof.StrLawsReplace
import PyProof.Rows.SortShellK
import KE.KLam
import KE.KSortKey
import KE.KNestM
import PyProof.EnumStmt
import PyProof.ListMulRoad
import PySem.Challenge.RW_pageturns_k84_whole_turned_over
set_option compiler.extract_closed false
set_option hygiene false in
local macro_rules|`(tactic|obtain $p:rcasesPatMed)=>`(tactic|(rintro _ _ _ _ _ _ _ S R Z hr ($p:rcasesPatMed);subst e))
set_option hygiene false in
local macro_rules|`(tactic|obtain $p:rcasesPatMed:$t)=>`(tactic|(refine $t ?_;rintro _ _ _ _ _ _ _ S R Z hr ($p:rcasesPatMed);subst e;have hu:=hr.u))
local macro_rules|`(tactic| trivial)=>`(tactic| decide +kernel)
set_option Elab.async false
set_option linter.all false
set_option maxRecDepth 100000
set_option genInjectivity false
set_option genSizeOfSpec false
namespace Tactic
section
open PySem
abbrev dL:=List Value
abbrev ii:=Array Value
abbrev im:=List Addr
abbrev io:=List (Addr×Obj)
abbrev jp:=List Env
abbrev j4:=List Str
abbrev lc:=Value->Shared->Prop
abbrev li:=List Expr
abbrev mt:=List Stmt
abbrev pc:=List (Str×Value)
abbrev pi:=Option Addr
abbrev pp:=Option Int
abbrev py:=List Keyword
abbrev rp:=List Int
abbrev sB:=Array (Option Value)
abbrev sK:=List (Str×Addr)
abbrev ul:=List (Option Nat)
abbrev ut:=List Bool
abbrev u8:=List PyData
abbrev wp:=List Nat
abbrev ww:=List (Str×Str)
end
theorem qQQ(h:True:=by rfl):True:=h
def qQJ:Lean.Syntax:=qQQ._auto_1
theorem qQX(h:True:=by decide):True:=h
def qQZ:Lean.Syntax:=qQX._auto_1
theorem qQK(h:True:=by intro _;rfl):True:=h
def qQ0:Lean.Syntax:=qQK._auto_1
theorem qQ1(h:True:=by with_unfolding_all rfl):True:=h
def qQ2:Lean.Syntax:=qQ1._auto_1
theorem qQ3(h:True:=by exact⟨rfl,rfl,rfl,rfl⟩):True:=h
def qQ4:Lean.Syntax:=qQ3._auto_1
theorem qQ5(h:True:=by trivial):True:=h
def qQ6:Lean.Syntax:=qQ5._auto_1
theorem qQ7(h:True:=by first|exact .inl rfl|exact .inr rfl|assumption):True:=h
def qQ8:Lean.Syntax:=qQ7._auto_1
theorem qQ9(h:True:=by first|exact .inl rfl|exact .inr rfl):True:=h
def qJQ:Lean.Syntax:=qQ9._auto_1
theorem qJJ(h:True:=by intro _ _ _ _ _;exact{Or.inl rfl,rfl}):True:=h
def qJX:Lean.Syntax:=qJJ._auto_1
theorem qJZ(h:True:=by first|decide|omega):True:=h
def qJK:Lean.Syntax:=qJZ._auto_1
theorem qJ0(h:True:=by exact λ_ _=>rfl):True:=h
def qJ1:Lean.Syntax:=qJ0._auto_1
theorem qJ2(h:True:=by first|exact Or.inl rfl|exact Or.inr rfl):True:=h
def qJ3:Lean.Syntax:=qJ2._auto_1
theorem qJ4(h:True:=by intro _ _ _ _ _;rfl):True:=h
def qJ5:Lean.Syntax:=qJ4._auto_1
theorem qJ6(h:True:=by exact{by trivial,rfl,rfl,λ_ _ _ _ _=>{Or.inl rfl,rfl}}):True:=h
def qJ7:Lean.Syntax:=qJ6._auto_1
local macro_rules|`({$a:term})=>`(⟨$a⟩)|`({$a:term,$b:term,*})=>`(⟨$a,$b,*⟩)
local macro_rules|`(!$t)=>do{let mut t:=t;let mut n:=1;for _ in [0:20] do{if let `(!$u):=t then{t:=u;n:=n+1}};let xs←(match t with|`(⟨$x,*⟩)=>pure x.getElems|`({$x:term,$y:term,*})=>pure (#[x]++y.getElems)|_=>Lean.Macro.throwUnsupported);let mut a:=xs;for _ in [0:n] do{a:=#[←`(_),←`(rfl)]++a};`(⟨$a,*⟩)}
open PySem.W (instObj methodObj hideAll hideAll_get of_hideAll Frag lookIn plainGet hasDictIn findIn handedIn plainGet_of isFn plainOver takerIn makesIn emptyDict specialIn keepIn mroIn kitOne kia_one kitx_list fnOf codeIn excIn callWith_K methodCall_KW envX kla_fn codeHdIn tabObj codeHd_of_K nsIn mg_of)
theorem za:type_of%@PySem.Heap.get?_push_of_some:=@PySem.Heap.get?_push_of_some
theorem zb:type_of%@List.length_map:=@List.length_map
theorem zc:type_of%@PySem.wpAny_bind:=@PySem.wpAny_bind
theorem zd:type_of%@Bool.false_ne_true:=@Bool.false_ne_true
theorem ze:type_of%@List.getElem?_eq_getElem:=@List.getElem?_eq_getElem
theorem zf:type_of%@List.getElem?_eq_some_iff:=@List.getElem?_eq_some_iff
theorem zg:type_of%@List.mem_cons_of_mem:=@List.mem_cons_of_mem
theorem zh:type_of%@List.getElem?_map:=@List.getElem?_map
theorem zi:type_of%@List.mem_map:=@List.mem_map
theorem zj:type_of%@List.mem_cons_self:=@List.mem_cons_self
theorem zk:type_of%@PySem.Heap.get?_push_size:=@PySem.Heap.get?_push_size
theorem zm:type_of%@List.mem_cons:=@List.mem_cons
theorem zo:type_of%@decide_eq_false:=@decide_eq_false
theorem zp:type_of%@List.mem_of_getElem?:=@List.mem_of_getElem?
theorem zq:type_of%@Nat.le_refl:=@Nat.le_refl
theorem zr:type_of%@decide_eq_true:=@decide_eq_true
theorem zt:type_of%@List.size_toArray:=@List.size_toArray
theorem zu:type_of%@Nat.lt_of_lt_of_le:=@Nat.lt_of_lt_of_le
theorem zw:type_of%@List.getD_eq_getElem?_getD:=@List.getD_eq_getElem?_getD
theorem zx:type_of%@List.map_map:=@List.map_map
theorem zy:type_of%@of_decide_eq_true:=@of_decide_eq_true
theorem zA:type_of%@PySem.wpAny_pure:=@PySem.wpAny_pure
theorem zB:type_of%@PySem.Heap.lt_size:=@PySem.Heap.lt_size
theorem zC:type_of%@List.map_cons:=@List.map_cons
theorem zD:type_of%@List.length_append:=@List.length_append
theorem zE:type_of%@List.mem_singleton:=@List.mem_singleton
theorem zG:type_of%@Nat.ne_of_lt:=@Nat.ne_of_lt
theorem zH:type_of%@Bool.and_eq_true:=@Bool.and_eq_true
theorem zI:type_of%@List.map_append:=@List.map_append
theorem zJ:type_of%@List.mem_append_right:=@List.mem_append_right
theorem zK:type_of%@Int.emod_lt_of_pos:=@Int.emod_lt_of_pos
theorem zL:type_of%@Int.emod_nonneg:=@Int.emod_nonneg
theorem zM:type_of%@List.not_mem_nil:=@List.not_mem_nil
theorem zN:type_of%@List.mem_append:=@List.mem_append
theorem zO:type_of%@Nat.le_trans:=@Nat.le_trans
theorem zP:type_of%@List.length_reverse:=@List.length_reverse
theorem zQ:type_of%@List.length_cons:=@List.length_cons
theorem zR:type_of%@PySem.F.plainAttrs_list:=@PySem.F.plainAttrs_list
theorem zS:type_of%@List.mem_range:=@List.mem_range
theorem zT:type_of%@Option.some.inj:=@Option.some.inj
theorem zU:type_of%@List.map_congr_left:=@List.map_congr_left
theorem zV:type_of%@Nat.zero_le:=@Nat.zero_le
theorem zW:type_of%@List.lookup_cons:=@List.lookup_cons
theorem zX:type_of%@List.all_eq_true:=@List.all_eq_true
theorem zY:type_of%@Bool.false_and:=@Bool.false_and
theorem zZ:type_of%@decide_eq_true_eq:=@decide_eq_true_eq
theorem z0:type_of%@of_decide_eq_false:=@of_decide_eq_false
theorem ya:type_of%@PySem.F.slot_list_append:=@PySem.F.slot_list_append
theorem yb:type_of%@PySem.F.type_list_append:=@PySem.F.type_list_append
theorem yc:type_of%@List.find?_cons:=@List.find?_cons
theorem yd:type_of%@PySem.Heap.size_push:=@PySem.Heap.size_push
theorem ye:type_of%@Bool.true_and:=@Bool.true_and
theorem yf:type_of%@PySem.sizeLine_eq:=@PySem.sizeLine_eq
theorem yg:type_of%@List.getElem?_of_mem:=@List.getElem?_of_mem
theorem yh:type_of%@PySem.wpAny_field:=@PySem.wpAny_field
theorem yi:type_of%@PySem.mem_of_lookup:=@PySem.mem_of_lookup
theorem yj:type_of%@decide_eq_false_iff_not:=@decide_eq_false_iff_not
theorem yk:type_of%@List.mem_append_left:=@List.mem_append_left
theorem ym:type_of%@List.length_take:=@List.length_take
theorem yn:type_of%@List.getElem?_eq_none:=@List.getElem?_eq_none
theorem yo:type_of%@List.getElem?_set_ne:=@List.getElem?_set_ne
theorem yp:type_of%@Nat.ne_of_gt:=@Nat.ne_of_gt
theorem yq:type_of%@List.nodup_cons:=@List.nodup_cons
theorem yr:type_of%@List.getElem?_set_self:=@List.getElem?_set_self
theorem yt:type_of%@PySem.Heap.get?_update_other:=@PySem.Heap.get?_update_other
theorem yu:type_of%@Array.length_toList:=@Array.length_toList
theorem yw:type_of%@PySem.wpAny_mono:=@PySem.wpAny_mono
theorem yx:type_of%@PySem.wpAny_truthy_bool:=@PySem.wpAny_truthy_bool
theorem yy:type_of%@PySem.Heap.get?_update_self:=@PySem.Heap.get?_update_self
theorem yz:type_of%@PySem.F.slot_dict_get:=@PySem.F.slot_dict_get
theorem yA:type_of%@PySem.Obj.data_mapFields:=@PySem.Obj.data_mapFields
theorem yB:type_of%@Nat.lt_irrefl:=@Nat.lt_irrefl
theorem yC:type_of%@PySem.Heap.SameBut.update:=@PySem.Heap.SameBut.update
theorem yD:type_of%@List.mem_filter:=@List.mem_filter
theorem yE:type_of%@Bool.eq_iff_iff:=@Bool.eq_iff_iff
theorem yF:type_of%@PySem.Calls.spliced_cons:=@PySem.Calls.spliced_cons
theorem yG:type_of%@List.take_length:=@List.take_length
theorem yH:type_of%@PySem.wpAny_newObj_type:=@PySem.wpAny_newObj_type
theorem yI:type_of%@List.length_range:=@List.length_range
theorem yJ:type_of%@List.append_nil:=@List.append_nil
theorem yK:type_of%@Bool.or_eq_true:=@Bool.or_eq_true
theorem yL:type_of%@Sum.inr.inj:=@Sum.inr.inj
theorem yM:type_of%@PySem.wpAny_holding:=@PySem.wpAny_holding
theorem yN:type_of%@PySem.wpAny_call_entry:=@PySem.wpAny_call_entry
theorem yO:type_of%@decide_eq_decide:=@decide_eq_decide
theorem yP:type_of%@Nat.le_of_lt:=@Nat.le_of_lt
theorem yQ:type_of%@List.foldl_cons:=@List.foldl_cons
theorem yR:type_of%@PySem.codeAny_builtin:=@PySem.codeAny_builtin
theorem yS:type_of%@PySem.Paired.length:=@PySem.Paired.length
theorem yT:type_of%@List.any_cons:=@List.any_cons
theorem yU:type_of%@PySem.wpAny_setField:=@PySem.wpAny_setField
theorem yV:type_of%@Nat.le_succ:=@Nat.le_succ
theorem yW:type_of%@PySem.codeAny_mono:=@PySem.codeAny_mono
theorem yX:type_of%@Nat.succ.inj:=@Nat.succ.inj
theorem yY:type_of%@PySem.wpAny_of_eq:=@PySem.wpAny_of_eq
namespace L2
open PySem PySem.Spec PyProof.Rows
abbrev Key:=Sum Int Str
abbrev re:=List (Key×Value)
def keyIs:Key->Value->Bool|.inl k,v=>Value.isInt k v|.inr x,v=>Value.isStrOf x v
def ZM(w:World):Key->Int|.inl k=>hashInt k|.inr x=>hashStr w x
theorem bA:∀{k:Key}{v:Value},keyIs k v=true->(∃i t,k=Sum.inl i/\v=Value.int i t)\/(∃x t,k=Sum.inr x/\v=Value.str x t)|.inl i,v,h=>(by obtain⟨t,e⟩:=Value.isInt_shape (k:=i) (v:=v) h;exact .inl ⟨i,t,rfl,e⟩)|.inr x,v,h=>by obtain⟨t,e⟩:=Value.isStrOf_shape (x:=x) (v:=v) h;exact .inr ⟨x,t,rfl,e⟩
theorem GG(i:Int)(t:Tok):keyIs (.inl i) (.int i t)=true:=by simp[keyIs,Value.isInt]
theorem GH(x:Str)(t:Tok):keyIs (.inr x) (.str x t)=true:=by simp[keyIs,Value.isStrOf]
theorem Qp(a b:Int):decide ((Sum.inl a:Key)=Sum.inl b)=(a==b):=by by_cases e:a=b;subst e;simp;have h:¬(Sum.inl a:Key)=Sum.inl b:=λq=>e<|Sum.inl.inj q;rw[zo h];exact(beq_eq_false_iff_ne.mpr e).symm
theorem Qq(a b:Str):decide ((Sum.inr a:Key)=Sum.inr b)=decide (a=b):=by by_cases e:a=b;subst e;simp;have h:¬(Sum.inr a:Key)=Sum.inr b:=λq=>e<|yL q;rw[zo h,zo e]
theorem Qr(a:Int)(b:Str):decide ((Sum.inl a:Key)=Sum.inr b)=false:=zo λq=>nomatch q
theorem Qt(a:Str)(b:Int):decide ((Sum.inr a:Key)=Sum.inl b)=false:=zo λq=>nomatch q
def aH(prog:Program)(w:World):PySem.KeyKind prog w Key where
 is:=keyIs
 hash:=ZM w
 inj:=λv a b ha hb=>by
  rcases bA ha with⟨i,t,rfl,rfl⟩|⟨x,t,rfl,rfl⟩
  ·rcases bA hb with⟨j,u,rfl,e⟩|⟨y,u,rfl,e⟩
   ·injection e with e1 _;rw[e1]
   ·exact nomatch e
  ·rcases bA hb with⟨j,u,rfl,e⟩|⟨y,u,rfl,e⟩
   ·exact nomatch e
   ·injection e with e1 _;rw[e1]
 byValue:=λk v h=>by
  rcases bA h with⟨i,t,rfl,rfl⟩|⟨x,t,rfl,rfl⟩<;>rfl
 pyHash:=λhv h=>by
  rcases bA hv with⟨i,t,rfl,rfl⟩|⟨x,t,rfl,rfl⟩
  ·exact wpAny_pyHash_int h
  ·exact wpAny_pyHash_str h
 eqBool:=λhu hv h=>by
  rcases bA hu with⟨i,t,rfl,rfl⟩|⟨x,t,rfl,rfl⟩
  ·rcases bA hv with⟨j,u,rfl,rfl⟩|⟨y,u,rfl,rfl⟩
   ·rw[Qp]at h;exact wpAny_eqBool_int h
   ·rw[Qr]at h;exact SeqAt.EqAt.int_str i t y u _ _ _ _ h
  ·rcases bA hv with⟨j,u,rfl,rfl⟩|⟨y,u,rfl,rfl⟩
   ·rw[Qt]at h;exact SeqAt.EqAt.str_int x t j u _ _ _ _ h
   ·rw[Qq]at h;exact wpAny_eqBool_str h
 «strs»:=λk x t v h=>by
  rcases bA h with⟨i,u,rfl,e⟩|⟨y,u,rfl,e⟩
  ·exact nomatch e
  ·injection e with e1 _
   subst e1
   cases v<;>rfl
theorem AB(prog:Program)(w:World)(i:Int)(t:Tok):(aH prog w).is (.inl i) (.int i t)=true:=GG i t
theorem jm(prog:Program)(w:World)(x:Str)(t:Tok):(aH prog w).is (.inr x) (.str x t)=true:=GH x t
set_option genInjectivity true in
set_option genSizeOfSpec true in
inductive V where
 |av|bl (b:Bool)|int (i:Int)|str (x:Str)|ES (b:Array UInt8)|Qu (b:UInt64)|ref (a:Addr)|ty (n:String)
 deriving DecidableEq
abbrev cr:=List V
abbrev fv:=List (Key×V)
abbrev ge:=List (Str×V)
def RelV:V->Value->Prop|.av,u=>u=Value.none|.bl b,u=>u=Value.bool b|.int i,u=>∃t,u=Value.int i t|.str x,u=>∃t,u=Value.str x t|.ES b,u=>∃t,u=Value.bytes b t|.Qu b,u=>∃t,u=Value.float b t|.ref a,u=>u=Value.ref a|.ty n,u=>u=Value.type n
abbrev Vals:List V->List Value->Prop:=Paired RelV
theorem Vals.length{xs:cr}{us:dL}(r:Vals xs us):xs.length=us.length:=yS r
theorem Vals.get:∀{xs:cr}{us:dL}{i:Nat}{x:V},Vals xs us->xs[i]?=some x->∃u,us[i]?=some u/\RelV x u|_,_,_,_,.nil,e=>by simp at e|_,_,0,_,.cons r _,e=>by simp at e;subst e;exact{_,rfl,r}|_,_,i+1,x,.cons _ t,e=>by obtain⟨u,h1,h2⟩:=Vals.get (i:=i) (x:=x) t (by simpa using e);exact{u,by simpa using h1,h2}
theorem Vals.set(r:RelV x u):∀{xs:cr}{us:dL}(i:Nat),Vals xs us->Vals (xs.set i x) (us.set i u)|_,_,_,.nil=>.nil|_,_,0,.cons _ t=>.cons r t|_,_,i+1,.cons q t=>.cons q<|Vals.set r i t
theorem Vals.append:∀{xs ys:cr}{us ws:dL},Vals xs us->Vals ys ws->Vals (xs++ys) (us++ws)|_,_,_,_,.nil,s=>s|_,_,_,_,.cons r t,s=>.cons r<|Vals.append t s
theorem Vals.take:∀{xs:cr}{us:dL}(n:Nat),Vals xs us->Vals (xs.take n) (us.take n)|_,_,0,_=>.nil|_,_,_+1,.nil=>.nil|_,_,n+1,.cons r t=>.cons r<|Vals.take n t
theorem Vals.drop:∀{xs:cr}{us:dL}(n:Nat),Vals xs us->Vals (xs.drop n) (us.drop n)|_,_,0,r=>r|_,_,_+1,.nil=>.nil|_,_,n+1,.cons _ t=>Vals.drop n t
def fF:Option V->Option Value->Prop|some v,some u=>RelV v u|none,none=>True|_,_=>False
def KV{κ:Type} : List (κ×V)->List (κ×Value)->Prop:=Paired λ(p:κ×V)(q:κ×Value)=>p.1=q.1/\RelV p.2 q.2
def kV:Key->V|.inl i=>.int i|.inr x=>.str x
set_option genInjectivity true in
set_option genSizeOfSpec true in
inductive HO where
  |lst (xs:cr)
  |tup (xs:cr)
  |dK (kvs:fv)|dT (kvs:List<|List Key×V)
  |set (S:Int->Bool) (n:Nat)
  |ins (C dx:Addr) (fs:ge)
  |own (x:Addr)
  |xd (fs:ge)
  |met (f x:Addr)
  |Yy (lo hi:Int)
  |lM (o:Obj) (u:HO)
  |qW (ps:ii)
  |ext (φ:Heap->Prop)
abbrev Hp:=Addr->Option HO
noncomputable def upd(H:Hp)(a:Addr)(o:HO):Hp:=λb=>if b=a then some o else H b
theorem aE{H:Hp}{a:Addr}{o:HO} : upd H a o a=some o:=by unfold upd;rw[if_pos rfl]
theorem az{H:Hp}{a b:Addr}{o:HO}(h:b≠a):upd H a o b=H b:=by unfold upd;rw[if_neg h]
theorem aF{H:Hp}{a b:Addr}{o:HO}(h:H a=some o)(h':H b=none):a≠b:=by intro e;subst e;rw[h]at h';cases h'
def jn(h:Heap)(a:Addr)(items:ii):Prop:=∃o,h.get? a=some o/\o.cls=.type "tuple"/\o.dict=none/\∃n,o.data=.seq items n
theorem jn.tup(x:jn h a items):IsTup h a items:=by obtain⟨o,e,c,_,n,d⟩:=x;exact⟨o,e,c,n,d⟩
theorem jn.lt(x:jn h a items):a<h.objs.size:=x.tup.lt
theorem jn.new(h:Heap)(items:ii):jn (h.push {cls:=.type "tuple",data:=.seq items}) h.objs.size items:={_,zk _ rfl,rfl,rfl,_,rfl}
section
variable(P:Program)(w:World)
def bj(H:Hp)(h:Heap)(a:Addr):HO->Prop|.lst xs=>xs.length<=sizeLine/\∃(ay:dL) (n:Nat),Vals xs ay/\h.get? a=some {cls:=.type "list",data:=.seq ay.toArray n}|.tup xs=>xs.length<=sizeLine/\∃ay:dL,Vals xs ay/\jn h a ay.toArray|.dK kvs=>kvs.length<=sizeLine/\(a==sysModules)=false/\∃vs,KV kvs vs/\h.DictOf (aH P w) a vs|.dT _=>False|.set S n=>h.SetOf (intKind P w) a S n|.ins C dx fs=>H dx=some (.own a)/\fs.length<=1000/\dx≠a/\h.get? a=some (instObj C dx)/\∃mA,h.Ns1 dx mA/\(∀f,fF (fs.lookup f)<|mA f)/\PySem.Within mA (fs.map (·.1))|.own _=>∃o,h.get? a=some o|.xd fs=>∃mA,h.Ns1 a mA/\∀f,fF (fs.lookup f) (mA f)|.Yy lo hi=>∃t u v,h.get? a=some {cls:=.type "range",data:=.fields #[.int lo t,.int hi u,.int 1 v]}|.lM o u=>h.get? a=some o/\bj H h a u|.qW ps=>h.get? a=some {cls:=.none,data:=.fields ps}|.met f x=>h.get? a=some (methodObj (.ref f)<|.ref x)|.ext φ=>φ h/\(∃o,h.get? a=some o)/\∀h1 h2:Heap,φ h1->(∀o,h1.get? a=some o->h2.get? a=some o)->φ h2
def lN(H:Hp)(h:Heap):Prop:=∀a o,H a=some o->bj P w H h a o
end
section
variable{P:Program}{w:World}{H H':Hp}{h h':Heap}{a:Addr}{o:HO}
theorem bj.lt(x:bj P w H h a o):a<h.objs.size:=by cases o with|lst xs=>(obtain⟨_,_,_,_,e⟩:=x;exact zB e)|tup xs=>(obtain⟨_,_,_,p⟩:=x;exact p.lt)|dK kvs=>(obtain⟨_,_,_,_,o,_,_,e,_⟩:=x;exact zB e)|dT kvs=>exact False.elim x|set S n=>(obtain⟨o,_,_,_,e,_⟩:=x;exact zB e)|ins C dx fs=>(obtain⟨_,_,_,e,_⟩:=x;exact zB e)|own y=>(obtain⟨_,e⟩:=x;exact zB e)|xd fs=>(obtain⟨_,⟨_,_,_,e,_⟩,_⟩:=x;exact zB e)|Yy lo hi=>(obtain⟨_,_,_,e⟩:=x;exact zB e)|lM ob u=>(obtain⟨e,_⟩:=x;exact zB e)|qW ps=>exact zB (show h.get? a=some _ from x)|met f y=>exact zB (show h.get? a=some _ from x)|ext φ=>obtain⟨_,⟨_,e⟩,_⟩:=x;exact zB e
theorem bj.qx(x:bj P w H h a o)(k:∀b u,(b=a\/H b=some (.own a))->h.get? b=some u->h'.get? b=some u)(ho:∀b,H b=some (.own a)->H' b=some (.own a))(ht:∀b xs,H b=some (.tup xs)->H' b=some (.tup xs)):bj P w H' h' a o:=by induction o with|lst xs=>(obtain⟨z,ay,n,r,e⟩:=x;exact{z,ay,n,r,k _ _ (.inl rfl) e})|tup xs=>(obtain⟨z,ay,r,ob,e,c⟩:=x;exact{z,ay,r,ob,k _ _ (.inl rfl) e,c})|dK kvs=>(obtain⟨z,y,vs,r,ob,es,ep,e,c⟩:=x;exact{z,y,vs,r,ob,es,ep,k _ _ (.inl rfl) e,c})|dT kvs=>exact False.elim x|set S n=>(obtain⟨ob,es,ep,t,e,c⟩:=x;exact{ob,es,ep,t,k _ _ (.inl rfl) e,c})|ins C dx fs=>(obtain⟨d,z,ne,e,mA,⟨od,es,ep,e2,c⟩,r⟩:=x;exact{ho _ d,z,ne,k _ _ (.inl rfl) e,mA,{od,es,ep,k _ _ (.inr d) e2,c},r})|own y=>(obtain⟨ob,e⟩:=x;exact{ob,k _ _ (.inl rfl) e})|xd fs=>(obtain⟨mA,⟨od,es,ep,e,c⟩,r⟩:=x;exact{mA,{od,es,ep,k _ _ (.inl rfl) e,c},r})|Yy lo hi=>(obtain⟨t,u,v,e⟩:=x;exact{t,u,v,k _ _ (.inl rfl) e})|lM ob u ih=>(obtain⟨e,q⟩:=x;exact{k _ _ (.inl rfl) e,ih q})|qW ps=>have e:h.get? a=some {cls:=.none,data:=.fields ps}:=x;show h'.get? a=some {cls:=.none,data:=.fields ps};exact k a _ (.inl rfl) e|met f y=>have e:h.get? a=some (methodObj (.ref f)<|.ref y):=x;show h'.get? a=some (methodObj (.ref f)<|.ref y);exact k a _ (.inl rfl) e|ext φ=>obtain⟨p,⟨o,e⟩,st⟩:=x;exact{st _ _ p λo q=>k _ _ (.inl rfl) q,{o,k _ _ (.inl rfl) e},st}
theorem lN.lt(x:lN P w H h)(e:H a=some o):a<h.objs.size:=(x a o e).lt
theorem lN.fresh(x:lN P w H h)(e:h.objs.size<=a):H a=none:=by cases q:H a with|none=>rfl|some u=>exact absurd (zu (x.lt q) e)<|yB _
theorem lN.kept(x:lN P w H h)(k:∀b u,h.get? b=some u->h'.get? b=some u):lN P w H h':=λa o e=>(x a o e).qx (λb u _ q=>k b u q) (λ_ q=>q) λ_ _ q=>q
theorem lN.laid(x:lN P w H h)(k:∀b u,h.get? b=some u->h'.get? b=some u)(hp:h.objs.size<=a)(new:bj P w (upd H a o) h' a o):lN P w (upd H a o) h':=λb u e=>by have hn:=x.fresh hp;by_cases hb:b=a;subst hb;rw[aE]at e;cases e;exact new;rw[az hb]at e;exact(x b u e).qx (λc v _ q=>k c v q) (λc q=>by rw[az<|aF q hn];exact q) λc xs q=>by rw[az<|aF q hn];exact q
end
def Rd(H:Hp)(a:Addr)(u:HO):Prop:=H a=some u\/∃o,H a=some (.lM o u)
theorem Rd.of(h:H a=some u):Rd H a u:=.inl h
theorem Rd.ok{P:Program}{w:World}{H:Hp}{h:Heap}{a:Addr}{u:HO}(r:Rd H a u)(x:lN P w H h):bj P w H h a u:=by rcases r with r|⟨o,r⟩;exact x a u r;obtain⟨_,q⟩:=x a _ r;exact q
def U6:Option HO->Prop|some (.lst _)=>True|some (.dK _)=>True|some (.dT _)=>True|some (.set _ _)=>True|some (.ins _ _ _)=>True|some (.ext _)=>True|_=>False
section
variable{P:Program}{w:World}{H:Hp}{h h':Heap}{x e:Addr}{o':HO}
theorem lN.write(ok:lN P w H h)(mu:U6<|H x)(he:e=x\/H e=some (.own x))(k:∀b u,b≠e->h.get? b=some u->h'.get? b=some u)(Uo:∃u,h'.get? e=some u)(new:bj P w (upd H x o') h' x o'):lN P w (upd H x o') h':=λb u q=>by
 have U7:∀c y,H c=some (.own y)->c≠x:=λc y r z=>by subst z;rw[r]at mu;exact mu
 have ZO:∀c xs,H c=some (.tup xs)->c≠x:=λc xs r z=>by subst z;rw[r]at mu;exact mu
 by_cases hb:b=x;subst hb;rw[aE]at q;cases q;exact new;rw[az hb]at q;by_cases OR:b=e;have q':H b=some (.own x):=by rcases he with z|z;exact absurd (OR.trans z) hb;rw[OR];exact z
 rw[q]at q';cases q';obtain⟨v,hv⟩:=Uo;exact{v,by rw[OR];exact hv};refine(ok b u q).qx (λc v hc r=>k c v ?_ r) (λc r=>by rw[az<|U7 c b r];exact r) λc xs r=>by rw[az<|ZO c xs r];exact r
 rcases hc with rfl|hc;exact OR;rintro rfl;rcases he with z|z;exact U7 c b hc z;rw[hc]at z;cases z;exact hb rfl
end
structure Un(fs ex:im)(H H':Hp)(h h':Heap):Prop where
 keep:∀b o,h.get? b=some o->H b=none->b∉fs->b∉ex->h'.get? b=some o
 slot:∀b o,h.get? b=some o->H b=none->b∈fs->b∉ex->∃sl,h'.get? b=some {o with slots:=sl}
 free:∀b o,h.get? b=some o->H b=none->b∉ex->H' b=none
 there:∀b o,h.get? b=some o->b∉ex->∃o',h'.get? b=some o'
 mB:∀b xs,H b=some (.tup xs)->H' b=some (.tup xs)
 lO:∀b o u,H b=some (.lM o u)->H' b=some (.lM o u)
 lP:∀b ps,H b=some (.qW ps)->∃more,H' b=some (.qW<|ps++more)
section
variable{fs ex:im}{H H1:Hp}{h h1 h':Heap}{a x e:Addr}{o:HO}
theorem Un.any(u:Un fs ex H H1 h h1){b:Addr}{ob:Obj}(q:h.get? b=some ob)(n:H b=none)(hx:b∉ex):∃sl,h1.get? b=some {ob with slots:=sl}:=by by_cases hb:b∈fs;exact u.slot b ob q n hb hx;exact{ob.slots,u.keep b ob q n hb hx}
theorem Un.kept(k:∀b u,h.get? b=some u->h'.get? b=some u):Un fs ex H H h h':={λb ob q _ _ _=>k b ob q,λb ob q _ _ _=>{ob.slots,k b ob q},λ_ _ _ n _=>n,λb ob q _=>{ob,k b ob q},λ_ _ q=>q,λ_ _ _ q=>q,λ_ ps q=>{#[],by rw[q];simp}}
theorem Un.refl:Un fs ex H H h h:=Un.kept λ_ _ q=>q
theorem Un.laid(k:∀b u,h.get? b=some u->h'.get? b=some u)(hp:h.objs.size<=a)(hn:H a=none):Un fs ex H (upd H a o) h h' where
 keep:=λb u q _ _ _=>k b u q
 slot:=λb u q _ _ _=>{u.slots,k b u q}
 free:=λb u q n _=>by rw[az<|zG<|zu (zB q) hp];exact n
 there:=λb u q _=>{u,k b u q}
 mB:=λb xs q=>by rw[az<|aF q hn];exact q
 lO:=λb u xs q=>by rw[az<|aF q hn];exact q
 lP:=λb ps q=>{#[],by rw[az<|aF q hn,q];simp}
theorem Un.write(mu:U6<|H x)(he:e=x\/H e=some (.own x))(k:∀b u,b≠e->h.get? b=some u->h'.get? b=some u)(Uo:∃u,h'.get? e=some u):Un fs ex H (upd H x o) h h':=by
 have hx:∀b,H b=none->b≠x:=λb n z=>by subst z;rw[n]at mu;exact mu
 have hb:∀b,H b=none->b≠e:=λb n z=>by subst z;rcases he with r|r;exact hx b n r;rw[n]at r;cases r
 have hm:∀b u,H b=some u->¬U6 (some u)->b≠x:=λb u q nm z=>by subst z;rw[q]at mu;exact nm mu
 refine⟨λb u q n _ _=>k b u (hb b n) q,λb u q n _ _=>{u.slots,k b u (hb b n) q},λb u q n _=>by rw[az<|hx b n];exact n,λb u q _=>?_,
  λb xs q=>by rw[az<|hm b _ q λz=>z];exact q,λb u xs q=>by rw[az<|hm b _ q λz=>z];exact q,λb ps q=>{#[],by rw[az<|hm b _ q λz=>z,q];simp}⟩
 by_cases OR:b=e;subst OR;exact Uo;exact{u,k b u OR q}
end
noncomputable def Yz(h:Heap)(H:Hp):im:=(List.range h.objs.size).filter λa=>(H a).isSome
noncomputable def uu(h:Heap)(H:Hp):Heap:=hideAll h<|Yz h H
theorem GI(h:Heap)(H:Hp):(uu h H).objs.size=h.objs.size:=PySem.W.hideAll_size _ _
theorem IH(e:h.get? b=some o)(n:H b=none):(uu h H).get? b=some o:=hideAll_get _ e λhm=>by have q:(H b).isSome=true:=(yD.mp hm).2;rw[n]at q;simp at q
theorem Mi(e:(uu h H).get? b=some o):h.get? b=some o/\H b=none:=by have e':h.get? b=some o:=of_hideAll (Yz h H) e;refine{e',?_};cases q:H b with|none=>rfl|some x=>have hm:b∈Yz h H:=yD.mpr {zS.mpr<|zB e',by simp[q]};have z:(uu h H).get? b=none:=PySem.W.hideAll_none (Yz h H) hm;rw[z]at e;cases e
noncomputable def Mj(g h:Heap)(L:Addr):io:=(List.range h.objs.size).filterMap λa=>if a=L\/(g.get? a).isSome=true then none else (h.get? a).map λo=>(a,o)
noncomputable def rest(g h:Heap)(L d:Addr):io:=(Mj g h L).filter λp=>decide<|p.1≠d
structure Mod(K:Frag)(mg:Str->Option Value)(base:Heap):Prop where
 Up:K.In base
 glob:base.Ns mainGlobals mg
 blt:∃mb,base.Ns builtinsNs mb/\∀x:Str,x≠"__name__"->mb x=bootBuiltins x
 nolimit:base.NoLimit
structure Cx where
 prog:Program
 w:World
 K:Frag
 mg:Str->Option Value
 base:Heap
 A:Around
 N:List Str
 dw:Shared
 wG:Hp
 env:Env
 outer:List Env
 stack:List Env
 ex:List Addr
 fn:Str->Bool
 calm:Bool
 pn:List (Addr×Obj)
 xe:Value->Shared->Prop
def om(l:jp):im:=l.filterMap (·.frame)
noncomputable abbrev Cx.fs(X:Cx):im:=om X.outer
def Qv(sc:Scope)(x:Str):Prop:=sc.names.lookup x=some .local\/sc.names.lookup x=some .cell\/sc.names.lookup x=some .free
def Loc(sc:Scope)(x:Str):Prop:=sc.names.lookup x=some .local\/sc.names.lookup x=some .cell
def Look(env:Env)(h:Heap)(m:Str->Option Value)(x:Str)(u:Value):Prop:=(env.kindOf x=some .local/\m x=some u)\/((env.kindOf x=some .cell\/env.kindOf x=some .free)/\∃c,env.cells.lookup x=some c/\h.IsCell c (some u))
structure Cx.Ok(X:Cx):Prop where
 mod:Mod X.K X.mg X.base
 kind:X.env.scope.kind=.function
 glob:X.env.globals=mainGlobals
 blt:X.env.builtins=builtinsNs
 above:X.dw.heap.objs.size<=X.env.locals
 inj:∀x y c,X.env.cells.lookup x=some c->X.env.cells.lookup y=some c->x=y
 has:∀x,(X.env.kindOf x=some .cell\/X.env.kindOf x=some .free)->∃c,X.env.cells.lookup x=some c
 ZP:∀x c,X.fn x=true->X.env.cells.lookup x=some c->X.dw.heap.objs.size<=c
 hd:X.calm=true->X.A.handled=none
 frames:X.A.frames=some X.stack
 stk:X.stack=X.outer\/(X.stack=X.env::X.outer/\X.env.frame=some X.env.locals)
 exf:∀b∈X.ex,b≠X.env.locals/\∀x c,X.env.cells.lookup x=some c->c≠b
 bs:∀b o,X.base.get? b=some o->X.dw.heap.get? b=some o/\X.wG b=none
 Ml:X.base.objs.size<=X.dw.heap.objs.size
 Qw:∀b o,X.base.get? b=some o->b∉X.ex
 U8:∀b∈X.ex,b∉X.fs
 qy:X.dw.heap.FunFrames X.base X.outer
 Qx:∀b∈X.fs,X.wG b=none
structure Inv(X:Cx)(pins:io)(σ:List (Option V))(H:Hp)(s:Shared):Prop where
 ok:X.Ok
 os:s.os=X.dw.os
 bare:AllBare s.gens
 base:Un X.fs X.ex X.wG H X.dw.heap s.heap
 loc:∃m,s.heap.Ns X.env.locals m/\∀(i:Nat)(x:Str)(v:V),X.N[i]?=some x->σ[i]?=some (some v)->Qv X.env.scope x->∃u,RelV v u/\Look X.env s.heap m x u
 cell:∀x c,X.env.cells.lookup x=some c->∃v,s.heap.IsCell c v
 free:H X.env.locals=none
 gf:∀x c,X.env.cells.lookup x=some c->H c=none
 pin:∀p∈X.pn++pins,s.heap.get? p.1=some p.2/\H p.1=none/\p.1≠X.env.locals/\p.1∉X.fs/\∀v,p.2.data≠.cell v
 aN:lN X.prog X.w H s.heap
 len:σ.length=X.N.length
section
variable{X:Cx}{pins:io}{σ:List (Option V)}{H H':Hp}{s:Shared}{h':Heap}
theorem Cx.Ok.GJ(ok:X.Ok)(e:X.base.get? b=some o):b∉X.fs:=λhb=>by have:=(ok.qy.mem hb).1;rw[e]at this;cases this
theorem Inv.bs(I:Inv X pins σ H s):∀b o,X.base.get? b=some o->s.heap.get? b=some o/\H b=none:=λb o e=>{I.base.keep b o (I.ok.bs b o e).1 (I.ok.bs b o e).2 (I.ok.GJ e)<|I.ok.Qw b o e,I.base.free b o (I.ok.bs b o e).1 (I.ok.bs b o e).2<|I.ok.Qw b o e}
theorem Inv.bk(I:Inv X pins σ H s):∀b o,X.base.get? b=some o->s.heap.get? b=some o:=λb o e=>(I.bs b o e).1
theorem Inv.mod(I:Inv X pins σ H s):Mod X.K X.mg X.base:=I.ok.mod
theorem Inv.pN(I:Inv X pins σ H s):X.K.In s.heap:=I.ok.mod.Up.keeps I.bk
theorem Inv.nolimit(I:Inv X pins σ H s):s.heap.NoLimit:=I.ok.mod.nolimit.keeps I.bk
theorem Inv.fr(I:Inv X pins σ H s):∃m,Fr X.base X.env.locals s.heap m :=
 let ⟨m,hn,_⟩:=I.loc
 ⟨m,hn,I.bk,zO I.ok.Ml I.ok.above⟩
theorem Inv.lt(I:Inv X pins σ H s):X.env.locals<s.heap.objs.size:=by obtain⟨_,hn,_⟩:=I.loc;exact hn.lt
theorem Inv.sz(I:Inv X pins σ H s):X.dw.heap.objs.size<=s.heap.objs.size:=zO I.ok.above<|yP I.lt
theorem Inv.U9(I:Inv X pins σ H s)(h:s.heap.objs.size<=a):a∉X.fs:=λhb=>by obtain⟨_,o,ho,_⟩:=I.ok.qy.mem hb;exact absurd (zu (zB ho)<|zO I.sz h)<|yB _
theorem Inv.Qy(I:Inv X pins σ H s):∀x c,X.env.cells.lookup x=some c->c≠X.env.locals:=λx c e z=>by obtain⟨v,o,ho,hd⟩:=I.cell x c e;obtain⟨m,⟨o',es,ep,CF,rN,_⟩,_⟩:=I.loc;rw[z,CF]at ho;cases ho;rw[rN]at hd;cases hd
theorem Inv.qy(I:Inv X pins σ H s):s.heap.FunFrames X.base X.outer:=by
 have all:∀(l:jp),(∀b∈om l,b∈X.fs)->X.dw.heap.FunFrames X.base l->s.heap.FunFrames X.base l:=by intro l;induction l with|nil=>intro _ _;trivial|cons env r ih=>intro hs hl;obtain⟨hk,⟨L,o,hf,hn,ho,hd⟩,hr⟩:=hl;have hL:L∈X.fs:=hs L (by unfold om;rw[List.filterMap_cons,hf];exact zj);obtain⟨sl,e⟩:=I.base.slot L o ho (I.ok.Qx L hL) hL λz=>I.ok.U8 L z hL;exact{hk,{L,_,hf,hn,e,hd},ih (λb hb=>hs b<|by unfold om;rw[List.filterMap_cons,hf];exact zg _ hb) hr}
 exact all X.outer (λ_ hb=>hb) I.ok.qy
theorem Inv.stack(I:Inv X pins σ H s):s.heap.FunFrames X.base X.stack:=by rcases I.ok.stk with e|⟨e,hf⟩;rw[e];exact I.qy;rw[e];obtain⟨m,hn,_⟩:=I.loc;refine .cons (by rw[I.ok.kind];decide) hf hn ?_ I.qy;exact Heap.get?_none_of_le<|zO I.ok.Ml I.ok.above
theorem Inv.oo(I:Inv X pins σ H s):∀b∈om X.stack,b∈X.env.locals::X.fs:=λb hb=>by rcases I.ok.stk with e|⟨e,hf⟩;rw[e]at hb;exact zg _ hb;rw[e]at hb;unfold om at hb;rw[List.filterMap_cons,hf]at hb;exact hb
theorem Inv.qX(I:Inv X pins σ H s):∀b∈om X.stack,H b=none:=λb hb=>by rcases zm.mp (I.oo b hb) with e|hb;rw[e];exact I.free;obtain⟨_,o,ho,_⟩:=I.ok.qy.mem hb;exact I.base.free b o ho (I.ok.Qx b hb) λz=>I.ok.U8 b z hb
theorem Inv.step{g':Array GenState}{t':Nat}{d':Drawn}{ch:im}(I:Inv X pins σ H s)(L5:∀b∈ch,(b∈X.ex\/X.dw.heap.objs.size<=b)/\b≠X.env.locals/\(∀x c,X.env.cells.lookup x=some c->c≠b)/\∀p∈X.pn++pins,p.1≠b)(keep:∀b o,b≠X.env.locals->b∉X.fs->b∉ch->s.heap.get? b=some o->H b=none->h'.get? b=some o)(slot:∀b o,b≠X.env.locals->b∈X.fs->b∉ch->s.heap.get? b=some o->H b=none->∃sl,h'.get? b=some {o with slots:=sl})(free:∀b o,b∉ch->s.heap.get? b=some o->H b=none->H' b=none)(there:∀b o,b∉ch->s.heap.get? b=some o->∃o',h'.get? b=some o')(mB:∀b xs,H b=some (.tup xs)->H' b=some (.tup xs))(lO:∀b o u,H b=some (.lM o u)->H' b=some (.lM o u))(lP:∀b ps,H b=some (.qW ps)->∃more,H' b=some (.qW<|ps++more))(ns:∀m,s.heap.Ns X.env.locals m->h'.Ns X.env.locals m)(aN:lN X.prog X.w H' h')(hg:AllBare g'): Inv X pins σ H' {s with heap:=h',gens:=g',drawn:=d',toks:=t'}:=by
 have neL:∀b o,X.dw.heap.get? b=some o->b≠X.env.locals:=λb o e=>zG<|zu (zB e) I.ok.above;have YA:∀b o,X.dw.heap.get? b=some o->b∉X.ex->b∉ch:=λb o e hx hb=>by rcases (L5 b hb).1 with z|z;exact hx z;exact absurd (zu (zB e) z)<|yB _
 have cellK:∀x c,X.env.cells.lookup x=some c->∀v,s.heap.IsCell c v->h'.IsCell c v:=by rintro x c e v ⟨o,ho,hd⟩;have U_:c∉ch:=λz=>(L5 c z).2.2.1 x c e rfl;by_cases hc:c∈X.fs;obtain⟨sl,q⟩:=slot c o (I.Qy x c e) hc U_ ho<|I.gf x c e;exact{_,q,hd};exact{o,keep c o (I.Qy x c e) hc U_ ho<|I.gf x c e,hd}
 refine{I.ok,I.os,hg,{λb o e n hb hx=>?_,λb o e n hb hx=>?_,λb o e n hx=>?_,λb o e hx=>?_,λb xs e=>mB b xs<|I.base.mB b xs e,λb o xs e=>lO b o xs<|I.base.lO b o xs e,λb ps e=>?_},?_,λx c e=>?_,?_,λx c e=>?_,λp hp=>?_,aN,I.len};exact keep b o (neL b o e) hb (YA b o e hx) (I.base.keep b o e n hb hx)<|I.base.free b o e n hx;obtain⟨sl,e1⟩:=I.base.slot b o e n hb hx;obtain⟨sl',e2⟩:=slot b _ (neL b o e) hb (YA b o e hx) e1<|I.base.free b o e n hx;exact⟨sl',e2⟩;obtain⟨o',e1⟩:=I.base.there b o e hx;exact free b o' (YA b o e hx) e1<|I.base.free b o e n hx;obtain⟨o',e1⟩:=I.base.there b o e hx;exact there b o' (YA b o e hx) e1;obtain⟨m1,e1⟩:=I.base.lP b ps e;obtain⟨m2,e2⟩:=lP b _ e1;exact{m1++m2,by rw[e2,Array.append_assoc]};obtain⟨m,hn,hl⟩:=I.loc;refine{m,ns m hn,λi x v e1 e2 e3=>?_};obtain⟨u,r,l⟩:=hl i x v e1 e2 e3;refine{u,r,?_};rcases l with l|⟨k,c,e,z⟩;exact .inl l;exact .inr {k,c,e,cellK x c e _ z};obtain⟨v,z⟩:=I.cell x c e;exact{v,cellK x c e v z};obtain⟨m,⟨o,_,_,ho,_⟩,_⟩:=I.loc;exact free _ o (λz=>(L5 _ z).2.1 rfl) ho I.free;obtain⟨v,o,ho,hd⟩:=I.cell x c e;exact free c o (λz=>(L5 c z).2.2.1 x c e rfl) ho<|I.gf x c e;obtain⟨e,n,ne,nf,d⟩:=I.pin p hp;have U_:p.1∉ch:=λz=>(L5 p.1 z).2.2.2 p hp rfl;exact{keep p.1 p.2 ne nf U_ e n,free p.1 p.2 U_ e n,ne,nf,d}
theorem Inv.un{t':Nat}(I:Inv X pins σ H s)(u:Un X.fs [] H H' s.heap h')(aN:lN X.prog X.w H' h'):Inv X pins σ H' {s with heap:=h',toks:=t'}:=by obtain⟨m,⟨o,es,ep,ho,r⟩,_⟩:=id I.loc;obtain⟨sl,hL⟩:=u.any ho I.free (by simp);exact I.step (g':=s.gens) (d':=s.drawn) (ch:=[]) (λ_ z=>nomatch z) (λb o _ hb _ e n=>u.keep b o e n hb<|by simp) (λb o _ hb _ e n=>u.slot b o e n hb<|by simp) (λb o _ e n=>u.free b o e n<|by simp) (λb o _ e=>u.there b o e<|by simp) u.mB u.lO u.lP (λm' hm=>by obtain⟨o',YB,ZQ,CF,r'⟩:=hm;rw[ho]at CF;cases CF;exact{_,YB,ZQ,hL,r'}) aN I.bare
theorem Inv.call{g':Array GenState}{t':Nat}{d':Drawn}{ch:im}(I:Inv X pins σ H s)(u:Un (om X.stack) ch H H' s.heap h')(aN:lN X.prog X.w H' h')(hg:AllBare g')(L5:∀b∈ch,(b∈X.ex\/X.dw.heap.objs.size<=b)/\b≠X.env.locals/\(∀x c,X.env.cells.lookup x=some c->c≠b)/\∀p∈X.pn++pins,p.1≠b): Inv X pins σ H' {s with heap:=h',gens:=g',drawn:=d',toks:=t'}:=by obtain⟨m,⟨o,es,ep,ho,r⟩,_⟩:=id I.loc;obtain⟨sl,hL⟩:=u.any ho I.free λz=>(L5 _ z).2.1 rfl;exact I.step (ch:=ch) L5 (λb o hL hb hc e n=>u.keep b o e n (λz=>(zm.mp<|I.oo b z).elim hL hb) hc) (λb o _ _ hc e n=>u.any e n hc) (λb o hc e n=>u.free b o e n hc) (λb o hc e=>u.there b o e hc) u.mB u.lO u.lP (λm' hm=>by obtain⟨o',YB,ZQ,CF,r'⟩:=hm;rw[ho]at CF;cases CF;exact{_,YB,ZQ,hL,r'}) aN hg
theorem Inv.turned{t':Nat}{it:Addr}(I:Inv X pins σ H s)(k:∀b o,b≠it->s.heap.get? b=some o->h'.get? b=some o)(hn:H it=none)(hL:it≠X.env.locals)(h1:it∈X.ex\/X.dw.heap.objs.size<=it)(h2:∀x c,X.env.cells.lookup x=some c->c≠it)(h3:∀p∈X.pn++pins,p.1≠it):Inv X pins σ H {s with heap:=h',toks:=t'}:=by
 have Qz:∀b u,H b=some u->b≠it:=λb u e z=>by rw[z,hn]at e;cases e
 refine I.step (g':=s.gens) (d':=s.drawn) (ch:=[it]) (λb hb=>?_) (λb o _ _ hc e _=>k b o (λz=>hc<|by simp[z]) e) (λb o _ _ hc e _=>{o.slots,k b o (λz=>hc<|by simp[z]) e}) (λ_ _ _ _ n=>n) (λb o hc e=>{o,k b o (λz=>hc<|by simp[z]) e}) (λ_ _ e=>e) (λ_ _ _ e=>e) (λb ps e=>{#[],by rw[e];simp}) (λm hm=>?_) (λb u e=>?_) I.bare;have e:b=it:=by simpa using hb
 subst e;exact⟨h1,hL,h2,h3⟩;obtain⟨o,es,ep,ho,r⟩:=hm;exact{o,es,ep,k _ o (Ne.symm hL) ho,r};refine(I.aN b u e).qx (λc v hc q=>k c v ?_ q) (λ_ q=>q) λ_ _ q=>q;rcases hc with z|z;rw[z];exact Qz b u e;exact Qz c _ z
theorem Inv.tok(I:Inv X pins σ H s)(t:Nat):Inv X pins σ H {s with toks:=t}:=I.un (h':=s.heap) (t':=t) Un.refl I.aN
theorem Inv.kept(I:Inv X pins σ H s)(k:∀b u,s.heap.get? b=some u->h'.get? b=some u):Inv X pins σ H {s with heap:=h',toks:=t'}:=I.un (Un.kept k)<|I.aN.kept k
theorem Inv.laid{a:Addr}{o:HO}{t':Nat}(I:Inv X pins σ H s)(k:∀b u,s.heap.get? b=some u->h'.get? b=some u)(hp:s.heap.objs.size<=a)(new:bj X.prog X.w (upd H a o) h' a o): Inv X pins σ (upd H a o) {s with heap:=h',toks:=t'}:=I.un (Un.laid k hp<|I.aN.fresh hp)<|I.aN.laid k hp new
theorem Inv.write(I:Inv X pins σ H s)(mu:U6<|H x)(he:e=x\/H e=some (.own x))(k:∀b u,b≠e->s.heap.get? b=some u->h'.get? b=some u)(Uo:∃u,h'.get? e=some u)(new:bj X.prog X.w (upd H x o) h' x o):Inv X pins σ (upd H x o) {s with heap:=h',toks:=t'}:=I.un (Un.write mu he k Uo)<|I.aN.write mu he k Uo new
theorem Inv.weak(I:Inv X pins σ H s)(hl:aG.length=σ.length)(w:∀(i:Nat) v,aG[i]?=some (some v)->σ[i]?=some (some v)):Inv X pins aG H s:={I.ok,I.os,I.bare,I.base,by obtain⟨m,hn,hl'⟩:=I.loc;exact{m,hn,λi x v e1 e2 e3=>hl' i x v e1 (w i v e2) e3},I.cell,I.free,I.gf,I.pin,I.aN,hl.trans I.len}
theorem Inv.mC(I:Inv X pins σ H s)(h:∀p∈pins',s.heap.get? p.1=some p.2/\H p.1=none/\p.1≠X.env.locals/\p.1∉X.fs/\∀v,p.2.data≠.cell v):Inv X pins' σ H s:={I.ok,I.os,I.bare,I.base,I.loc,I.cell,I.free,I.gf,λp hp=>(zN.mp hp).elim (λz=>I.pin p<|yk _ z)<|h p,I.aN,I.len}
theorem AD{N:j4}(hN:N.Nodup){i j:Nat}{x:Str}(a:N[i]?=some x)(b:N[j]?=some x):i=j:=by obtain⟨h1,e1⟩:=zf.mp a;obtain⟨h2,e2⟩:=zf.mp b;exact(List.getElem_inj hN).mp<|e1.trans e2.symm
theorem vf{M:Model}{A:Around}{E:lc}{i:Nat}{x:Str}{v:V}{u:Value}{Q:Unit->Shared->Prop}(I:Inv X pins σ H s)(hN:X.N.Nodup)(hi:X.N[i]?=some x)(hx:Loc X.env.scope x)(r:RelV v u)(h:∀s',Inv X pins (σ.set i<|some v) H s'->(∃a,Heap.SameBut a s.heap s'.heap/\(a=X.env.locals\/X.env.cells.lookup x=some a))->Q () s')(hf:autoParam (X.fn x=true\/X.env.scope.names.lookup x=some .local) qQ8):wpAny M A (storeName X.env x u) Q E s:=by
 obtain⟨m,hn,hl⟩:=id I.loc;have ZR:(X.env.scope.kind==.class||(X.env.scope.kind==.module&&X.env.locals != X.env.globals))=false:=by rw[I.ok.kind];rfl
 have Va:i<σ.length:=by rw[I.len];exact(zf.mp hi).1
 have Qy:=I.Qy;have tracked:∀{a:Addr}{h':Heap},(∃o,s.heap.get? a=some o/\H a=none)->Heap.SameBut a s.heap h'->lN X.prog X.w H h':=λ{a h'} ha hs b ob e=>by obtain⟨_,_,OT⟩:=ha;refine(I.aN b ob e).qx (λc w' hc q=>(hs.2 c ?_).trans q) (λ_ q=>q) λ_ _ q=>q;rintro rfl;rcases hc with rfl|hc;rw[OT]at e;cases e;rw[OT]at hc;cases hc
 rcases hx with hk|hk;refine wpAny_storeName_local hk hn (λh' OU hs=>?_) ZR;obtain⟨oL,_,_,Ir,_⟩:=id hn;refine h _ {I.ok,I.os,I.bare,{λb o e n hb hx=>?_,λb o e n hb hx=>?_,I.base.free,λb o e hx=>?_,I.base.mB,I.base.lO,I.base.lP},{_,OU,λj y v' e1 e2 e3=>?_},λy c e=>?_,I.free,I.gf,λp hp=>?_,tracked ⟨oL,Ir,I.free⟩ hs,by simpa using I.len} {_,hs,.inl rfl};exact(hs.2 b<|zG<|zu (zB e) I.ok.above).trans<|I.base.keep b o e n hb hx;obtain⟨sl,e1⟩:=I.base.slot b o e n hb hx;exact{sl,(hs.2 b<|zG<|zu (zB e) I.ok.above).trans e1};obtain⟨o',e1⟩:=I.base.there b o e hx;exact{o',(hs.2 b<|zG<|zu (zB e) I.ok.above).trans e1};by_cases hj:j=i;subst hj;rw[hi]at e1;cases e1;rw[yr Va]at e2;cases e2;exact{u,r,.inl {hk,by simp}};rw[yo<|Ne.symm hj]at e2;obtain⟨u',r',q⟩:=hl j y v' e1 e2 e3;refine{u',r',?_};rcases q with⟨k,e⟩|⟨k,c,e,z⟩;refine .inl {k,?_};have:y≠x:=λe=>hj<|AD hN e1<|e ▸ hi;simp[this,e];exact .inr {k,c,e,z.sameBut hs<|Qy y c e};obtain⟨w',z⟩:=I.cell y c e;exact{w',z.sameBut hs<|Qy y c e};obtain⟨e,n,ne,nf,d⟩:=I.pin p hp;exact{(hs.2 p.1 ne).trans e,n,ne,nf,d};have ZS:X.fn x=true:=by rcases hf with z|z;exact z;rw[z]at hk;cases hk
 obtain⟨c,hc⟩:=I.ok.has x<|.inl hk;obtain⟨w',z⟩:=I.cell x c hc;refine wpAny_storeName_cell I.ok.kind hk hc z λh' II hs=>?_;obtain⟨oc,YC,ZT⟩:=id z;refine h {s with heap:=h'} {I.ok,I.os,I.bare,{λb o e n hb hx=>?_,λb o e n hb hx=>?_,I.base.free,λb o e hx=>?_,I.base.mB,I.base.lO,I.base.lP},{m,hn.sameBut hs<|Ne.symm<|Qy x c hc,λj y v' e1 e2 e3=>?_},λy c' e=>?_,I.free,I.gf,λp hp=>?_,tracked {oc,YC,I.gf x c hc} hs,by simpa using I.len} {c,hs,.inr hc};exact(hs.2 b<|zG<|zu (zB e)<|I.ok.ZP x c ZS hc).trans<|I.base.keep b o e n hb hx;obtain⟨sl,e1⟩:=I.base.slot b o e n hb hx;exact{sl,(hs.2 b<|zG<|zu (zB e)<|I.ok.ZP x c ZS hc).trans e1};obtain⟨o',e1⟩:=I.base.there b o e hx;exact{o',(hs.2 b<|zG<|zu (zB e)<|I.ok.ZP x c ZS hc).trans e1};by_cases hj:j=i;subst hj;rw[hi]at e1;cases e1;rw[yr Va]at e2;cases e2;exact{u,r,.inr {.inl hk,c,hc,II}};rw[yo<|Ne.symm hj]at e2;obtain⟨u',r',q⟩:=hl j y v' e1 e2 e3;refine{u',r',?_};rcases q with q|⟨k,c',e,z'⟩;exact .inl q;refine .inr {k,c',e,z'.sameBut hs ?_};rintro rfl;exact hj<|AD hN e1<|I.ok.inj _ _ _ e hc ▸ hi;by_cases Vb:c'=c;subst Vb;exact{_,II};obtain⟨w2,z2⟩:=I.cell y c' e;exact{w2,z2.sameBut hs Vb};obtain⟨e,n,ne,nf,d⟩:=I.pin p hp;refine{(hs.2 p.1 ?_).trans e,n,ne,nf,d};intro q;rw[q,YC]at e;have q':oc=p.2:=zT e;exact d w'<|by rw[<-q'];exact ZT
theorem rO(I:Inv X pins σ H s)(hN:X.N.Nodup)(hi:X.N[i]?=some x)(hx:Loc X.env.scope x)(r:RelV v u)(h:∀s',Inv X pins (σ.set i<|some v) H s'->Q () s')(hf:autoParam (X.fn x=true\/X.env.scope.names.lookup x=some .local) qQ8):wpAny M A (storeName X.env x u) Q E s:=vf I hN hi hx r (λs' I' _=>h s' I') hf
theorem Inv.Vc(I:Inv X pins σ H s)(ho:s'.os=s.os)(u:Un (om X.stack) ch H H' s.heap s'.heap)(aN:lN X.prog X.w H' s'.heap)(hg:AllBare s'.gens)(L5:∀b∈ch,(b∈X.ex\/X.dw.heap.objs.size<=b)/\b≠X.env.locals/\(∀x c,X.env.cells.lookup x=some c->c≠b)/\∀p∈X.pn++pins,p.1≠b):Inv X pins σ H' s':=by obtain⟨h',g',d',t',o'⟩:=s';have e:o'=s.os:=ho;subst e;exact I.call (g':=g') (t':=t') (d':=d') u aN hg L5
end
abbrev XK:=Value->Option Addr->Hp->Prop
abbrev St:=List<|Option V
abbrev VK:=V->Hp->Prop
abbrev TE:=St->Hp->VK->Prop
abbrev TT:=St->Hp->(Bool->Hp->Prop)->Prop
abbrev TA:=St->Hp->(List V->Hp->Prop)->Prop
structure Ends where
 nx:St->Hp->Prop
 rt:VK
 bk:St->Hp->Prop:=λ_ _=>False
 ct:St->Hp->Prop:=λ_ _=>False
abbrev TS:=Ends->St->Hp->Prop
def EP(X:Cx)(pins:io)(σ:St)(Q:VK)(u:Value)(s':Shared):Prop:=∃v H',Inv X pins σ H' s'/\RelV v u/\Q v H'
def TP(X:Cx)(pins:io)(σ:St)(Q:Bool->Hp->Prop)(b:Bool)(s':Shared):Prop:=∃H',Inv X pins σ H' s'/\Q b H'
def AP(X:Cx)(pins:io)(σ:St)(Q:List V->Hp->Prop)(us:dL)(s':Shared):Prop:=∃vs H',Inv X pins σ H' s'/\Vals vs us/\Q vs H'
def SP(X:Cx)(pins:io)(D:Ends)(f:Flow)(s':Shared):Prop:=match f with|.next=>∃aG H',Inv X pins aG H' s'/\D.nx aG H'|.brk=>∃aG H',Inv X pins aG H' s'/\D.bk aG H'|.cont=>∃aG H',Inv X pins aG H' s'/\D.ct aG H'|.ret u=>∃v aG H',Inv X pins aG H' s'/\RelV v u/\D.rt v H'
def PE(X:Cx)(e:Expr)(t:TE):Prop:=∀(pins:io)(s:Shared)(σ:St)(H:Hp)(Q:VK),Inv X pins σ H s->t σ H Q->wpAny (model X.prog X.w) X.A (eval e X.env) (EP X pins σ Q) X.xe s
def PT(X:Cx)(e:Expr)(t:TT):Prop:=∀(pins:io)(s:Shared)(σ:St)(H:Hp)(Q:Bool->Hp->Prop),Inv X pins σ H s->t σ H Q->wpAny (model X.prog X.w) X.A (isTrue e X.env<|eval e X.env) (TP X pins σ Q) X.xe s
def PW(X:Cx)(e:Expr)(t:TT):Prop:=∀(whole:Sem Value)(pins:io)(s:Shared)(σ:St)(H:Hp)(Q:Bool->Hp->Prop),Inv X pins σ H s->t σ H Q->wpAny (model X.prog X.w) X.A (isTrue e X.env whole) (TP X pins σ Q) X.xe s
theorem PW.pt{t:TT}(h:PW X e t):PT X e t:=h _
def PA(X:Cx)(es:li)(t:TA):Prop:=∀(pos:Pos)(pins:io)(s:Shared)(σ:St)(H:Hp)(Q:List V->Hp->Prop),Inv X pins σ H s->t σ H Q->wpAny (model X.prog X.w) X.A (spliced<|backTo pos<|starEach es X.env) (AP X pins σ Q) X.xe s
def PS(X:Cx)(st:Stmt)(t:TS):Prop:=∀(pins:io)(s:Shared)(σ:St)(H:Hp)(D:Ends),Inv X pins σ H s->t D σ H->wpAny (model X.prog X.w) X.A (exec st X.env) (SP X pins D) X.xe s
def ET(X:Cx)(st:mt)(t:TS):Prop:=∀(pins:io)(s:Shared)(σ:St)(H:Hp)(D:Ends),Inv X pins σ H s->t D σ H->wpAny (model X.prog X.w) X.A (execs st X.env) (SP X pins D) X.xe s
theorem bb{t:Sem α}(h:wpAny M A t Q E s)(hQ:∀a s,Q a s->Q' a s):wpAny M A t Q' E s:=yw h hQ λ_ _ x=>x
section
variable{X:Cx}
def ZU(i:Nat):TE:=λσ H Q=>∃v,σ[i]?=some (some v)/\Q v H
def tC(v:V):TE:=λ_ H Q=>Q v H
theorem QA(hN:X.N[i]?=some x)(hv:Qv X.env.scope x)(hd:autoParam ((x==("__debug__": Str))=false) qQZ)(uh:autoParam ((x==("__classdict__": Str))=false) qQZ):PE X (.Name x pos) (ZU i):=by intro pins s σ H Q I h;obtain⟨v,e,h⟩:=h;obtain⟨m,hn,hl⟩:=I.loc;obtain⟨u,r,l⟩:=hl i x v hN e hv;have fin:EP X pins σ Q u s:=⟨v,H,I,r,h⟩;rcases l with⟨hk,hm⟩|⟨hk,c,hc,EU⟩;exact wpAny_Name (wpAny_loadName_local I.ok.kind hk hn hm fin) hd;rcases hk with hk|hk;exact wpAny_Name (wpAny_loadName_cell I.ok.kind hk hc EU fin) hd;exact wpAny_Name (wpAny_loadName_free I.ok.kind hk hc EU fin uh) hd
theorem IJ:PE X (.Constant (.int i) j pos) (tC<|.int i):=λ_ _ _ H _ I h=>wpAny_Constant_int {.int i,H,I.tok _,{_,rfl},h}
theorem OV:PE X (.Constant (.bool b) j pos) (tC<|.bl b):=λ_ _ _ H _ I h=>Constant_bool {.bl b,H,I,rfl,h}
theorem QB:PE X (.Constant .none j pos) (tC .av):=λ_ _ _ H _ I h=>Constant_none {.av,H,I,rfl,h}
theorem QC:PE X (.Constant (.str x) j pos) (tC<|.str x):=λ_ _ _ H _ I h=>Calls.Constant_str {.str x,H,I.tok _,{_,rfl},h}
def Gl(X:Cx)(x:Str):Prop:=X.env.kindOf x=some .globalImplicit
theorem qY(I:Inv X pins σ H s)(hg:Gl X x)(hm:X.mg x=some u)(h:Q u s)(hd:autoParam ((x==("__debug__": Str))=false) qQZ):wpAny (model X.prog X.w) X.A (eval (.Name x pos) X.env) Q E s:=Calls.Name_function_global I.ok.kind hg (Calls.loadGlobal_global (by rw[I.ok.glob];exact I.mod.glob.keeps I.bk) hm h) hd
theorem gC(I:Inv X pins σ H s)(hg:Gl X x)(hm:X.mg x=none)(hv:bootBuiltins x=some u)(h:Q u s)(hn:autoParam (x≠"__name__") qQZ)(hd:autoParam ((x==("__debug__": Str))=false) qQZ):wpAny (model X.prog X.w) X.A (eval (.Name x pos) X.env) Q E s:=by obtain⟨mb,h1,h2⟩:=I.mod.blt;exact Calls.Name_function_global I.ok.kind hg (Calls.loadGlobal_builtin (by rw[I.ok.glob];exact I.mod.glob.keeps I.bk) hm (by rw[I.ok.blt];exact h1.keeps I.bk) ((h2 x hn).trans hv) h) hd
theorem EV(hg:Gl X x)(hm:X.mg x=some u)(r:RelV v u)(hd:autoParam ((x==("__debug__": Str))=false) qQZ):PE X (.Name x pos) (tC v):=λ_ _ _ H _ I h=>qY I hg hm ⟨v,H,I,r,h⟩ hd
theorem Mm(hg:Gl X x)(hm:X.mg x=none)(hv:bootBuiltins x=some u)(r:RelV v u)(hn:autoParam (x≠"__name__") qQZ)(hd:autoParam ((x==("__debug__": Str))=false) qQZ):PE X (.Name x pos) (tC v):=λ_ _ _ H _ I h=>gC I hg hm hv ⟨v,H,I,r,h⟩ hn hd
variable{a b:Expr}{ta tb:TE}{pos:Pos}
def tB(t:TE):TT:=λσ H Q=>t σ H λx H1=>∃c,x=.bl c/\Q c H1
theorem QD{t:TE}(h:PE X e t)(he:autoParam (∀whole,isTrue e X.env whole=(do let v <-whole;standAt e.pos;holding [v] (truthy v))) qQ0):PT X e (tB t):=by intro pins s σ H Q I hw;refine isTrue_plain (bb (h pins s σ H _ I hw) λv s1 ⟨x,H1,I1,r1,q1⟩=>?_)<|he _;obtain⟨d,rfl,q⟩:=q1;cases r1;exact yx ⟨H1,I1,q⟩
variable{tA YD:TT}{rest:li}
def ZV(t u:TT):TT:=λσ H Q=>t σ H λc H1=>if c=true then u σ H1 Q else Q false H1
def tOr(t u:TT):TT:=λσ H Q=>t σ H λc H1=>if c=true then Q true H1 else u σ H1 Q
def ZW(t:TT):TT:=λσ H Q=>t σ H λc H1=>Q (!c) H1
theorem pw_and1(ha:PT X a tA):PW X (.BoolOp .And [a] pos) tA:=by intro wh pins s σ H Q I h;refine isTrue_and<|bb (ha pins s σ H Q I h) λc s1 e=>?_;cases c with|true=>exact isTrue_and_nil e|false=>exact e
theorem pw_or1(ha:PT X a tA):PW X (.BoolOp .Or [a] pos) tA:=by intro wh pins s σ H Q I h;refine isTrue_or<|bb (ha pins s σ H Q I h) λc s1 e=>?_;cases c with|false=>exact isTrue_or_nil e|true=>exact e
theorem pw_and(ha:PT X a tA)(hb:PW X (.BoolOp .And (b::rest) pos) YD):PW X (.BoolOp .And (a::b::rest) pos) (ZV tA YD):=by intro wh pins s σ H Q I h;refine isTrue_and<|bb (ha pins s σ H _ I h) ?_;rintro c s1 ⟨H1,I1,q1⟩;cases c with|true=>exact hb wh pins s1 σ H1 Q I1 q1|false=>exact⟨H1,I1,q1⟩
theorem pw_or(ha:PT X a tA)(hb:PW X (.BoolOp .Or (b::rest) pos) YD):PW X (.BoolOp .Or (a::b::rest) pos) (tOr tA YD):=by intro wh pins s σ H Q I h;refine isTrue_or<|bb (ha pins s σ H _ I h) ?_;rintro c s1 ⟨H1,I1,q1⟩;cases c with|true=>exact⟨H1,I1,q1⟩|false=>exact hb wh pins s1 σ H1 Q I1 q1
theorem QE(ha:PT X a tA):PT X (.UnaryOp .Not a pos) (ZW tA):=by intro pins s σ H Q I h;exact isTrue_not<|ha pins s σ H (λc H1=>Q (!c) H1) I h
def Vd(ta tb:TE):TE:=λσ H Q=>ta σ H λx H1=>∃c,x=.bl c/\if c=true then tb σ H1 Q else Q (.bl false) H1
def ZX(ta tb:TE):TE:=λσ H Q=>ta σ H λx H1=>∃c,x=.bl c/\if c=true then Q (.bl true) H1 else tb σ H1 Q
def Ve(ta:TE):TE:=λσ H Q=>ta σ H λx H1=>∃c,x=.bl c/\Q (.bl<|!c) H1
theorem QF{t:TE}(h:PE X a t):PE X (.BoolOp op [a] pos) t:=λpins s σ H Q I hw=>BoolOp_one<|h pins s σ H Q I hw
theorem QG(ha:PE X a ta)(hb:PE X (.BoolOp .And (b::rest) pos) tb):PE X (.BoolOp .And (a::b::rest) pos) (Vd ta tb):=by intro pins s σ H Q I h;refine BoolOp_and<|bb (ha pins s σ H _ I h) ?_;rintro v s1 ⟨x,H1,I1,r1,q1⟩;obtain⟨c,rfl,q1⟩:=q1;cases r1;refine yx ?_;cases c with|true=>exact hb pins s1 σ H1 Q I1 q1|false=>exact{.bl false,H1,I1,rfl,q1}
theorem Vf(ha:PE X a ta)(hb:PE X (.BoolOp .Or (b::rest) pos) tb):PE X (.BoolOp .Or (a::b::rest) pos) (ZX ta tb):=by intro pins s σ H Q I h;refine BoolOp_or<|bb (ha pins s σ H _ I h) ?_;rintro v s1 ⟨x,H1,I1,r1,q1⟩;obtain⟨c,rfl,q1⟩:=q1;cases r1;refine yx ?_;cases c with|false=>exact hb pins s1 σ H1 Q I1 q1|true=>exact{.bl true,H1,I1,rfl,q1}
theorem QH(ha:PE X a ta):PE X (.UnaryOp .Not a pos) (Ve ta):=by intro pins s σ H Q I h;refine UnaryOp_<|bb (ha pins s σ H _ I h) ?_;rintro v s1 ⟨x,H1,I1,r1,q1⟩;obtain⟨c,rfl,q1⟩:=q1;cases r1;exact not_of<|yx {.bl<|!c,H1,I1,rfl,q1}
def tIf(t:TT)(ta tb:TE):TE:=λσ H Q=>t σ H λc H1=>if c=true then ta σ H1 Q else tb σ H1 Q
theorem IK(hc:PT X c tA)(ha:PE X a ta)(hb:PE X b tb):PE X (.IfExp c a b pos) (tIf tA ta tb):=by intro pins s σ H Q I h;refine wpAny_IfExp<|bb (hc pins s σ H _ I h) ?_;rintro d s1 ⟨H1,I1,q1⟩;cases d with|true=>exact ha pins s1 σ H1 Q I1 q1|false=>exact hb pins s1 σ H1 Q I1 q1
end
def jk(K:Frag)(H:Hp)(a:Addr)(xs:cr):Prop:=Rd H a (.lst xs)\/∃(o:Obj)(ay:ii)(n:Nat),K.lookup a=some o/\o.cls=.type "list"/\o.dict=none/\o.data=.seq ay n/\ay.size<=sizeLine/\Vals xs ay.toList
def jc(K:Frag)(H:Hp)(a:Addr)(xs:cr):Prop:=Rd H a (.tup xs)\/∃(o:Obj)(ay:ii)(n:Nat),K.lookup a=some o/\o.cls=.type "tuple"/\o.data=.seq ay n/\ay.size<=sizeLine/\Vals xs ay.toList
noncomputable def ZY:Value->Option V|.none=>some .av|.bool b=>some (.bl b)|.int i _=>some (.int i)|.str x _=>some (.str x)|.bytes b _=>some (.ES b)|.float b _=>some (.Qu b)|.ref a=>some (.ref a)|.type n=>some (.ty n)|_=>none
theorem RelV.abs(r:RelV x u):ZY u=some x:=by cases x with|av=>(cases r;rfl)|bl _=>(cases r;rfl)|int _=>(obtain⟨t,rfl⟩:=r;rfl)|str _=>(obtain⟨t,rfl⟩:=r;rfl)|ES _=>(obtain⟨t,rfl⟩:=r;rfl)|Qu _=>(obtain⟨t,rfl⟩:=r;rfl)|ref _=>(cases r;rfl)|ty _=>cases r;rfl
theorem RelV.inj(r:RelV x u)(q:RelV y u):x=y:=zT<|r.abs.symm.trans q.abs
theorem Vals.inj:∀{xs ys:cr}{us:dL},Vals xs us->Vals ys us->xs=ys|_,_,_,.nil,.nil=>rfl|_,_,_,.cons r t,.cons r' t'=>by rw[r.inj r',Vals.inj t t']
section
variable{X:Cx}{pins:io}{σ:St}{H:Hp}{s:Shared}{a:Addr}{xs ys:cr}
theorem jk.of{K:Frag}(h:H a=some (.lst xs)):jk K H a xs:=.inl<|.inl h
theorem jc.of{K:Frag}(h:H a=some (.tup xs)):jc K H a xs:=.inl<|.inl h
theorem Inv.list(I:Inv X pins σ H s)(h:jk X.K H a xs):∃ay:dL,Vals xs ay/\PlainL s.heap a ay.toArray/\xs.length<=sizeLine:=by rcases h with h|⟨o,ay,n,hk,hc,hd,hs,hz,r⟩;obtain⟨z,ay,n,r,e⟩:=h.ok I.aN;exact{ay,r,{_,n,e,rfl,rfl,rfl},z};refine{ay.toList,r,{o,n,I.pN a o hk,hc,hd,by simpa using hs},?_};have e:=r.length;simp only[yu]at e;lia
theorem Inv.tuple(I:Inv X pins σ H s)(h:jc X.K H a xs):∃ay:dL,Vals xs ay/\IsTup s.heap a ay.toArray/\xs.length<=sizeLine:=by rcases h with h|⟨o,ay,n,hk,hc,hs,hz,r⟩;obtain⟨z,ay,r,p⟩:=h.ok I.aN;exact⟨ay,r,p.tup,z⟩;refine{ay.toList,r,{o,I.pN a o hk,hc,n,by simpa using hs},?_};have e:=r.length;simp only[yu]at e;lia
theorem Inv.AE(I:Inv X pins σ H s)(h:jk X.K H a xs)(h':jk X.K H a ys):xs=ys:=by
 obtain⟨ay,r,⟨o,n,e,_,_,d⟩,_⟩:=I.list h;obtain⟨its',r',⟨o',n',e',_,_,d'⟩,_⟩:=I.list h';rw[e]at e';cases e';rw[d]at d';injection d' with d1 _;have:ay=its':=by simpa using congrArg Array.toList d1
 subst this;exact r.inj r'
theorem Inv.oq(I:Inv X pins σ H s)(h:jc X.K H a xs)(h':jc X.K H a ys):xs=ys:=by
 obtain⟨ay,r,⟨o,e,_,n,d⟩,_⟩:=I.tuple h;obtain⟨its',r',⟨o',e',_,n',d'⟩,_⟩:=I.tuple h';rw[e]at e';cases e';rw[d]at d';injection d' with d1 _;have:ay=its':=by simpa using congrArg Array.toList d1
 subst this;exact r.inj r'
end
noncomputable abbrev Cx.aew(X:Cx)(E:lc):Cx:={X with xe:=E}
section
variable{X:Cx}{st:Stmt}{rest:mt}{t u:TS}{e:Expr}{te:TE}{pos:Pos}
def Vh:TS:=λD σ H=>D.nx σ H
def ZZ(t u:TS):TS:=λD σ H=>t {D with nx:=u D} σ H
theorem Mp:ET X [] Vh:=λ_ _ σ H _ I h=>wpAny_execs_nil ⟨σ,H,I,h⟩
theorem IL(h1:PS X st t)(h2:ET X rest u):ET X (st::rest) (ZZ t u):=by intro pins s σ H D I h;refine wpAny_execs_cons<|bb (h1 pins s σ H {D with nx:=u D} I h) λf s1 q=>?_;cases f with|next=>(obtain⟨aG,H',I',q⟩:=q;exact h2 pins s1 aG H' D I' q)|ret v=>exact q|brk=>exact q|cont=>exact q
theorem Mq(h1:PS X st t):ET X [st] t:=by intro pins s σ H D I h;refine wpAny_execs_cons<|bb (h1 pins s σ H D I h) λf s1 q=>?_;cases f with|next=>exact wpAny_execs_nil q|ret v=>exact q|brk=>exact q|cont=>exact q
theorem Inv.quiet(I:Inv X pins σ H s):interactive X.env=false:=by simp[interactive,I.ok.kind]
def Vi(te:TE):TS:=λD σ H=>te σ H λ_ H1=>D.nx σ H1
theorem Mr(he:PE X e te)(hs:autoParam (swapsWith e none pos.line X.env=pure false) qQJ):PS X (.Expr e pos) (Vi te):=by intro pins s σ H D I h;exact wpAny_Expr_any (bb (he pins s σ H _ I h) <| by rintro v s1 ⟨x,H1,I1,r1,q1⟩;exact⟨σ,H1,I1,q1⟩) I.quiet hs
def Z1(te:TE):TS:=λD σ H=>te σ H D.rt
theorem QI(he:PE X e te):PS X (.Return (some e) pos) (Z1 te):=by intro pins s σ H D I h;exact wpAny_Return_some<|bb (he pins s σ H _ I h) <| by rintro v s1 ⟨x,H1,I1,r1,q1⟩;exact⟨x,σ,H1,I1,r1,q1⟩
def Z2(c:TT)(t u:TS):TS:=λD σ H=>c σ H λb H1=>if b=true then t D σ H1 else u D σ H1
theorem Vj(hc:PT X c tc)(ha:ET X a t)(hb:ET X b u):PS X (.If c a b pos) (Z2 tc t u):=by intro pins s σ H D I h;refine wpAny_If<|bb (hc pins s σ H _ I h) ?_;rintro d s1 ⟨H1,I1,q1⟩;cases d with|true=>exact ha pins s1 σ H1 D I1 q1|false=>exact hb pins s1 σ H1 D I1 q1
end
abbrev TG:=V->St->Hp->(St->Hp->Prop)->Prop
abbrev OW:=List V->St->Hp->(St->Hp->Prop)->Prop
def PG(X:Cx)(target:Expr)(t:TG):Prop:=∀(pins:io)(s:Shared)(σ:St)(H:Hp)(v:V)(u:Value)(Q:St->Hp->Prop),Inv X pins σ H s->RelV v u->t v σ H Q->wpAny (model X.prog X.w) X.A (assign target X.env u) (λ_ s'=>∃aG H',Inv X pins aG H' s'/\Q aG H') X.xe s
def OX(X:Cx)(ts:li)(t:OW):Prop:=∀(pins:io)(s:Shared)(σ:St)(H:Hp)(vs:cr)(us:dL)(Q:St->Hp->Prop),Inv X pins σ H s->Vals vs us->t vs σ H Q->wpAny (model X.prog X.w) X.A (assignInOrder ((assignEach ts X.env).map (·.2)) us) (λ_ s'=>∃aG H',Inv X pins aG H' s'/\Q aG H') X.xe s
abbrev QJ:=V->V->V->Hp->(Hp->Prop)->Prop
def Vk(X:Cx)(t:QJ):Prop:=∀(pins:io)(s:Shared)(σ:St)(H:Hp)(o i v:V)(ov iv u:Value)(Q:Hp->Prop),Inv X pins σ H s->RelV o ov->RelV i iv->RelV v u->t o i v H Q->wpAny (model X.prog X.w) X.A (setItem ov iv u) (λ_ s'=>∃H',Inv X pins σ H' s'/\Q H') X.xe s
abbrev Z3:=V->V->Hp->VK->Prop
def PIp(X:Cx)(op:Operator)(t:Z3):Prop:=∀(pins:io)(s:Shared)(σ:St)(H:Hp)(x y:V)(v u:Value)(Q:VK),Inv X pins σ H s->RelV x v->RelV y u->t x y H Q->wpAny (model X.prog X.w) X.A (inplaceOp op v u) (EP X pins σ Q) X.xe s
section
variable{X:Cx}{pos:Pos}
def iU(i:Nat):TG:=λv σ H Q=>Q (σ.set i<|some v) H
theorem qZ(hN:X.N.Nodup)(hi:X.N[i]?=some x)(hx:Loc X.env.scope x)(hf:autoParam (X.fn x=true\/X.env.scope.names.lookup x=some .local) qQ8):PG X (.Name x pos) (iU i):=by intro pins s σ H v u Q I r h;exact wpAny_assign_Name<|rO I hN hi hx r (λs' I'=>{_,H,I',h}) hf
def Ms:OW:=λvs σ H Q=>vs=[]/\Q σ H
def rP(t:TG)(u:OW):OW:=λvs σ H Q=>∃v r,vs=v::r/\t v σ H λaG H'=>u r aG H' Q
theorem EW:OX X [] Ms:=by intro pins s σ H vs us Q I r h;obtain⟨e,h⟩:=h;subst e;cases r;exact assignInOrder_nil ⟨σ,H,I,h⟩
theorem rQ{t:TG}(h1:PG X e t)(h2:OX X es u)(hs:autoParam ((assignEach (e::es) X.env).map (·.2)=assign e X.env::(assignEach es X.env).map (·.2)) qQJ):OX X (e::es) (rP t u):=by intro pins s σ H vs us Q I r h;obtain⟨v,vr,e1,h⟩:=h;subst e1;cases r with|cons r rr=>rw[hs];refine assignInOrder_cons<|bb (h1 pins s σ H _ _ _ I r h) ?_;rintro _ s1 ⟨Aq,H1,I1,q1⟩;exact h2 pins s1 Aq H1 _ _ Q I1 rr q1
def Mt(K:Frag)(n:Nat)(t:OW):TG:=λv σ H Q=>∃a xs,v=.ref a/\jc K H a xs/\xs.length=n/\t xs σ H Q
theorem IM{t:OW}(hc:X.calm=true)(h:OX X es t)(hn:autoParam ((assignEach es X.env).length=n) qQJ)(uv:autoParam ((assignEach es X.env).findIdx? (·.1)=none) qQJ):PG X (.Tuple es k pos) (Mt X.K n t):=by intro pins s σ H v u Q I r hw;obtain⟨a,xs,e1,hq,hl,hw⟩:=hw;subst e1;cases r;obtain⟨ay,rv,ht,hz⟩:=I.tuple hq;refine assign_Tuple_tuple (I.ok.hd hc) ht (by simp[hn,<-hl,rv.length]) uv λh' hx=>?_;have I1:Inv X pins σ H {s with heap:=h'}:=I.kept (t':=s.toks) λb o e=>hx b o (zG<|zB e) e;exact h pins _ σ H xs _ Q I1 (by simpa using rv) hw
def Z4(to ti:TE)(t:QJ):TG:=λv σ H Q=>to σ H λo H1=>ti σ H1 λi H2=>t o i v H2 λH3=>Q σ H3
theorem QK{t:QJ}(ho:PE X o to)(hi:PE X i ti)(hs:Vk X t)
  (ha:autoParam (∀v,assign (.Subscript o i pos) X.env v=(do
   let ov <-holding [v] (eval o X.env)
   let iv <-holding [v,ov] (eval i X.env)
   standAt pos
   holding [v,ov,iv] (setItem ov iv v)
   release [v,ov,iv] [])) qQ0):PG X (.Subscript o i pos) (Z4 to ti t):=by
 intro pins s σ H v u Q I r h
 rw[ha]
 refine zc<|yM<|bb (ho pins s σ H _ I h) ?_
 rintro ov s1 ⟨x,H1,I1,r1,q1⟩
 refine zc<|yM<|bb (hi pins s1 σ H1 _ I1 q1) ?_
 rintro iv s2 ⟨y,H2,I2,r2,q2⟩
 refine zc<|wpAny_standAt<|zc<|yM<|bb (hs pins s2 σ H2 x y v ov iv u _ I2 r1 r2 r q2) ?_
 rintro _ s3 ⟨H3,I3,q3⟩
 exact wpAny_release ⟨σ,H3,I3,q3⟩
def QL(te:TE)(g:TG):TS:=λD σ H=>te σ H λx H1=>g x σ H1 D.nx
theorem IP(he:PE X e te)(hg:PG X tg g)(hs:autoParam (swapsWithSole [tg] e pos.line X.env=pure false) qQJ)(hw:autoParam (swappedStores [tg] e X.env=pure none) qQJ)(h1:autoParam ((assignEach [tg] X.env).map (·.2)=[assign tg X.env]) qQJ):PS X (.Assign [tg] e pos) (QL te g):=by intro pins s σ H D I h;refine wpAny_Assign_stores (bb (he pins s σ H _ I h) λv s1 ⟨x,H1,I1,r1,q1⟩=>?_) hs hw;rw[h1];exact bb (hg pins s1 σ H1 x v _ I1 r1 q1) λ_ s2 q=>q
theorem QM(hN:X.N.Nodup)(hi:X.N[i]?=some x)(hx:Loc X.env.scope x)(he:PE X e te)(hs:autoParam (swapsWith e (some<|.Name x pos') pos.line X.env=pure false) qQJ)(hf:autoParam (X.fn x=true\/X.env.scope.names.lookup x=some .local) qQ8): PS X (.Assign [.Name x pos'] e pos) (QL te<|iU i):=by intro pins s σ H D I h;refine wpAny_Assign_Name (bb (he pins s σ H _ I h) λv s1 ⟨y,H1,I1,r1,q1⟩=>?_) hs;exact rO I1 hN hi hx r1 (λs2 I2=>{_,H1,I2,q1}) hf
def Z5(i:Nat)(te:TE)(ti:Z3):TS:=λD σ H=>∃x,σ[i]?=some (some x)/\te σ H λy H1=>ti x y H1 λz H2=>D.nx (σ.set i<|some z) H2
theorem QN(hN:X.N.Nodup)(hi:X.N[i]?=some x)(hx:Loc X.env.scope x)(he:PE X e te)(ho:PIp X op ti)(hf:autoParam (X.fn x=true\/X.env.scope.names.lookup x=some .local) qQ8): PS X (.AugAssign (.Name x pos') op e pos) (Z5 i te ti):=by
 intro pins s σ H D I h;obtain⟨v,e1,h⟩:=h;obtain⟨m,hn,hl⟩:=I.loc;have vis:Qv X.env.scope x:=by rcases hx with k|k;exact .inl k;exact .inr<|.inl k
 obtain⟨u,r,l⟩:=hl i x v hi e1 vis;refine wpAny_AugAssign_Name ?_;have go:wpAny (model X.prog X.w) X.A (eval e X.env) (λw bB=>wpAny (model X.prog X.w) X.A (inplaceOp op u w) (λr uw=>wpAny (model X.prog X.w) X.A (storeName X.env x r) (λ_=>SP X pins D .next) X.xe uw) X.xe bB) X.xe s:=by refine bb (he pins s σ H _ I h) ?_;rintro w s1 ⟨y,H1,I1,r1,q1⟩;refine bb (ho pins s1 σ H1 v y u w _ I1 r r1 q1) ?_;rintro z s2 ⟨zv,H2,I2,r2,q2⟩;exact rO I2 hN hi hx r2 (λs3 I3=>{_,H2,I3,q2}) hf
 rcases l with⟨hk,hm⟩|⟨hk,c,hc,EU⟩;exact wpAny_loadName_local I.ok.kind hk hn hm go;rcases hk with hk|hk;exact wpAny_loadName_cell I.ok.kind hk hc EU go;rcases hx with k|k;have:X.env.scope.names.lookup x=some .free:=hk;rw[k]at this;cases this;have:X.env.scope.names.lookup x=some .free:=hk;rw[k]at this;cases this
def ipI(f:Int->Int->Int):Z3:=λx y H Q=>∃i j,x=.int i/\y=.int j/\Q (.int<|f i j) H
theorem QO:PIp X .Add (ipI λi j=>i+j):=by intro pins s σ H x y v u Q I r1 r2 h;obtain⟨i,j,e1,e2,q⟩:=h;subst e1;subst e2;obtain⟨t,rfl⟩:=r1;obtain⟨t',rfl⟩:=r2;exact iadd_int {.int _,H,I.tok _,{_,rfl},q}
def QP(c:TT)(tb:TS):TS:=λD σ H=>∃W:Nat->St->Hp->Prop,(∃m,W m σ H)/\∀m σ H,W m σ H->c σ H λb H1=>if b=true then ∃N:St->Hp->Prop,(∀aG H',N aG H'->∃m',m'<m/\W m' aG H')/\tb {D with nx:=N,ct:=N,bk:=D.nx} σ H1 else D.nx σ H1
theorem IQ(hp:PassesOwn (model X.prog X.w) X.A X.env X.xe)(hc:PT X c tc)(hb:ET X body tb):PS X (.While c body [] pos) (QP tc tb):=by intro pins s σ H D I h;obtain⟨W,⟨m0,w0⟩,turn⟩:=h;refine wpAny_While<|codeAny_whileLoop (λn s'=>∃aG H',Inv X pins aG H' s'/\W n aG H') ?_ m0 ⟨σ,H,I,w0⟩;rintro n s1 ⟨Aq,H1,I1,w1⟩;refine wpAny_passesOwn hp<|bb (hc pins s1 Aq H1 _ I1<|turn n Aq H1 w1) ?_;rintro b s2 ⟨H2,I2,q2⟩;cases b with|true=>(obtain⟨N,hN,q2⟩:=q2;rw[if_pos rfl];refine wpAny_passesOwn hp<|bb (hb pins s2 Aq H2 _ I2 q2) λf s3 q3=>?_;cases f with|next=>(obtain⟨f_,H3,I3,n3⟩:=q3;obtain⟨m',hm,w3⟩:=hN f_ H3 n3;exact⟨m',hm,f_,H3,I3,w3⟩)|cont=>(obtain⟨f_,H3,I3,n3⟩:=q3;obtain⟨m',hm,w3⟩:=hN f_ H3 n3;exact⟨m',hm,f_,H3,I3,w3⟩)|brk=>exact q3|ret v=>exact q3)|false=>rw[if_neg zd];exact wpAny_execs_nil ⟨Aq,H2,I2,q2⟩
end
structure It where
 go:Nat->Hp->Prop
 Vl:Nat->Hp->V->Hp->Prop
 stop:Nat->Hp->Prop
def ux(X:Cx)(pins:io)(H:Hp)(b:Addr):Prop:=H b=none/\b≠X.env.locals/\b∉X.fs/\(b∈X.ex\/X.dw.heap.objs.size<=b)/\(∀x c,X.env.cells.lookup x=some c->c≠b)/\∀p∈X.pn++pins,p.1≠b
theorem Inv.qz(I:Inv X pins σ H s)(hb:s.heap.objs.size<=b)(hn:H' b=none):ux X pins H' b:=by refine{hn,yp<|zu I.lt hb,I.U9 hb,.inr<|zO I.sz hb,λx c e z=>?_,λp hp z=>?_};obtain⟨v,q⟩:=I.cell x c e;exact absurd (zu q.lt<|by rw[z];exact hb)<|yB _;exact absurd (zu (zB (I.pin p hp).1)<|by rw[z];exact hb)<|yB _
structure Turn(P:Program)(w:World)(K:Frag)(tg:Expr)(J:It)(fp:im)(it:Addr)(tn:Nat->Heap->Prop):Prop where
 mem:it∈fp
 obj:∀i h,tn i h->∀b∈fp,∃o,h.get? b=some o/\∀v,o.data≠.cell v
 keep:∀i h h',tn i h->(∀b∈fp,∀o,h.get? b=some o->h'.get? b=some o)->tn i h'
 item:∀(X:Cx),X.prog=P->X.w=w->X.K=K->X.calm=true->∀(i:Nat)(pins:io)(s:Shared)(σ:St)(H:Hp)(E:lc),Inv X pins σ H s->(∀b∈fp,ux X pins H b)->tn i s.heap->J.go i H ->
  wpAny (model P w) X.A (pyNext<|.ref it) (λr s1=>∃u,r=some u /\
   wpAny (model P w) X.A (letOwnedTupleGo tg (.ref it) u) (λ_ s2=>∃x H',Inv X pins σ H' s2/\RelV x u/\J.Vl i H x H'/\tn (i+1) s2.heap/\∀b∈fp,H' b=none) E s1) E s
 done:∀(X:Cx),X.prog=P->X.w=w->X.K=K->X.calm=true->∀(i:Nat)(pins:io)(s:Shared)(σ:St)(H:Hp)(E:lc),Inv X pins σ H s->(∀b∈fp,ux X pins H b)->tn i s.heap->J.stop i H ->
  wpAny (model P w) X.A (pyNext<|.ref it) (λr s1=>r=none/\Inv X pins σ H s1) E s
 self:∀(A:Around)(i:Nat)(s:Shared)(Q:lc)(E:lc),tn i s.heap->Q (.ref it) s->wpAny (model P w) A (pyIter<|.ref it) Q E s
abbrev TI:=St->Hp->(It->Hp->Prop)->Prop
def Z6(X:Cx)(pins:io)(σ:St)(tg:Expr)(R:It->Hp->Prop)(YE:Value)(s2:Shared):Prop:=∃(it:Addr)(fp:im)(tn:Nat->Heap->Prop)(J:It)(H':Hp),YE=.ref it/\Inv X pins σ H' s2/\Turn X.prog X.w X.K tg J fp it tn/\tn 0 s2.heap/\(∀b∈fp,ux X pins H' b)/\R J H'
def PI(X:Cx)(tg iter:Expr)(wi:TI):Prop:=∀(pins:io)(s:Shared)(σ:St)(H:Hp)(R:It->Hp->Prop),Inv X pins σ H s->wi σ H R->wpAny (model X.prog X.w) X.A (eval iter X.env) (λv s1=>wpAny (model X.prog X.w) X.A (pyIter v) (Z6 X pins σ tg R) X.xe s1) X.xe s
theorem vg(ho:s.heap.get? it=some o)(hc:o.cls=.type n)(hd:o.data=.fields vs)(hn:["enumerate","zip","dict_itemiterator","dict_reverseitemiterator","odict_iterator","itertools.zip_longest","itertools.pairwise"].contains n=false)(hQ:Q () s):wpAny M A (letOwnedTupleGo tg (.ref it) u) Q E s:=by
 unfold letOwnedTupleGo
 cases tg<;>first
  |exact zA hQ
  | (cases u<;>first
    |exact zA hQ
    | (refine zc (wpAny_load ho ?_)
       rw[hc,hd]
       show wpAny M A (if (["enumerate","zip","dict_itemiterator","dict_reverseitemiterator","odict_iterator","itertools.zip_longest","itertools.pairwise"].contains n&&vs[0]?==some (rawInt _))=true then _ else _) Q E s
       rw[if_neg<|by intro h;rw[hn,zY]at h;cases h]
       exact zA hQ))
def Itl(K:Frag)(a:Addr):It:={λi H=>∃xs x,jk K H a xs/\xs[i]?=some x,λi H x H'=>H'=H/\∀xs,jk K H a xs->xs[i]?=some x,λi H=>∃xs,jk K H a xs/\xs.length<=i}
def Itt(K:Frag)(a:Addr):It:={λi H=>∃xs x,jc K H a xs/\xs[i]?=some x,λi H x H'=>H'=H/\∀xs,jc K H a xs->xs[i]?=some x,λi H=>∃xs,jc K H a xs/\xs.length<=i}
noncomputable def YF(lo:Int)(n:Nat):It:={λi _=>i<n,λi H x H'=>H'=H/\x=.int (lo+i),λi _=>n<=i}
theorem GK{P:Program}{w:World}{K:Frag}{tg:Expr}(a it:Addr):Turn P w K tg (Itl K a) [it] it (λi h=>h.IsListIter it a i) where
 mem:=by simp
 obj:=λi h st b hb=>by
  have e:b=it:=by simpa using hb
  subst e
  obtain⟨o,e,c,d⟩:=st
  exact{o,e,λv z=>by rw[d]at z;cases z}
 keep:=λi h h' st k=>st.at λo e=>k it (by simp) o e
 item:=by
  intro X hP hw hK hc i pins s σ H E I hf st hg
  subst hP hw hK
  obtain⟨xs,x,hq,hx⟩:=hg
  obtain⟨ay,rv,p,hz⟩:=I.list hq
  obtain⟨u,hu,ru⟩:=rv.get hx
  obtain⟨f0,f1,f2,f3,f4,f5⟩:=hf it<|by simp
  refine wpAny_pyNext_list_item st p.isList (x:=u) (by simpa using hu) λh' e_ sb=>?_
  have I1:Inv X pins σ H {s with heap:=h'}:=I.turned (t':=s.toks) (λb o hb e=>(sb.2 b hb).trans e) f0 f1 f3 f4 f5
  obtain⟨o,e,c,d⟩:=id e_
  exact{u,rfl,vg (s:={s with heap:=h'}) e c d (by decide) {x,H,I1,ru,{rfl,λys hy=>by rw[I.AE hy hq];exact hx},e_,λb hb=>(hf b hb).1}}
 done:=by
  intro X hP hw hK hc i pins s σ H E I hf st hg
  subst hP hw hK
  obtain⟨xs,hq,hx⟩:=hg
  obtain⟨ay,rv,p,hz⟩:=I.list hq
  obtain⟨f0,f1,f2,f3,f4,f5⟩:=hf it<|by simp
  have hl:=rv.length
  exact wpAny_pyNext_list_end (I.ok.hd hc) st p.isList (by simp;lia) λh' eb=>{rfl,I.turned (t':=s.toks) (λb o hb e=>eb b o hb e) f0 f1 f3 f4 f5}
 self:=λ_ _ _ _ _ st h=>wpAny_pyIter_listiter st h
theorem CG{P:Program}{w:World}{K:Frag}{tg:Expr}(a it:Addr):Turn P w K tg (Itt K a) [it] it (λi h=>h.IsTupleIter it a i) where
 mem:=by simp
 obj:=λi h st b hb=>by
  have e:b=it:=by simpa using hb
  subst e
  obtain⟨o,e,c,d⟩:=st
  exact{o,e,λv z=>by rw[d]at z;cases z}
 keep:=λi h h' st k=>st.at λo e=>k it (by simp) o e
 item:=by
  intro X hP hw hK hc i pins s σ H E I hf st hg
  subst hP hw hK
  obtain⟨xs,x,hq,hx⟩:=hg
  obtain⟨ay,rv,p,hz⟩:=I.tuple hq
  obtain⟨u,hu,ru⟩:=rv.get hx
  obtain⟨f0,f1,f2,f3,f4,f5⟩:=hf it<|by simp
  refine wpAny_pyNext_tuple_item st (show s.heap.IsTuple a ay.toArray from p) (x:=u) (by simpa using hu) λh' e_ sb=>?_
  have I1:Inv X pins σ H {s with heap:=h'}:=I.turned (t':=s.toks) (λb o hb e=>(sb.2 b hb).trans e) f0 f1 f3 f4 f5
  obtain⟨o,e,c,d⟩:=id e_
  exact{u,rfl,vg (s:={s with heap:=h'}) e c d (by decide) {x,H,I1,ru,{rfl,λys hy=>by rw[I.oq hy hq];exact hx},e_,λb hb=>(hf b hb).1}}
 done:=by
  intro X hP hw hK hc i pins s σ H E I hf st hg
  subst hP hw hK
  obtain⟨xs,hq,hx⟩:=hg
  obtain⟨ay,rv,p,hz⟩:=I.tuple hq
  obtain⟨f0,f1,f2,f3,f4,f5⟩:=hf it<|by simp
  have hl:=rv.length
  exact wpAny_pyNext_tuple_end (I.ok.hd hc) st (show s.heap.IsTuple a ay.toArray from p) (by simp;lia) λh' eb=>{rfl,I.turned (t':=s.toks) (λb o hb e=>eb b o hb e) f0 f1 f3 f4 f5}
 self:=λ_ _ _ _ _ st h=>wpAny_pyIter_tupleiter st h
theorem CH{P:Program}{w:World}{K:Frag}{tg:Expr}(it:Addr)(lo:Int)(n:Nat):Turn P w K tg (YF lo n) [it] it (λi h=>IsRangeIter h it (lo+(i:Nat)*1) ((n:Int)-(i:Nat)) 1) where
 mem:=by simp
 obj:=λi h st b hb=>by
  have e:b=it:=by simpa using hb
  subst e
  exact⟨_,st,λv z=>by
   have z':Data.fields _=Data.cell v:=z
   cases z'⟩
 keep:=λi h h' st k=>k it (by simp) _ st
 item:=by
  intro X hP hw hK hc i pins s σ H E I hf st hg
  subst hP hw hK
  obtain⟨f0,f1,f2,f3,f4,f5⟩:=hf it<|by simp
  have W:=Walks.range (prog:=X.prog) (w:=X.w) (I.ok.hd hc) it lo 1 n
  refine W.item i s _ _ hg st λv h' tk hv e_ kk=>?_
  obtain⟨t,rfl⟩:=hv
  have I1:Inv X pins σ H {s with heap:=h',toks:=tk}:=I.turned (λb o hb e=>kk b o (by simpa using hb) e) f0 f1 f3 f4 f5
  refine{_,rfl,vg (s:={s with heap:=h',toks:=tk}) (n:="range_iterator") e_ rfl rfl (by decide) {.int<|lo+i,H,I1,{t,?_},⟨rfl,rfl⟩,e_,λb hb=>(hf b hb).1}}
  rw[Int.mul_one]
 done:=by
  intro X hP hw hK hc i pins s σ H E I hf st hg
  subst hP hw hK
  obtain⟨f0,f1,f2,f3,f4,f5⟩:=hf it<|by simp
  exact wpAny_pyNext_range_end (I.ok.hd hc) st (by have:n<=i:=hg;lia) λh' eb=>{rfl,I.turned (t':=s.toks) (λb o hb e=>eb b o hb e) f0 f1 f3 f4 f5}
 self:=λ_ _ _ _ _ st h=>wpAny_pyIter_rangeiter st h
section
variable{X:Cx}{tg:Expr}
def Vm(K:Frag)(tl:TE):TI:=λσ H R=>tl σ H λx H1=>∃a,x=.ref a/\(∃xs,jk K H1 a xs)/\R (Itl K a) H1
def Z7(K:Frag)(tl:TE):TI:=λσ H R=>tl σ H λx H1=>∃a,x=.ref a/\(∃xs,jc K H1 a xs)/\R (Itt K a) H1
theorem Mu{l:Expr}{tl:TE}(hl:PE X l tl):PI X tg l (Vm X.K tl):=by
 intro pins s σ H R I h;refine bb (hl pins s σ H _ I h) ?_;rintro v s1 ⟨x,H1,I1,r1,q1⟩;obtain⟨a,e,⟨xs,hq⟩,q⟩:=q1;subst e;cases r1;obtain⟨ay,rv,p,hz⟩:=I1.list hq;refine wpAny_pyIter_list p.isList ?_;refine{s1.heap.objs.size,[s1.heap.objs.size],_,_,H1,rfl,I1.kept (t':=s1.toks) λb o e=>za _ e,GK a _,{_,zk _ rfl,rfl,rfl},λb hb=>?_,q};have e:b=s1.heap.objs.size:=by simpa using hb
 subst e;exact I1.qz (zq _)<|I1.aN.fresh<|zq _
theorem QQ{l:Expr}{tl:TE}(hl:PE X l tl):PI X tg l (Z7 X.K tl):=by
 intro pins s σ H R I h;refine bb (hl pins s σ H _ I h) ?_;rintro v s1 ⟨x,H1,I1,r1,q1⟩;obtain⟨a,e,⟨xs,hq⟩,q⟩:=q1;subst e;cases r1;obtain⟨ay,rv,p,hz⟩:=I1.tuple hq;refine wpAny_pyIter_tuple (show s1.heap.IsTuple a ay.toArray from p) ?_;refine{s1.heap.objs.size,[s1.heap.objs.size],_,_,H1,rfl,I1.kept (t':=s1.toks) λb o e=>za _ e,CG a _,{_,zk _ rfl,rfl,rfl},λb hb=>?_,q};have e:b=s1.heap.objs.size:=by simpa using hb
 subst e;exact I1.qz (zq _)<|I1.aN.fresh<|zq _
theorem IS{pins:io}{σ:St}{H:Hp}{s:Shared}{R:It->Hp->Prop}{E:lc}{lo hi:Int}{t u v:Tok}{tk:Nat}(I:Inv X pins σ H s)(h1:-(2^62)<=lo)(h2:lo<2^62)(h3:-(2^62)<=hi)(h4:hi<2^62)(q:R (YF lo (hi-lo).toNat) H):wpAny (model X.prog X.w) X.A (pyIter<|.ref s.heap.objs.size) (Z6 X pins σ tg R) E {s with heap:=s.heap.push {cls:=.type "range",data:=.fields #[.int lo t,.int hi u,.int 1 v]},toks:=tk}:=by
 refine wpAny_pyIter_range (IsRange.new ..) (small_one h1 h2 h3 h4) ?_;have I1:Inv X pins σ H {s with heap:=s.heap.push {cls:=.type "range",data:=.fields #[.int lo t,.int hi u,.int 1 v]},toks:=tk}:=I.kept λb o e=>za _ e;refine{(s.heap.push {cls:=.type "range",data:=.fields #[.int lo t,.int hi u,.int 1 v]}).objs.size,[(s.heap.push {cls:=.type "range",data:=.fields #[.int lo t,.int hi u,.int 1 v]}).objs.size],_,_,H,rfl,I1.kept (t':=tk) λb o e=>za _ e,CH _ lo (hi-lo).toNat,?_,λb hb=>?_,q};have e1:lo+((0:Nat):Int)*1=lo:=by simp
 have e2:(((hi-lo).toNat:Nat):Int)-((0:Nat):Int)=Builtin.Range.rangeSize lo hi 1:=by rw[rangeSize_one];split<;>lia
 show IsRangeIter _ _ (lo+((0:Nat):Int)*1) ((((hi-lo).toNat:Nat):Int)-((0:Nat):Int)) 1;rw[e1,e2];exact zk _ rfl;have e:b=(s.heap.push {cls:=.type "range",data:=.fields #[.int lo t,.int hi u,.int 1 v]}).objs.size:=by simpa using hb
 subst e;exact I1.qz (zq _)<|I1.aN.fresh<|zq _
def Vn(ta:TA):TI:=λσ H R=>ta σ H λvs H1=>∃j:Int,vs=[.int j]/\-(2^62)<=j/\j<2^62/\R (YF 0 j.toNat) H1
theorem GL{a:Expr}{ta:TA}{p pos:Pos}(hg:Gl X "range")(hm:X.mg "range"= none)(ha:PA X [a] ta)(hs:autoParam (starEach [a] X.env=[(false,eval a X.env)]) qQJ):PI X tg (.Call (.Name "range" p) [a] [] pos) (Vn ta):=by intro pins s σ H R I h;refine Call_<|gC I hg hm boot_range<|PyProof.Rows.callWith_type1 (bb (ha pos pins s σ H _ I h) λus s1 ⟨vs,H1,I1,r1,q1⟩=>?_) hs rfl;obtain⟨j,e,q1,q2,q⟩:=q1;subst e;cases r1 with|cons r rr=>cases rr;obtain⟨t,rfl⟩:=r;exact call_range_1<|IS I1 (by lia) (by lia) q1 q2<|by simpa using q
def Z8(wi:TI)(g:TG)(tb:TS):TS:=λD σ H=>wi σ H λJ H1=>∃W:Nat->Nat->St->Hp->Prop,(∃m,W 0 m σ H1)/\∀i m σ H,W i m σ H->(J.stop i H/\D.nx σ H)\/(J.go i H/\∃N:St->Hp->Prop,(∀aG H',N aG H'->∃m',m'<m/\W (i+1) m' aG H')/\∀x H',J.Vl i H x H'->g x σ H' λq8 H2=>tb {D with nx:=N,ct:=N,bk:=D.nx} q8 H2)
noncomputable def rR(fp:im)(h:Heap):io:=fp.filterMap λb=>(h.get? b).map λo=>(b,o)
theorem iy(hb:b∈fp)(e:h.get? b=some o):(b,o)∈rR fp h:=List.mem_filterMap.mpr {b,hb,by rw[e];rfl}
theorem GN(hp:p∈rR fp h):p.1∈fp/\h.get? p.1=some p.2:=by obtain⟨b,hb,e⟩:=List.mem_filterMap.mp hp;cases q:h.get? b with|none=>(rw[q]at e;cases e)|some o=>rw[q]at e;have e':(b,o)=p:=zT e;subst e';exact⟨hb,q⟩
theorem Inv.pinned(I:Inv X pins σ H s)(hf:∀b∈fp,ux X pins H b)(ho:∀b∈fp,∃o,s.heap.get? b=some o/\∀v,o.data≠.cell v):Inv X (pins++rR fp s.heap) σ H s:=I.mC λp hp=>(zN.mp hp).elim (λz=>I.pin p<|zJ _ z) λz=>by obtain⟨hb,e⟩:=GN z;obtain⟨f0,f1,f2,_⟩:=hf p.1 hb;obtain⟨o,e',d⟩:=ho p.1 hb;rw[e]at e';cases e';exact⟨e,f0,f1,f2,d⟩
theorem Inv.rS(I:Inv X (pins++pl) σ H s):Inv X pins σ H s:=I.mC λp hp=>I.pin p<|zJ _<|yk _ hp
theorem QR(hp:PassesOwn (model X.prog X.w) X.A X.env X.xe)(hc:X.calm=true)(hi:PI X tg iter wi)(hg:PG X tg g)(hb:ET X body tb)(hs:autoParam (∀x,foldedSetIterable iter X.env x=pure x) qQ0):PS X (.For tg iter body [] pos) (Z8 wi g tb):=by intro pins s σ H D I h;refine wpAny_For (bb (hi pins s σ H _ I h) λv s1 h1=>bb h1 λYE s2 h2=>?_) hs;obtain⟨it,fp,tn,J,H2,e,I2,T,OY,f2,W,⟨m0,w0⟩,turn⟩:=h2;subst e;have QS:∀{H':Hp},(∀b∈fp,H' b=none)->∀b∈fp,ux X pins H' b:=λhn b hb=>{hn b hb,(f2 b hb).2};refine codeAny_forLoop_any (λn s'=>∃i aG H',Inv X pins aG H' s'/\tn i s'.heap/\(∀b∈fp,H' b=none)/\W i n aG H') ?_ m0 {0,σ,H2,I2,OY,λb hb=>(f2 b hb).1,w0};rintro n s3 ⟨i,f_,H3,I3,OZ,Vo,w3⟩;rcases turn i n f_ H3 w3 with⟨stop,qn⟩|⟨go,N,hN,step⟩;refine wpAny_passesOwn hp<|bb (T.done X rfl rfl rfl hc i pins s3 f_ H3 X.xe I3 (QS Vo) OZ stop) ?_;rintro r s4 ⟨hr,I4⟩;subst hr;exact wpAny_execs_nil ⟨f_,H3,I4,qn⟩;{refine wpAny_passesOwn hp<|bb (T.item X rfl rfl rfl hc i pins s3 f_ H3 X.xe I3 (QS Vo) OZ go) ?_;rintro r s4 ⟨u,hr,h4⟩;subst hr;refine wpAny_passesOwn hp<|bb h4 ?_;rintro _ s5 ⟨x,H5,I5,r5,y5,L6,Z9⟩;have Z_:=I5.pinned (QS Z9)<|T.obj _ _ L6;refine wpAny_passesOwn hp<|bb (hg _ s5 f_ H5 x u _ Z_ r5<|step x H5 y5) ?_;rintro _ s6 ⟨Vp,H6,I6,q6⟩;refine wpAny_passesOwn hp<|bb (hb _ s6 Vp H6 _ I6 q6) λf s7 q7=>?_;have again:∀{IT:St}{H7:Hp},Inv X (pins++rR fp s5.heap) IT H7 s7->N IT H7->∃m,m<n/\∃i aG H',Inv X pins aG H' s7/\tn i s7.heap/\(∀b∈fp,H' b=none)/\W i m aG H':=λ{IT H7} I7 n7=>(by obtain⟨m',hm,w7⟩:=hN IT H7 n7;refine{m',hm,i+1,IT,H7,I7.rS,T.keep _ _ _ L6 λb hb o e=>(I7.pin (b,o)<|zJ _<|zJ _<|iy hb e).1,λb hb=>?_,w7};obtain⟨o,e,d⟩:=T.obj _ _ L6 b hb;exact(I7.pin (b,o)<|zJ _<|zJ _<|iy hb e).2.1);cases f with|next=>(obtain⟨IT,H7,I7,n7⟩:=q7;exact again I7 n7)|cont=>(obtain⟨IT,H7,I7,n7⟩:=q7;exact again I7 n7)|brk=>(obtain⟨IT,H7,I7,q7⟩:=q7;exact⟨IT,H7,I7.rS,q7⟩)|ret v=>obtain⟨x7,IT,H7,I7,r7,q7⟩:=q7;exact⟨x7,IT,H7,I7.rS,r7,q7⟩}
end
abbrev R2:=V->V->Hp->VK->Prop
def iz(X:Cx)(f:Value->Value->Sem Value)(r:R2):Prop:=∀(pins:io)(s:Shared)(σ:St)(H:Hp)(x y:V)(v u:Value)(Q:VK),Inv X pins σ H s->RelV x v->RelV y u->r x y H Q->wpAny (model X.prog X.w) X.A (f v u) (EP X pins σ Q) X.xe s
def UnR(X:Cx)(f:Value->Sem Value)(r:V->Hp->VK->Prop):Prop:=∀(pins:io)(s:Shared)(σ:St)(H:Hp)(x:V)(v:Value)(Q:VK),Inv X pins σ H s->RelV x v->r x H Q->wpAny (model X.prog X.w) X.A (f v) (EP X pins σ Q) X.xe s
def fh(X:Cx)(f:Value)(r:List V->Hp->VK->Prop):Prop:=∀(pins:io)(s:Shared)(σ:St)(H:Hp)(xs:cr)(us:dL)(Q:VK),Inv X pins σ H s->Vals xs us->r xs H Q->wpAny (model X.prog X.w) X.A (call f us) (EP X pins σ Q) X.xe s
def QT(r:R2)(ta tb:TE):TE:=λσ H Q=>ta σ H λx H1=>tb σ H1 λy H2=>r x y H2 Q
def tUn(r:V->Hp->VK->Prop)(ta:TE):TE:=λσ H Q=>ta σ H λx H1=>r x H1 Q
def rI(C:Int->Int->Prop)(g:Int->Int->V):R2:=λx y H Q=>∃i j,x=.int i/\y=.int j/\C i j/\Q (g i j) H
def Mv(g:Int->Int->V):R2:=λx y H Q=>∃i j,x=.int i/\y=.int j/\Q (g i j) H
def rU(g:Int->V):V->Hp->VK->Prop:=λx H Q=>∃i,x=.int i/\Q (g i) H
section
variable{X:Cx}{a b:Expr}{ta tb:TE}{pos:Pos}
theorem QU(ha:PE X a ta)(hb:PE X b tb){pins:io}{s:Shared}{σ:St}{H:Hp}{R:V->V->Hp->Prop}(I:Inv X pins σ H s)(h:ta σ H λx H1=>tb σ H1 λy H2=>R x y H2){Q:lc}{f:Value->Value->Sem Value}(hf:∀v u s2 x y H2,Inv X pins σ H2 s2->RelV x v->RelV y u->R x y H2->wpAny (model X.prog X.w) X.A (f v u) Q X.xe s2): wpAny (model X.prog X.w) X.A (eval a X.env) (λv aU=>wpAny (model X.prog X.w) X.A (eval b X.env) (λu bB=>wpAny (model X.prog X.w) X.A (f v u) Q X.xe bB) X.xe aU) X.xe s:=by refine bb (ha pins s σ H _ I h) ?_;rintro v s1 ⟨x,H1,I1,r1,q1⟩;refine bb (hb pins s1 σ H1 _ I1 q1) ?_;rintro u s2 ⟨y,H2,I2,r2,q2⟩;exact hf v u s2 x y H2 I2 r1 r2 q2
theorem Vq{op:Operator}{r:R2}(ho:iz X (binaryOp op) r)(ha:PE X a ta)(hb:PE X b tb):PE X (.BinOp a op b pos) (QT r ta tb):=by intro pins s σ H Q I h;exact wpAny_BinOp<|QU ha hb I h λv u s2 x y H2 I2 rx ry q=>ho pins s2 σ H2 x y v u Q I2 rx ry q
theorem O0(ho:UnR X (unaryOp op) r)(ha:PE X a ta):PE X (.UnaryOp op a pos) (tUn r ta):=by intro pins s σ H Q I h;exact UnaryOp_<|bb (ha pins s σ H _ I h) <| by rintro v s1 ⟨x,H1,I1,r1,q1⟩;exact ho pins s1 σ H1 x v Q I1 r1 q1
theorem YG{f:Value->Value->Sem Value}{C:Int->Int->Prop}{g:Int->Int->Int}(rule:∀(i j:Int)(t u:Tok)(s:Shared)(Q:lc)(E:lc),C i j->Q (.int (g i j) s.toks) {s with toks:=s.toks+1}->wpAny (model X.prog X.w) X.A (f (.int i t)<|.int j u) Q E s): iz X f (rI C λi j=>.int<|g i j):=by intro pins s σ H x y v u Q I rx ry h;obtain⟨i,j,rfl,rfl,hc,q⟩:=h;obtain⟨t,rfl⟩:=rx;obtain⟨t',rfl⟩:=ry;exact rule i j t t' s _ _ hc {.int<|g i j,H,I.tok _,{_,rfl},q}
theorem Vr{f:Value->Value->Sem Value}{g:Int->Int->Int}(rule:∀(i j:Int)(t u:Tok)(s:Shared)(Q:lc)(E:lc),Q (.int (g i j) s.toks) {s with toks:=s.toks+1}->wpAny (model X.prog X.w) X.A (f (.int i t)<|.int j u) Q E s): iz X f (Mv λi j=>.int<|g i j):=by intro pins s σ H x y v u Q I rx ry h;obtain⟨i,j,rfl,rfl,q⟩:=h;obtain⟨t,rfl⟩:=rx;obtain⟨t',rfl⟩:=ry;exact rule i j t t' s _ _ {.int<|g i j,H,I.tok _,{_,rfl},q}
theorem Mw{f:Value->Value->Sem Value}{g:Int->Int->Bool}(rule:∀(i j:Int)(t u:Tok)(s:Shared)(Q:lc)(E:lc),Q (.bool<|g i j) s->wpAny (model X.prog X.w) X.A (f (.int i t)<|.int j u) Q E s): iz X f (Mv λi j=>.bl<|g i j):=by intro pins s σ H x y v u Q I rx ry h;obtain⟨i,j,rfl,rfl,q⟩:=h;obtain⟨t,rfl⟩:=rx;obtain⟨t',rfl⟩:=ry;exact rule i j t t' s _ _ {.bl<|g i j,H,I,rfl,q}
def Vs(i j:Int):Prop:=0<=j/\j<=1000000/\i.natAbs<2^64
def Mx(i j:Int):Prop:=(-(2^64)<i/\i<2^64)\/(-(2^64)<j/\j<2^64)
theorem Mx.ok{i j:Int}(h:Mx i j):IntMulOk i j:=by rcases h with⟨h1,h2⟩|⟨h1,h2⟩;exact .of_left<|intBits_le_64 h1 h2;exact .of_right<|intBits_le_64 h1 h2
theorem QV:iz X (binaryOp .Add) (Mv λi j=>.int<|i+j):=Vr λ_ _ _ _ _ _ _ q=>add_int q
theorem QW:iz X (binaryOp .Sub) (Mv λi j=>.int<|i-j):=Vr λ_ _ _ _ _ _ _ q=>sub_int q
theorem QX:iz X (binaryOp .Mult) (rI Mx λi j=>.int<|i*j):=YG λ_ _ _ _ _ _ _ hc q=>mul_int q hc.ok
theorem QY:iz X (binaryOp .Mod) (rI (λ_ j=>0<j) λi j=>.int<|i%j):=YG λi j _ _ _ _ _ hc q=>by have h1:(0:Int)<j:=hc;exact mod_int' (by lia)<|by rw[Int.fmod_eq_emod_of_nonneg i<|by lia];exact q
theorem QZ:iz X (binaryOp .Pow) (rI Vs λi j=>.int<|i^j.toNat):=YG λ_ _ _ _ _ _ _ hc q=>pow_int_small hc.1 hc.2.1 hc.2.2 q
theorem unI{f:Value->Sem Value}{g:Int->Int}(rule:∀(i:Int)(t:Tok)(s:Shared)(Q:lc)(E:lc),Q (.int (g i) s.toks) {s with toks:=s.toks+1}->wpAny (model X.prog X.w) X.A (f<|.int i t) Q E s): UnR X f (rU λi=>.int<|g i):=by intro pins s σ H x v Q I rx h;obtain⟨i,rfl,q⟩:=h;obtain⟨t,rfl⟩:=rx;exact rule i t s _ _ {.int<|g i,H,I.tok _,{_,rfl},q}
theorem IU:UnR X (unaryOp .USub) (rU λi=>.int (-i)):=unI λ_ _ _ _ _ q=>neg_int q
end
noncomputable def Vt:V->V->Bool|.av,.av=>true|.av,.int _=>true|.int _,.av=>true|.av,.bl _=>true|.bl _,.av=>true|.av,.str _=>true|.str _,.av=>true|.int _,.int _=>true|.bl _,.bl _=>true|.str _,.str _=>true|.ES _,.ES _=>true|.int _,.str _=>true|.str _,.int _=>true|.bl _,.str _=>true|.str _,.bl _=>true|_,_=>false
def rEq:R2:=λx y H Q=>Vt x y=true/\Q (.bl<|decide<|x=y) H
def rNe:R2:=λx y H Q=>Vt x y=true/\Q (.bl<|!decide (x=y)) H
theorem EX:decide (V.int i=V.int j)=(i==j):=by rw[yE];simp
theorem IV:decide (V.bl i=V.bl j)=(i==j):=by rw[yE];simp
theorem EY:decide (V.str i=V.str j)=(i==j):=by rw[yE];simp
theorem EZ:decide (V.ES i=V.ES j)=(i.toList==j.toList):=by rw[yE];cases i;cases j;simp
section
variable{X:Cx}{a b c:Expr}{ta tb tc:TE}{pos:Pos}
theorem aJ(I:Inv X pins σ H s)(q:Q (.bl k) H)(e:k=k'):EP X pins σ Q (.bool k') s:=by subst e;exact{.bl k,H,I,rfl,q}
theorem O3:iz X (compareOp .Eq) rEq:=by intro pins s σ H x y v u Q I rx ry h;obtain⟨hs,q⟩:=h;cases x with|av=>(cases rx;cases y with|av=>(cases ry;exact PySem.EqNone.eq_none_none<|aJ I q<|by simp)|bl j=>(cases ry;exact PySem.EqNone.eq_none_bool<|aJ I q<|by simp)|int j=>(obtain⟨t',rfl⟩:=ry;exact PySem.EqNone.eq_none_int<|aJ I q<|by simp)|str j=>(obtain⟨t',rfl⟩:=ry;exact PySem.EqNone.eq_none_str<|aJ I q<|by simp)|_=>exact absurd (show false=true from hs) zd)|bl i=>(cases rx;cases y with|av=>(cases ry;exact PySem.EqNone.eq_bool_none<|aJ I q<|by simp)|bl j=>(cases ry;exact eq_bool<|aJ I q IV)|str j=>(obtain⟨t',rfl⟩:=ry;exact PySem.EqMixed.eq_bool_str<|aJ I q<|by simp)|_=>exact absurd (show false=true from hs) zd)|int i=>(obtain⟨t,rfl⟩:=rx;cases y with|av=>(cases ry;exact PySem.EqNone.eq_int_none<|aJ I q<|by simp)|int j=>(obtain⟨t',rfl⟩:=ry;exact eq_int<|aJ I q EX)|str j=>(obtain⟨t',rfl⟩:=ry;exact PySem.EqMixed.eq_int_str<|aJ I q<|by simp)|_=>exact absurd (show false=true from hs) zd)|str i=>(obtain⟨t,rfl⟩:=rx;cases y with|av=>(cases ry;exact PySem.EqNone.eq_str_none<|aJ I q<|by simp)|bl j=>(cases ry;exact PySem.EqMixed.eq_str_bool<|aJ I q<|by simp)|int j=>(obtain⟨t',rfl⟩:=ry;exact PySem.EqMixed.eq_str_int<|aJ I q<|by simp)|str j=>(obtain⟨t',rfl⟩:=ry;exact eq_str<|aJ I q EY)|_=>exact absurd (show false=true from hs) zd)|ES i=>(obtain⟨t,rfl⟩:=rx;cases y with|ES j=>(obtain⟨t',rfl⟩:=ry;exact PySem.W.eq_bytes<|aJ I q EZ)|_=>exact absurd (show false=true from hs) zd)|_=>cases y<;>exact absurd (show false=true from hs) zd
theorem O4:iz X (compareOp .NotEq) rNe:=by intro pins s σ H x y v u Q I rx ry h;obtain⟨hs,q⟩:=h;cases x with|av=>(cases rx;cases y with|av=>(cases ry;exact PySem.EqNone.ne_none_none<|aJ I q<|by simp)|bl j=>(cases ry;exact PySem.EqNone.ne_none_bool<|aJ I q<|by simp)|int j=>(obtain⟨t',rfl⟩:=ry;exact PySem.EqNone.ne_none_int<|aJ I q<|by simp)|str j=>(obtain⟨t',rfl⟩:=ry;exact PySem.EqNone.ne_none_str<|aJ I q<|by simp)|_=>exact absurd (show false=true from hs) zd)|bl i=>(cases rx;cases y with|av=>(cases ry;exact PySem.EqNone.ne_bool_none<|aJ I q<|by simp)|bl j=>(cases ry;exact ne_bool<|aJ I q<|congrArg not IV)|str j=>(obtain⟨t',rfl⟩:=ry;exact PySem.EqMixed.ne_bool_str<|aJ I q<|by simp)|_=>exact absurd (show false=true from hs) zd)|int i=>(obtain⟨t,rfl⟩:=rx;cases y with|av=>(cases ry;exact PySem.EqNone.ne_int_none<|aJ I q<|by simp)|int j=>(obtain⟨t',rfl⟩:=ry;exact ne_int<|aJ I q<|congrArg not EX)|str j=>(obtain⟨t',rfl⟩:=ry;exact PySem.EqMixed.ne_int_str<|aJ I q<|by simp)|_=>exact absurd (show false=true from hs) zd)|str i=>(obtain⟨t,rfl⟩:=rx;cases y with|av=>(cases ry;exact PySem.EqNone.ne_str_none<|aJ I q<|by simp)|bl j=>(cases ry;exact PySem.EqMixed.ne_str_bool<|aJ I q<|by simp)|int j=>(obtain⟨t',rfl⟩:=ry;exact PySem.EqMixed.ne_str_int<|aJ I q<|by simp)|str j=>(obtain⟨t',rfl⟩:=ry;exact ne_str<|aJ I q<|congrArg not EY)|_=>exact absurd (show false=true from hs) zd)|ES i=>(obtain⟨t,rfl⟩:=rx;cases y with|ES j=>(obtain⟨t',rfl⟩:=ry;exact PySem.W.ne_bytes<|aJ I q<|congrArg not EZ)|_=>exact absurd (show false=true from hs) zd)|_=>cases y<;>exact absurd (show false=true from hs) zd
theorem Vu:iz X (compareOp .Lt) (Mv λi j=>.bl<|decide<|i<j):=Mw λ_ _ _ _ _ _ _ q=>lt_int q
theorem Vv:iz X (compareOp .LtE) (Mv λi j=>.bl<|decide<|i<=j):=Mw λ_ _ _ _ _ _ _ q=>le_int q
theorem Vx:iz X (compareOp .Gt) (Mv λi j=>.bl<|decide<|j<i):=Mw λ_ _ _ _ _ _ _ q=>gt_int q
theorem Vy:iz X (compareOp .GtE) (Mv λi j=>.bl<|decide<|j<=i):=Mw λ_ _ _ _ _ _ _ q=>ge_int q
theorem GO:iz X (compareOp .Lt) (λx y H Q=>∃i j,x=.str i/\y=.str j/\Q (.bl<|decide<|i.cps.toList<j.cps.toList) H):=by intro pins s σ H x y v u Q I rx ry h;obtain⟨i,j,rfl,rfl,q⟩:=h;obtain⟨t,rfl⟩:=rx;obtain⟨t',rfl⟩:=ry;exact lt_str<|aJ I q rfl
theorem GP:iz X (compareOp .In) (λx y H Q=>∃i j,x=.str i/\y=.str j/\Q (.bl<|!(Builtin.Str.occurrences j i 0 j.length 1).isEmpty) H):=by intro pins s σ H x y v u Q I rx ry h;obtain⟨i,j,rfl,rfl,q⟩:=h;obtain⟨t,rfl⟩:=rx;obtain⟨t',rfl⟩:=ry;exact in_str<|aJ I q rfl
theorem Q0:iz X (compareOp .Is) (λx y H Q=>y=.av/\Q (.bl<|decide<|x=.av) H):=by intro pins s σ H x y v u Q I rx ry h;obtain⟨rfl,q⟩:=h;cases ry;refine is_none_gen<|aJ I q ?_;cases x<;>first| (cases rx;rfl)| (obtain⟨t,rfl⟩:=rx;rfl)
theorem Mz:iz X (compareOp .IsNot) (λx y H Q=>y=.av/\Q (.bl<|!decide (x=.av)) H):=by intro pins s σ H x y v u Q I rx ry h;obtain⟨rfl,q⟩:=h;cases ry;refine isnot_none_gen<|aJ I q ?_;cases x<;>first| (cases rx;rfl)| (obtain⟨t,rfl⟩:=rx;rfl)
theorem aab(b:Expr)(h:autoParam (op≠.In) qQZ)(h2:autoParam (op≠.NotIn) qQZ):behindInMarks op b=false:=by
 have e1:(op==CmpOp.In)=false:=by cases op<;>first|rfl|exact absurd rfl h
 have e2:(op==CmpOp.NotIn)=false:=by cases op<;>first|rfl|exact absurd rfl h2
 cases b<;>simp[behindInMarks,e1,e2]
theorem E1{op:CmpOp}{r:R2}(ho:iz X (compareOp op) r)(ha:PE X a ta)(hb:PE X b tb)(hm:behindInMarks op b=false):PE X (.Compare a [op] [b] pos) (QT r ta tb):=by intro pins s σ H Q I h;exact wpAny_Compare1 (QU ha hb I h λv u s2 x y H2 I2 rx ry q=>ho pins s2 σ H2 x y v u Q I2 rx ry q) hm
def IW(t:TE):TT:=λσ H Q=>t σ H λx H'=>∃k,x=.bl k/\Q k H'
theorem MA{op:CmpOp}{r:R2}(ho:iz X (compareOp op) r)(ha:PE X a ta)(hb:PE X b tb)(hm:behindInMarks op b=false):PT X (.Compare a [op] [b] pos) (IW<|QT r ta tb):=by intro pins s σ H Q I h;refine wpAny_isTrue_Compare1 (bb (ha pins s σ H _ I h) λv s1 ⟨x,H1,I1,r1,q1⟩=>bb (hb pins s1 σ H1 _ I1 q1) λu s2 ⟨y,H2,I2,r2,q2⟩=>bb (ho pins s2 σ H2 x y v u _ I2 r1 r2 q2) λc s3 ⟨z,H3,I3,r3,k,e,q3⟩=>?_) hm;subst e;cases r3;exact yx ⟨H3,I3,q3⟩
def CI(r r':R2)(ta tb tc:TE):TE:=λσ H Q=>ta σ H λx H1=>tb σ H1 λy H2=>r x y H2 λz H3=>∃k,z=.bl k/\(if k=true then tc σ H3 λw' H4=>r' y w' H4 Q else Q (.bl false) H3)
theorem IX{op GQ:CmpOp}{r r':R2}(ho:iz X (compareOp op) r)(CF:iz X (compareOp GQ) r')(ha:PE X a ta)(hb:PE X b tb)(hc:PE X c tc)(hm:autoParam (lastMarks [op,GQ] [b,c]=false) qQ2):PE X (.Compare a [op,GQ] [b,c] pos) (CI r r' ta tb tc):=by intro pins s σ H Q I h;refine Compare_chain (bb (ha pins s σ H _ I h) λv s1 ⟨x,H1,I1,r1,q1⟩=>chain_link<|bb (hb pins s1 σ H1 _ I1 q1) λu s2 ⟨y,H2,I2,r2,q2⟩=>bb (ho pins s2 σ H2 x y v u _ I2 r1 r2 q2) λd s3 ⟨z,H3,I3,r3,k,e,q3⟩=>?_) hm;subst e;cases r3;refine yx ?_;cases k with|false=>exact ite_ff {.bl false,H3,I3,rfl,q3}|true=>exact ite_tt<|chain_last<|bb (hc pins s3 σ H3 _ I3 q3) λw' s4 ⟨z',H4,I4,r4,q4⟩=>CF pins s4 σ H4 y z' u w' Q I4 r2 r4 q4
theorem IY{op GQ:CmpOp}{r r':R2}(ho:iz X (compareOp op) r)(CF:iz X (compareOp GQ) r')(ha:PE X a ta)(hb:PE X b tb)(hc:PE X c tc)(hm:autoParam (lastMarks [op,GQ] [b,c]=false) qQ2):PT X (.Compare a [op,GQ] [b,c] pos) (IW<|CI r r' ta tb tc):=by intro pins s σ H Q I h;refine isTrue_chain (bb (ha pins s σ H _ I h) λv s1 ⟨x,H1,I1,r1,q1⟩=>test_link<|bb (hb pins s1 σ H1 _ I1 q1) λu s2 ⟨y,H2,I2,r2,q2⟩=>bb (ho pins s2 σ H2 x y v u _ I2 r1 r2 q2) λd s3 ⟨z,H3,I3,r3,k,e,q3⟩=>?_) hm;subst e;cases r3;refine yx ?_;cases k with|false=>(obtain⟨k',e',q'⟩:=q3;cases e';exact ite_ff ⟨H3,I3,q'⟩)|true=>refine ite_tt<|test_last<|bb (hc pins s3 σ H3 _ I3 q3) λw' s4 ⟨z',H4,I4,r4,q4⟩=>bb (CF pins s4 σ H4 y z' u w' _ I4 r2 r4 q4) ?_;rintro d' s5 ⟨z2,H5,I5,r5,k2,e2,q5⟩;subst e2;cases r5;exact yx ⟨H5,I5,q5⟩
theorem rT:(sizeLine:Nat)<2^63:=by rw[yf];decide
theorem CJ:iz X (binaryOp .Add) (λx y H Q=>∃i j,x=.str i/\y=.str j/\i.length+j.length<=sizeLine/\Q (.str<|i++j) H):=by intro pins s σ H x y v u Q I rx ry h;obtain⟨i,j,rfl,rfl,hz,q⟩:=h;obtain⟨t,rfl⟩:=rx;obtain⟨t',rfl⟩:=ry;exact add_str (λt' tk=>{.str<|i++j,H,I.tok _,{_,rfl},q}) hz
theorem vals1(r:Vals [x] us):∃u,us=[u]/\RelV x u:=by cases r with|cons r1 r2=>cases r2;exact{_,rfl,r1}
theorem vals2(r:Vals [x,y] us):∃u w',us=[u,w']/\RelV x u/\RelV y w':=by cases r with|cons r1 r2=>cases r2 with|cons r3 r4=>cases r4;exact{_,_,rfl,r1,r3}
theorem GR(hc:X.calm=true):fh X (.builtin "max") (λxs H Q=>∃i j,xs=[.int i,.int j]/\Q (.int<|if j>i then j else i) H):=by intro pins s σ H xs us Q I r h;obtain⟨i,j,rfl,q⟩:=h;obtain⟨u,w',rfl,⟨t,rfl⟩,⟨t',rfl⟩⟩:=vals2 r;refine max_two_ints (I.ok.hd hc) λh' tk k=>{_,H,I.kept k,?_,q};by_cases hj:j>i;rw[if_pos hj,if_pos hj];exact{_,rfl};rw[if_neg hj,if_neg hj];exact{_,rfl}
theorem GS(hc:X.calm=true):fh X (.builtin "min") (λxs H Q=>∃i j,xs=[.int i,.int j]/\Q (.int<|if j<i then j else i) H):=by intro pins s σ H xs us Q I r h;obtain⟨i,j,rfl,q⟩:=h;obtain⟨u,w',rfl,⟨t,rfl⟩,⟨t',rfl⟩⟩:=vals2 r;refine min_two_ints (I.ok.hd hc) λh' tk k=>{_,H,I.kept k,?_,q};by_cases hj:j<i;rw[if_pos hj,if_pos hj];exact{_,rfl};rw[if_neg hj,if_neg hj];exact{_,rfl}
theorem vh:fh X (.type "int") (λxs H Q=>(∃i,xs=[.int i]/\Q (.int i) H)\/∃k,xs=[.bl k]/\Q (.int<|if k then 1 else 0) H):=by intro pins s σ H xs us Q I r h;rcases h with⟨i,rfl,q⟩|⟨k,rfl,q⟩;obtain⟨u,rfl,t,rfl⟩:=vals1 r;exact call_int_int {.int i,H,I,{_,rfl},q};obtain⟨u,rfl,r1⟩:=vals1 r;cases r1;exact call_int_bool {.int<|if k then 1 else 0,H,I.tok _,{_,rfl},q}
def aac(K:Frag)(x:V)(H:Hp)(n:Nat):Prop:=match x with|.str y=>y.length<=sizeLine/\n=y.length|.ES y=>y.size<=sizeLine/\n=y.size|.ref p=>(∃xs,jk K H p xs/\n=xs.length)\/∃xs,jc K H p xs/\n=xs.length|_=>False
theorem jo:fh X (.builtin "len") (λxs H Q=>∃x n,xs=[x]/\aac X.K x H n/\Q (.int n) H):=by intro pins s σ H xs us Q I r h;obtain⟨x,n,rfl,e,q⟩:=h;obtain⟨u,rfl,rx⟩:=vals1 r;have hl:=rT;have hs:sizeLine=16777216:=yf;cases x with|str y=>(obtain⟨t,rfl⟩:=rx;obtain⟨hy,e'⟩:y.length<=sizeLine/\n=y.length:=e;subst e';exact len_str (by lia) {.int _,H,I.tok _,{_,rfl},q})|ES y=>(obtain⟨t,rfl⟩:=rx;obtain⟨hy,e'⟩:y.size<=sizeLine/\n=y.size:=e;subst e';exact PySem.W.len_bytes (by lia) {.int _,H,I.tok _,{_,rfl},q})|ref p=>(cases rx;have e':(∃xs,jk X.K H p xs/\n=xs.length)\/∃xs,jc X.K H p xs/\n=xs.length:=e;rcases e' with⟨xs,hx,e'⟩|⟨xs,hx,e'⟩;subst e';obtain⟨ay,r',pl,hz⟩:=I.list hx;have hlen:=r'.length;exact Calls.call_len_list pl.isList (by simp only[zt];lia) {.int xs.length,H,I.tok _,{_,by simp only[zt];rw[hlen]},q};subst e';obtain⟨ay,r',pl,hz⟩:=I.tuple hx;have hlen:=r'.length;exact len_tuple pl (by simp only[zt];lia) {.int xs.length,H,I.tok _,{_,by simp only[zt];rw[hlen]},q})|_=>exact(show False from e).elim
end
structure CK(h:Heap)(x dx C:Addr)(mA:Str->Option Value):Prop where
 obj:h.get? x=some (instObj C dx)
 ns:h.Ns1 dx mA
 ne:dx≠x
theorem GU{h:Heap}{dx:Addr}{mA:Str->Option Value}(n:h.Ns1 dx mA):∃od,h.get? dx=some od/\∀name,lookIn name od=some (mA name):=by
 obtain⟨o,es,ep,ho,hd,hk,_,hm⟩:=n;refine{o,ho,λname=>?_};have e:=hm name;unfold nsFind findBy at e;rw[<-Array.find?_toList]at e;unfold lookIn;rw[hd];dsimp only;split;rename_i y q;rw[q]at e;exact congrArg some e;rename_i q;rw[q]at e;have a:es.toList.any (·.refKey)=false:=by rw[List.any_eq_false];intro y hy;obtain⟨z,t,Q1⟩:=hk y<|Array.mem_toList_iff.mp hy;simp[DictEntry.refKey,Q1]
 have a':¬es.toList.any (·.refKey)=true:=by rw[a];exact zd
 rw[if_neg a'];exact congrArg some e
theorem CK.look(I:CK h x dx C mA):∃od,PySem.W.InstAt h x (instObj C dx) C (some od)/\∀name,lookIn name od=some (mA name):=
 let ⟨od,ho,hl⟩:=GU I.ns
 ⟨od,⟨I.obj,rfl,rfl,ho⟩,hl⟩
section
variable{prog:Program}{w:World}{A:Around}{E:lc}{s:Shared}{K:Frag}{x dx C f:Addr}{mA:Str->Option Value}{name:Str}{v:Value}
theorem get_map(X:K.In s.heap)(I:CK s.heap x dx C mA)(hg:plainGet K C name=true)(hh:hasDictIn K C=true)(ha:findIn K (.ref C) name=some none)(hv:mA name=some v)(YH:handedIn v=true)(h:Q v {s with toks:=s.toks+1}): wpAny (model prog w) A (getAttr (.ref x) name expr) Q E s:=by obtain⟨od,J,hl⟩:=I.look;exact PySem.W.get_value X J (plainGet_of hg).1 (PySem.W.findObj_own hh ha rfl<|by rw[hl,hv]) YH h
theorem IZ(X:K.In s.heap)(I:CK s.heap x dx C mA)(hg:plainGet K C name=true)(hf:findIn K (.ref C) name=some (some<|.ref f))(ht:isFn K (.ref f)=true)(hv:mA name=none)(h:Q (.ref f,[.ref x]) s): wpAny (model prog w) A (getMethod (.ref x) name pl) Q E s:=by obtain⟨od,J,hl⟩:=I.look;exact PySem.W.method_fn X J (plainGet_of hg).1 (plainGet_of hg).2 hf (beq_iff_eq.mp ht) (by show(lookIn name od).map (·.isSome)=some false;rw[hl,hv];rfl) h
theorem MB(X:K.In s.heap)(I:CK s.heap x dx C mA)(hs:findIn K (.ref C) "__setattr__"= some (some<|.builtin "object.__setattr__"))(hp:plainOver K C=true)(ht:takerIn K C name=some none)(hh:hasDictIn K C=true)(hw:PySem.Within mA ns)(hsz:ns.length<=sizeLine)(h:∀h',CK h' x dx C (λy=>if y=name then some v else mA y)->Heap.SameBut dx s.heap h'->Q () {s with heap:=h',toks:=s.toks+2}): wpAny (model prog w) A (setAttr (.ref x) name v) Q E s:=by obtain⟨od,J,hl⟩:=I.look;refine PySem.W.set_plain X J hs<|PySem.W.osa_open (s:={s with toks:=s.toks+1}) (r:=none) X J hp ht λb=>?_;obtain⟨cd,hc,rN⟩:=PySem.W.any_some hh;have hx:s.heap.get? x=some {.ref C,some dx,.plain,#[]}:=I.obj;refine zc<|zA<|zc<|zc<|wpAny_loadPart hx<|zc<|PySem.W.Looks.here (s:={s with toks:=s.toks+1}) (PySem.W.looks_clsIn X hc) ?_;rw[rN];refine zA (a:=some dx)<|zc<|zA<|zc ?_;refine wpAny_nsSet1 (s:={s with toks:=s.toks+1}) I.ns λh' O5 AF=>?_;obtain⟨oD,esD,epD,hoD,hdD,hcD⟩:=O5.count<|PySem.Within.cons name v hw;refine zc<|wpAny_lookBehind hoD (by rw[hdD];exact pastItsLine_dict<|zO hcD<|by rw[zQ];lia) ?_;exact zA<|h _ {(AF.2 _<|Ne.symm I.ne).trans I.obj,O5,I.ne} AF
theorem I0(X:K.In s.heap)(hm:makesIn K C=true)(hi:findIn K (.ref C) "__init__"= some (some<|.ref f))(hf:PySem.W.typeIn K (.ref f)=some (.type "function"))(h:codeAny (model prog w) (A.under<|.builtin "type.__call__" {.ref C::vs,kw}) (.call (.ref f) {.ref (s.heap.objs.size+1)::vs,kw}) (PySem.W.InitBack (s.heap.objs.size+1) R) {s with heap:=(s.heap.push emptyDict).push<|instObj C s.heap.objs.size}): codeAny (model prog w) A (.call (.ref C) ⟨vs,kw⟩) R s:=by obtain⟨hh,g,d,t,os⟩:=s;exact PySem.W.make_core (PySem.W.makes_of X hm) (PySem.W.looks_findIn X hi) (λself=>PySem.W.bind_fn X self hf) (.inl rfl) h
end
noncomputable def putF(f:Str)(v:V):List (Str×V)->List (Str×V)|[]=>[(f,v)]| (g,x)::r=>if g=f then (g,v)::r else (g,x)::putF f v r
theorem pO(f g:Str)(v:V):∀fs:ge,(putF f v fs).lookup g=if g=f then some v else fs.lookup g|[]=>by show List.lookup g [(f,v)]=_;by_cases h:g=f;have hb:(g==f)=true:=beq_iff_eq.mpr h;simp only[List.lookup,hb,if_pos h];have hb:(g==f)=false:=beq_eq_false_iff_ne.mpr h;simp only[List.lookup,hb,if_neg h]| (k,x)::r=>by have ih:=pO f g v r;rw[show putF f v ((k,x)::r)=(if k=f then (k,v)::r else (k,x)::putF f v r) from rfl];by_cases hk:k=f;rw[if_pos hk];by_cases h:g=k;have hb:(g==k)=true:=beq_iff_eq.mpr h;simp only[List.lookup,hb,if_pos<|h.trans hk];have hb:(g==k)=false:=beq_eq_false_iff_ne.mpr h;simp only[List.lookup,hb,if_neg (λe:g=f=>h<|e.trans hk.symm)];rw[if_neg hk];by_cases h:g=k;have hb:(g==k)=true:=beq_iff_eq.mpr h;simp only[List.lookup,hb,if_neg (λe:g=f=>hk<|h.symm.trans e)];have hb:(g==k)=false:=beq_eq_false_iff_ne.mpr h;simp only[List.lookup,hb];exact ih
theorem ow(f:Str)(v:V):∀fs:ge,f∈(putF f v fs).map (·.1)/\∀g,g∈fs.map (·.1)->g∈(putF f v fs).map (·.1)|[]=>{by simp[putF],λg h=>by simp at h}| (k,x)::r=>by obtain⟨i1,i2⟩:=ow f v r;rw[show putF f v ((k,x)::r)=(if k=f then (k,v)::r else (k,x)::putF f v r) from rfl];by_cases hk:k=f;rw[if_pos hk];subst hk;exact{by simp,λg h=>by simpa using h};rw[if_neg hk];refine{?_,λg h=>?_};rw[zC];exact zg _ i1;rw[zC]at h⊢;rcases zm.mp h with e|e;exact zm.mpr<|.inl e;exact zg _<|i2 g e
theorem pP(f:Str)(v:V):∀fs:ge,(putF f v fs).length<=fs.length+1|[]=>by simp[putF]| (k,x)::r=>by have ih:=pP f v r;rw[show putF f v ((k,x)::r)=(if k=f then (k,v)::r else (k,x)::putF f v r) from rfl];by_cases hk:k=f;rw[if_pos hk,zQ,zQ];lia;rw[if_neg hk,zQ,zQ];lia
theorem fF.some_of(r:fF (some v) o):∃u,o=some u/\RelV v u:=by cases o with|none=>exact(show False from r).elim|some u=>exact⟨u,rfl,r⟩
theorem fF.none_of(r:fF none o):o=none:=by cases o with|none=>rfl|some u=>exact(show False from r).elim
theorem GV(r:RelV v u):handedIn u=true:=by cases v with|av=>(cases (show u=Value.none from r);rfl)|bl b=>(cases (show u=Value.bool b from r);rfl)|int i=>(obtain⟨t,e⟩:=(show ∃t,u=Value.int i t from r);cases e;rfl)|str x=>(obtain⟨t,e⟩:=(show ∃t,u=Value.str x t from r);cases e;rfl)|ES b=>(obtain⟨t,e⟩:=(show ∃t,u=Value.bytes b t from r);cases e;rfl)|Qu b=>(obtain⟨t,e⟩:=(show ∃t,u=Value.float b t from r);cases e;rfl)|ref a=>(cases (show u=Value.ref a from r);rfl)|ty n=>cases (show u=Value.type n from r);rfl
section
variable{P:Program}{w:World}{H:Hp}{h:Heap}{a C dx:Addr}{fs:ge}
theorem q9(aN:lN P w H h)(e:H a=some (.ins C dx fs)):∃mA,CK h a dx C mA/\(∀f,fF (fs.lookup f)<|mA f)/\PySem.Within mA (fs.map (·.1))/\fs.length<=1000/\H dx=some (.own a):=by obtain⟨d,z,ne,ob,mA,n,r,q⟩:=(show bj P w H h a (.ins C dx fs) from aN a _ e);exact{mA,⟨ob,n,ne⟩,r,q,z,d}
end
structure q_(K:Frag)(C:Addr):Prop where
 pg:plainGet K C Str.empty=true
 hd:hasDictIn K C=true
 po:plainOver K C=true
 sa:findIn K (.ref C) "__setattr__"= some (some<|.builtin "object.__setattr__")
theorem q_.get{K:Frag}{C:Addr}(c:q_ K C)(f:Str):plainGet K C f=true:=c.pg
def jq(K:Frag)(C:Addr)(f:Str):Prop:=findIn K (.ref C) f=some none
theorem jq.Vz{K:Frag}{C:Addr}{f:Str}(n:jq K C f):takerIn K C f=some none:=by unfold takerIn;rw[show findIn K (.ref C) f=some none from n];rfl
structure Con(K:Frag)(C:Addr)(f:Str)(v:V)(u:Value):Prop where
 at_:findIn K (.ref C) f=some (some u)
 rel:RelV v u
 get:specialIn K u "__get__"= some none
 cp:PySem.W.copiedNames.contains f=false
structure Meth(K:Frag)(C:Addr)(m:Str)(f:Addr):Prop where
 at_:findIn K (.ref C) m=some (some<|.ref f)
 fn:isFn K (.ref f)=true
 kp:keepIn K (.ref f)=true
section
variable{X:Cx}{pins:io}{σ:St}{H:Hp}{s:Shared}{a C dx:Addr}{fs:ge}{f:Str}{v:V}{A:Around}{E:lc}
theorem CL(I:Inv X pins σ H s)(e:H a=some (.ins C dx fs))(c:q_ X.K C)(n:jq X.K C f)(l:fs.lookup f=some v)(h:∀u s',Inv X pins σ H s'->RelV v u->Q u s'):wpAny (model X.prog X.w) A (getAttr (.ref a) f b) Q E s:=by obtain⟨mA,O,r,_,_,_⟩:=q9 I.aN e;obtain⟨u,hu,ru⟩:=fF.some_of (v:=v) (o:=mA f) (by rw[<-l];exact r f);exact get_map I.pN O (c.get f) c.hd n hu (GV ru)<|h u _ (I.tok _) ru
theorem rV(I:Inv X pins σ H s)(e:H a=some (.ins C dx fs))(c:q_ X.K C)(k:Meth X.K C m g)(l:fs.lookup m=none)(h:Q (.ref g,[.ref a]) s):wpAny (model X.prog X.w) A (getMethod (.ref a) m pl) Q E s:=by obtain⟨mA,O,r,_,_,_⟩:=q9 I.aN e;have hn:mA m=none:=fF.none_of (by rw[<-l];exact r m);exact IZ I.pN O (c.get m) k.at_ k.fn hn h
theorem CM(I:Inv X pins σ H s)(e:H a=some (.ins C dx fs))(c:q_ X.K C)(n:jq X.K C f)(hl:fs.length<1000)(ry:RelV y u)(h:∀s',Inv X pins σ (upd H a<|.ins C dx<|putF f y fs) s'->Q () s'):wpAny (model X.prog X.w) A (setAttr (.ref a) f u) Q E s:=by
 obtain⟨mA,O,r,wi,_,ho⟩:=q9 I.aN e;have hz:(fs.map (·.1)).length<=sizeLine:=by rw[zb,yf];lia
 refine MB I.pN O c.sa c.po n.Vz c.hd wi hz λh' O' sb=>h _ ?_;have hd:∃o,h'.get? dx=some o:=by obtain⟨o,_,_,e',_⟩:=O'.ns;exact⟨o,e'⟩
 refine I.write (x:=a) (e:=dx) (by rw[e];exact True.intro) (.inr ho) (λb q hb z=>(sb.2 b hb).trans z) hd ?_;refine{by rw[az O.ne];exact ho,?_,O.ne,O'.obj,_,O'.ns,λg=>?_,λg hg=>?_};have:=pP f y fs;lia;show fF ((putF f y fs).lookup g) (if g=f then some u else mA g);rw[pO];by_cases q:g=f;rw[if_pos q,if_pos q];exact ry;rw[if_neg q,if_neg q];exact r g;by_cases q:g=f;rw[q];exact(ow f y fs).1;refine(ow f y fs).2 g<|wi g λz=>hg ?_;show(if g=f then some u else mA g)=none;rw[if_neg q];exact z
theorem Inv.made(I:Inv X pins σ H s):Inv X pins σ (upd (upd H s.heap.objs.size<|.own<|s.heap.objs.size+1) (s.heap.objs.size+1)<|.ins C s.heap.objs.size []) {s with heap:=(s.heap.push emptyDict).push<|instObj C s.heap.objs.size}:=by
 have e1:(s.heap.push emptyDict).get? s.heap.objs.size=some emptyDict:=zk s.heap rfl;have e2:((s.heap.push emptyDict).push<|instObj C s.heap.objs.size).get? (s.heap.objs.size+1)=some (instObj C s.heap.objs.size):=by have:=zk (s.heap.push emptyDict) (o:=instObj C s.heap.objs.size) rfl;rwa [yd]at this
 have e3:(s.heap.push emptyDict).Ns s.heap.objs.size (λ_=>none):={emptyDict,#[],_,e1,rfl,(λe he=>absurd he<|by simp),λ_=>rfl};have I1:=I.laid (a:=s.heap.objs.size) (o:=.own<|s.heap.objs.size+1) (h':=s.heap.push emptyDict) (t':=s.toks) (λb u q=>za _ q) (zq _) {_,e1};refine I1.laid (a:=s.heap.objs.size+1) (o:=.ins C s.heap.objs.size []) (t':=s.toks) (λb u q=>za _ q) (Nat.le_of_eq<|yd _ _) ?_;have ne:s.heap.objs.size≠s.heap.objs.size+1:=zG<|Nat.lt_succ_self _;refine{by rw[az ne,aE],zV _,ne,e2,λ_=>none,(Heap.Ns1.of_empty e3).at λo q=>za _ q,λ_=>True.intro,λy hy=>absurd rfl hy}
theorem MC(hb:attributeBase e f env (eval e env)=eval e env)(h:wpAny (model prog w) A (eval e env) (λo aU=>wpAny (model prog w) A (getAttr o f true) Q E aU) E s):wpAny (model prog w) A (eval (.Attribute e f pos) env) Q E s:=Attribute_any_ h<|by rw[arm_eval_Attribute,hb]
end
def aad(K:Frag)(ta:TE)(f:Str):TE:=λσ H Q=>ta σ H λx H1=>∃a C dx fs v,x=.ref a/\H1 a=some (.ins C dx fs)/\q_ K C/\jq K C f/\fs.lookup f=some v/\Q v H1
def aae(K:Frag)(ta tv:TE)(f:Str):TS:=λD σ H=>tv σ H λy H1=>ta σ H1 λx H2=>∃a C dx fs,x=.ref a/\H2 a=some (.ins C dx fs)/\q_ K C/\jq K C f/\fs.length<1000/\D.nx σ (upd H2 a<|.ins C dx<|putF f y fs)
section
variable{X:Cx}{o e value:Expr}{f:Str}{pos pos':Pos}{ta tv:TE}
theorem Q2(he:PE X e ta)(hb:attributeBase e f X.env (eval e X.env)=eval e X.env):PE X (.Attribute e f pos) (aad X.K ta f):=by intro pins s σ H Q I h;refine MC hb<|bb (he pins s σ H _ I h) ?_;rintro u s1 ⟨x,H1,I1,rx,a,C,dx,fs,v,ex,ea,c,n,l,q⟩;subst ex;obtain rfl:u=Value.ref a:=rx;exact CL I1 ea c n l λu' s2 I2 ru=>⟨v,H1,I2,ru,q⟩
theorem Q3(ha:PE X o ta)(hv:PE X value tv)(hs:swapsWith value (some<|.Attribute o f pos') pos.line X.env=pure false):PS X (.Assign [.Attribute o f pos'] value pos) (aae X.K ta tv f):=by intro pins s σ H D I h;refine plainObj_wpAny_Assign_Attribute (bb (hv pins s σ H _ I h) λu s1 ⟨y,H1,I1,ry,q⟩=>bb (ha pins s1 σ H1 _ I1 q) λov s2 ⟨x,H2,I2,rx,a,C,dx,fs,ex,ea,c,n,l,q2⟩=>?_) hs;subst ex;obtain rfl:ov=Value.ref a:=rx;exact CM I2 ea c n l ry λs3 I3=>{σ,_,I3,q2}
end
section
variable{X:Cx}{pins:io}{σ:St}{H:Hp}{s:Shared}{A:Around}{E Q:lc}{c:Value}{b:Bool}
inductive ox(K:Frag)(H:Hp):V->Value->Prop where
 |av:ox K H .av (.type "NoneType")
 |bl (x:Bool):ox K H (.bl x) (.type "bool")
 |int (i:Int):ox K H (.int i) (.type "int")
 |str (x:Str):ox K H (.str x) (.type "str")
 |Qu (x:UInt64):ox K H (.Qu x) (.type "float")
 |lst {a:Addr}{xs:cr} (e:H a=some (.lst xs)):ox K H (.ref a) (.type "list")
 |lM {a:Addr}{o:Obj}{xs:cr} (e:H a=some (.lM o<|.lst xs)):ox K H (.ref a) (.type "list")
 |tup {a:Addr}{xs:cr} (e:H a=some (.tup xs)):ox K H (.ref a) (.type "tuple")
 |dK {a:Addr}{kvs:fv} (e:H a=some (.dK kvs)):ox K H (.ref a) (.type "dict")
 |dT {a:Addr}{kvs:List<|List Key×V} (e:H a=some (.dT kvs)):ox K H (.ref a) (.type "dict")
 |ins {a C dx:Addr}{fs:ge} (e:H a=some (.ins C dx fs)) (cl:q_ K C) (ha:findIn K (.ref C) "__class__"= some (some<|.builtin "object.__class__"))
   (hn:specialIn K (.builtin "object.__class__") "__get__"= some (some<|.builtin "getset_descriptor.__get__")) (htk:PySem.W.takesIn K (.builtin "object.__class__")=some true)
   (hm:mroIn K C (.type "object")=some true):ox K H (.ref a) (.ref C)
theorem GW{u t:Value}(I:Inv X pins σ H s)(rx:RelV x u)(ty:ox X.K H x t)(e:kitOne X.K t c=some b)(h:∀tk,Q (.bool b) {s with toks:=tk}): wpAny (model X.prog X.w) A (call (.builtin "isinstance") [u,c]) Q E s:=by cases ty with|av=>(cases (show u=Value.none from rx);exact kia_one PySem.W.kitx_none I.pN True.intro e (λz=>nomatch z) h)|bl y=>(cases (show u=Value.bool y from rx);exact kia_one PySem.W.kitx_bool I.pN True.intro e (λz=>nomatch z) h)|int i=>(obtain⟨t,q⟩:=(show ∃t,u=Value.int i t from rx);cases q;exact kia_one PySem.W.kitx_int I.pN True.intro e (λz=>nomatch z) h)|str y=>(obtain⟨t,q⟩:=(show ∃t,u=Value.str y t from rx);cases q;exact kia_one PySem.W.kitx_str I.pN True.intro e (λz=>nomatch z) h)|Qu y=>(obtain⟨t,q⟩:=(show ∃t,u=Value.float y t from rx);cases q;exact kia_one PySem.W.kitx_float I.pN True.intro e (λz=>nomatch z) h)|@lst a xs ea=>(cases (show u=Value.ref a from rx);obtain⟨_,_,n,_,h1⟩:=(show bj X.prog X.w H s.heap a (.lst xs) from I.aN a _ ea);exact kia_one kitx_list I.pN {_,h1,rfl} e (λz=>nomatch z) h)|@lM a ob xs ea=>(cases (show u=Value.ref a from rx);obtain⟨_,_,_,n,_,h1⟩:=(show bj X.prog X.w H s.heap a (.lM ob<|.lst xs) from I.aN a _ ea);exact kia_one kitx_list I.pN {_,h1,rfl} e (λz=>nomatch z) h)|@tup a xs ea=>(cases (show u=Value.ref a from rx);obtain⟨_,_,_,p⟩:=(show bj X.prog X.w H s.heap a (.tup xs) from I.aN a _ ea);obtain⟨o,h1,h2,_⟩:=p;exact kia_one PySem.W.kitx_tuple I.pN ⟨o,h1,h2⟩ e (λz=>nomatch z) h)|@dK a kvs ea=>(cases (show u=Value.ref a from rx);obtain⟨_,_,vs,_,p⟩:=(show bj X.prog X.w H s.heap a (.dK kvs) from I.aN a _ ea);obtain⟨o,es,ep,h1,h2,_⟩:=p;exact kia_one PySem.W.kitx_dict I.pN ⟨o,h1,h2.1⟩ e (λz=>nomatch z) h)|@dT a kvs ea=>exact False.elim (show bj X.prog X.w H s.heap a (.dT kvs) from I.aN a _ ea)|@ins a C dx fs ea cl ha hn htk hm=>cases (show u=Value.ref a from rx);obtain⟨mA,O,_⟩:=q9 I.aN ea;obtain⟨od,J,_⟩:=O.look;exact kia_one (PySem.W.kitx_own (cl.get _) cl.hd ha hn htk hm) I.pN J e (λz=>nomatch z) h
end
structure bO(k:Nat)(A:Around):Prop where
 hd:A.handled=none
 dp:A.depth+3*k+5<recursionLimit
 un:A.units+16*k+200<cLine
theorem bO.mono(r:bO k A)(h:j<=k):bO j A:={r.hd,by have:=r.dp;lia,by have:=r.un;lia}
theorem bO.deeper(r:bO (k+1) A)(env:Env):bO k (A.deeper env):={r.hd,by have:=r.dp;show A.depth+1+3*k+5<_;lia,by have:=r.un;show A.units+3+16*k+200<_;lia}
theorem bO.in1(r:bO (k+1) A):bO k A.in1:={r.hd,by have:=r.dp;show A.depth+3*k+5<_;lia,by have:=r.un;show A.units+1+16*k+200<_;lia}
theorem CO{A:Around}{C:Addr}{us:dL}{kw:pc} : (A.under<|.builtin "type.__call__" {.ref C::us,kw}).depth=A.depth+1:=by first|rfl|simp[Around.under,Code.weight,Code.isCreation,Code.isGuard,Code.isCaller,Code.frames,Code.isFrame,guardIds]
theorem CP{A:Around}{C:Addr}{us:dL}{kw:pc} : (A.under<|.builtin "type.__call__" {.ref C::us,kw}).units=A.units+1:=by first|rfl|simp[Around.under,Code.cUnits,Code.frames,Code.isFrame]
theorem bO.make(r:bO (k+1) A)(C:Addr)(us:dL)(kw:pc):bO k (A.under<|.builtin "type.__call__" {.ref C::us,kw}):={r.hd,by have:=r.dp;rw[CO];lia,by have:=r.un;rw[CP];lia}
theorem bO.depth(r:bO k A):A.depth<recursionLimit:=by have:=r.dp;lia
theorem bO.units(r:bO k A):A.units+64<cLine:=by have:=r.un;lia
def aag:TA:=λ_ H Q=>Q [] H
def O6(ta:TE)(tr:TA):TA:=λσ H Q=>ta σ H λx H1=>tr σ H1 λxs H2=>Q (x::xs) H2
section
variable{X:Cx}{e:Expr}{es:li}{te:TE}{t:TA}{pos:Pos}
theorem CQ:PA X [] aag:=λ_ _ _ _ H Q I h=>Calls.spliced_nil {[],H,I,.nil,h}
theorem MD(ha:PE X e te)(hr:PA X es t)(hs:autoParam (starEach (e::es) X.env=(false,eval e X.env)::starEach es X.env) qQJ):PA X (e::es) (O6 te t):=by intro pos pins s σ H Q I h;rw[hs];show wpAny _ _ (spliced<|(false,eval e X.env)::backTo pos (starEach es X.env)) _ _ s;refine yF<|bb (ha pins s σ H _ I h) ?_;rintro u s1 ⟨x,H1,I1,r1,q1⟩;exact bb (hr pos pins s1 σ H1 _ I1 q1) <| by rintro us s2 ⟨xs,H2,I2,r2,q2⟩;exact{x::xs,H2,I2,.cons r1 r2,q2}
def aah(t:TA):TE:=λσ H Q=>t σ H λxs H1=>xs.length<=sizeLine/\∀p,H1 p=none->Q (.ref p) (upd H1 p<|.tup xs)
def aai(t:TA):TE:=λσ H Q=>t σ H λxs H1=>xs.length<=sizeLine/\∀p,H1 p=none->Q (.ref p) (upd H1 p<|.lst xs)
theorem Q4{x1}(h:PA X es t):PE X (.Tuple es x1 pos) (aah t):=by intro pins s σ H Q I hq;refine wpAny_Tuple_spliced<|bb (h pos pins s σ H _ I hq) λus s1 ⟨xs,H1,I1,r,z,q⟩=>{by rw[<-r.length];exact z,?_};have hf:H1 s1.heap.objs.size=none:=I1.aN.fresh<|zq _;refine{.ref s1.heap.objs.size,upd H1 s1.heap.objs.size<|.tup xs,I1.laid (t':=s1.toks) (λb u e=>za _ e) (zq _) ?_,rfl,q _ hf};exact{z,us,r,{_,zk _ rfl,rfl,rfl,_,rfl}}
theorem Q5(h:PA X es t):PE X (.List es pos) (aai t):=by intro pins s σ H Q I hq;refine wpAny_List_spliced<|bb (h pos pins s σ H _ I hq) λus s1 ⟨xs,H1,I1,r,z,q⟩=>{by rw[<-r.length];exact z,?_};have hf:H1 s1.heap.objs.size=none:=I1.aN.fresh<|zq _;refine{.ref s1.heap.objs.size,upd H1 s1.heap.objs.size<|.lst xs,I1.laid (t':=s1.toks) (λb u e=>za _ e) (zq _) ?_,rfl,q _ hf};exact{z,us,0,r,zk _ rfl}
end
abbrev Sp:=List V->Hp->VK->XK->Prop
abbrev CT:=List Env->Hp->Shared->XK->Value->Shared->Prop
structure AG(P:Program)(w:World)(K:Frag)(mg:Str->Option Value)(base:Heap)(A:Around)(outer:jp)(s:Shared)(H:Hp):Prop where
 frames:A.frames=some outer
 mod:Mod K mg base
 bs:∀b o,base.get? b=some o->s.heap.get? b=some o/\H b=none
 Ml:base.objs.size<=s.heap.objs.size
 qy:s.heap.FunFrames base outer
 Qx:∀b∈om outer,H b=none
 aN:lN P w H s.heap
 bare:AllBare s.gens
def CE(outer:jp)(P:Program)(w:World)(H:Hp)(s:Shared)(Q:VK)(u:Value)(s':Shared):Prop:=∃v H',s'.os=s.os/\AllBare s'.gens/\Un (om outer) [] H H' s.heap s'.heap/\lN P w H' s'.heap/\RelV v u/\Q v H'
def CR(CX:CT)(outer:jp)(P:Program)(w:World)(H:Hp)(s:Shared)(Q:VK)(E:XK)(r:Result)(s':Shared):Prop:=match r with|.ok (.ret u)=>CE outer P w H s Q u s'|.ok _=>False|.error e=>CX outer H s E e s'
structure bG(P:Program)(w:World)(K:Frag)(mg:Str->Option Value)(base:Heap)(CX:CT)(k:Nat)(f:Addr)(fd:FuncData)(ps:j4)(sp:Sp):Prop where
 len:∀vs H Q E,sp vs H Q E->vs.length=ps.length
 run:∀(A:Around)(outer:jp)(s:Shared)(H:Hp)(args:Args)(us:dL)(vs:cr)(Q:VK)(E:XK),bO k A->AG P w K mg base A outer s H->BindsTo s fd args (ps.zip us)->Vals vs us->sp vs H Q E ->
  codeAny (model P w) A (.call (.ref f) args) (CR CX outer P w H s Q E) s
theorem bG.mono{P:Program}{w:World}{K:Frag}{mg:Str->Option Value}{base:Heap}{CX:CT}{j k:Nat}{f:Addr}{fd:FuncData}{ps:j4}{sp:Sp}(F:bG P w K mg base CX j f fd ps sp)(h:j<=k): bG P w K mg base CX k f fd ps sp:={F.len,λA outer s H args us vs Q E hr=>F.run A outer s H args us vs Q E<|hr.mono h}
theorem bG.imp{P:Program}{w:World}{K:Frag}{mg:Str->Option Value}{base:Heap}{CX:CT}{k:Nat}{f:Addr}{fd:FuncData}{ps:j4}{sp YI:Sp}(F:bG P w K mg base CX k f fd ps sp)(h:∀vs H Q E,YI vs H Q E->sp vs H Q E):bG P w K mg base CX k f fd ps YI:={λvs H Q E q=>F.len vs H Q E<|h _ _ _ _ q,λA outer s H args us vs Q E hr he hb hv hs=>F.run A outer s H args us vs Q E hr he hb hv<|h _ _ _ _ hs}
theorem AG.make{P:Program}{w:World}{K:Frag}{mg:Str->Option Value}{base:Heap}{A:Around}{outer:jp}{s:Shared}{H:Hp}(e:AG P w K mg base A outer s H)(C:Addr)(us:dL)(kw:pc): AG P w K mg base (A.under<|.builtin "type.__call__" {.ref C::us,kw}) outer s H:={by first|exact e.frames|(simpa [Around.under,Code.envs,Code.isFrame,pushEnvs]using e.frames),e.mod,e.bs,e.Ml,e.qy,e.Qx,e.aN,e.bare}
section
variable{X:Cx}{pins:io}{σ:St}{H:Hp}{s s':Shared}
theorem Inv.VA(I:Inv X pins σ H s):AG X.prog X.w X.K X.mg X.base X.A X.stack s H:={I.ok.frames,I.ok.mod,I.bs,zO I.ok.Ml I.sz,I.stack,I.qX,I.aN,I.bare}
theorem Inv.after(I:Inv X pins σ H s)(h:CE X.stack X.prog X.w H s Q u s'):EP X pins σ Q u s':=by obtain⟨v,H',os,bare,un,aN,r,q⟩:=h;obtain⟨hh,g,d,t,VB⟩:=s';obtain rfl:VB=s.os:=os;exact{v,H',I.call (h':=hh) (g':=g) (d':=d) (t':=t) (ch:=[]) un aN bare λb z=>absurd z<|by simp,r,q}
end
def Binds(K:Frag)(fd:FuncData)(ps:j4)(ds:dL):Prop:=∀(s:Shared)(us:dL),K.In s.heap->(us++ds).length=ps.length->BindsTo s fd {us,[]} (ps.zip<|us++ds)
theorem Binds.all{K:Frag}{fd:FuncData}{ps:j4}(h:∀us:dL,us.length=ps.length->bindArgs fd {us,[]}=pure (ps.zip us)):Binds K fd ps []:=λs us _ hl=>by rw[yJ]at hl⊢;exact .of_eq<|h us hl
def Passes(CX:CT)(X:Cx)(E:XK):Prop:=∀(pins:io)(σ:St)(H:Hp)(s:Shared)(e:Value)(s':Shared),Inv X pins σ H s->CX X.stack H s E e s'->X.xe e s'
section
variable{f C:Addr}
structure Mk(K:Frag)(C f:Addr):Prop where
 makes:makesIn K C=true
 init:findIn K (.ref C) "__init__"= some (some<|.ref f)
 fn:isFn K (.ref f)=true
 kp:keepIn K (.ref C)=true
end
section
variable{fd:FuncData}{ps ks:j4}
structure aaj(K:Frag)(fd:FuncData)(ps ks:j4)(g:List Value->List Value->List Value)(gV:List V->List V->List V):Prop where
 to:∀(s:Shared)(us ws:dL),K.In s.heap->(g us ws).length=ps.length->BindsTo s fd {us,ks.zip ws} (ps.zip<|g us ws)
 rel:∀{vs:cr}{us:dL}{zs:cr}{ws:dL},Vals vs us->Vals zs ws->Vals (gV vs zs) (g us ws)
variable{g:List Value->List Value->List Value}{gV:List V->List V->List V}
end
structure gk(N P:j4)(sc:Scope):Prop where
 kind:sc.kind=.function
 co:sc.isCoroutine=false
 gen:sc.isGenerator=false
 nd:N.Nodup
 pre:N.take P.length=P
 par:∀x∈P,sc.names.lookup x=some .local\/sc.names.lookup x=some .cell
 Q6:∀y∈sc.names,y.2≠.free
theorem vi{kindOf:Str->Option NameKind}{x:Str} : ∀{binds:pc}{m:Str->Option Value},(∀v,(x,v)∉binds)->bindL kindOf binds m x=m x
 |[],_,_=>rfl
 | (n,v)::r,m,h=>by
  unfold bindL;rw[vi λw hw=>h w<|zg _ hw];split;have:x≠n:=by rintro rfl;exact h v zj
  simp[this];rfl
theorem vj{kindOf:Str->Option NameKind}{x:Str} : ∀{binds:pc}{m:Str->Option Value},(∀v,(x,v)∉binds)->bindC kindOf binds m x=m x
 |[],_,_=>rfl
 | (n,v)::r,m,h=>by
  unfold bindC;rw[vj λw hw=>h w<|zg _ hw];split;rfl;have:x≠n:=by rintro rfl;exact h v zj
  simp[this]
theorem vk{kindOf:Str->Option NameKind}{x:Str}{v:Value} : ∀{P:j4}{vs:dL}{i:Nat}{m:Str->Option Value},P.Nodup->P[i]?=some x->vs[i]?=some v->kindOf x=some .local->bindL kindOf (P.zip vs) m x=some v|[],_,_,_,_,h,_,_=>by simp at h|_::_,[],_,_,_,_,h,_=>by simp at h|p::P,w::vs,0,m,nd,h1,h2,hk=>by simp at h1 h2;subst h1;subst h2;show bindL kindOf ((p,w)::P.zip vs) m p=_;unfold bindL;rw[vi λv hv=>(yq.mp nd).1 (List.of_mem_zip hv).1,if_pos hk];simp|p::P,w::vs,i+1,m,nd,h1,h2,hk=>by show bindL kindOf ((p,w)::P.zip vs) m x=_;unfold bindL;exact vk (i:=i) (yq.mp nd).2 (by simpa using h1) (by simpa using h2) hk
theorem vm{kindOf:Str->Option NameKind}{x:Str}{v:Value} : ∀{P:j4}{vs:dL}{i:Nat}{m:Str->Option Value},P.Nodup->P[i]?=some x->vs[i]?=some v->kindOf x≠some .local->bindC kindOf (P.zip vs) m x=some v|[],_,_,_,_,h,_,_=>by simp at h|_::_,[],_,_,_,_,h,_=>by simp at h|p::P,w::vs,0,m,nd,h1,h2,hk=>by simp at h1 h2;subst h1;subst h2;show bindC kindOf ((p,w)::P.zip vs) m p=_;unfold bindC;rw[vj λv hv=>(yq.mp nd).1 (List.of_mem_zip hv).1,if_neg hk];simp|p::P,w::vs,i+1,m,nd,h1,h2,hk=>by show bindC kindOf ((p,w)::P.zip vs) m x=_;unfold bindC;exact vm (i:=i) (yq.mp nd).2 (by simpa using h1) (by simpa using h2) hk
def start(N:j4)(vs:cr):St:=vs.map some++List.replicate (N.length-vs.length) none
def kC(CX:CT)(P:Program)(w:World)(K:Frag)(mg:Str->Option Value)(base:Heap)(N:j4)(qual:Str)(scope:Scope)(f:Addr)(cd:Value)(A:Around)(outer:jp)(s:Shared)(H:Hp)(E:XK):Cx where
 prog:=P
 w:=w
 K:=K
 mg:=mg
 base:=base
 A:=A.deeper<|envOfC qual scope s.heap.objs.size f cd
 N:=N
 dw:=s
 wG:=H
 env:=envOfC qual scope s.heap.objs.size f cd
 outer:=outer
 stack:=envOfC qual scope s.heap.objs.size f cd::outer
 ex:=[]
 calm:=true
 fn:=λ_=>true
 pn:=[]
 xe:=λe s'=>wpAny (model P w) (A.deeper<|envOfC qual scope s.heap.objs.size f cd) (leaving (envOfC qual scope s.heap.objs.size f cd) e) (λ_ CU=>CX outer H s E e CU) (λe' CU=>CX outer H s E e' CU) s'
theorem AH{sc:Scope}{n:Nat}{x:Str}(h:sc.names.lookup x=some .cell):∃c,(cellsFrom n sc.names []).lookup x=some c:=by have q:=PySem.W.cellsFrom_some sc.names n []<|.inl h;exact Option.isSome_iff_exists.mp q
theorem GX{CX:CT}{P:Program}{w:World}{K:Frag}{mg:Str->Option Value}{base:Heap}{N ps:j4}{qual:Str}{scope:Scope}{f:Addr}{cd:Value}{A:Around}{outer:jp}{s s1:Shared}{H:Hp}{E:XK}{us:dL}{vs:cr}(S:gk N ps scope)(hd:A.handled=none)(e0:AG P w K mg base A outer s H)(hl:vs.length=ps.length)(r:Vals vs us)(x:InCallC s s.heap.objs.size (bindL (envOfC qual scope s.heap.objs.size f cd).kindOf (ps.zip us) λ_=>none) (cellsFrom (s.heap.objs.size+1) scope.names []) (bindC (envOfC qual scope s.heap.objs.size f cd).kindOf (ps.zip us) λ_=>none) s1): Inv (kC CX P w K mg base N qual scope f cd A outer s H E) [] (start N vs) H s1:=by
 have dy:ps.length<=N.length:=by have:=congrArg List.length S.pre;rw[ym]at this;lia
 obtain⟨h1,tk,rfl,hk⟩:=x.done;have ME:∀b:Addr,b∉(kC CX P w K mg base N qual scope f cd A outer s H E).ex:=λb z=>absurd (show b∈([]:im) from z) (by simp);refine{{e0.mod,S.kind,rfl,rfl,zq _,λy z c h1 h2=>?_,λy hy=>?_,λy c _ h=>?_,λ_=>hd,Around.frames_deeper e0.frames,.inr ⟨rfl,rfl⟩,λb z=>absurd z<|ME b,e0.bs,e0.Ml,λb _ _=>ME b,λb z=>absurd z<|ME b,e0.qy,e0.Qx},rfl,e0.bare,Un.kept hk,{_,x.toInCall.ns,λi y v h1 h2 h3=>?_},λy c h=>{_,x.cell y c h},e0.aN.fresh<|zq _,λy c h=>?_,λp hp=>absurd (show p∈([]:io) from hp)<|by simp,e0.aN.kept hk,?_};exact name_of_addr x.apart (yi h1)<|yi h2;have hy:scope.names.lookup y=some .cell\/scope.names.lookup y=some .free:=hy;rcases hy with hy|hy;exact AH hy;exact absurd rfl<|S.Q6 _<|yi hy;exact yP<|x.above y c<|yi h;have hi:i<vs.length:=by unfold start at h2;by_cases hi:i<vs.length;exact hi;rw[List.getElem?_append_right<|by simpa using hi]at h2;rw[List.getElem?_replicate]at h2;split at h2<;>cases h2
 have ha:vs[i]?=some v:=by unfold start at h2;rw[List.getElem?_append_left<|by simpa using hi,zh]at h2;cases e:vs[i]? with|none=>(rw[e]at h2;cases h2)|some a=>rw[e]at h2;cases h2;rfl
 obtain⟨u,hu,rv⟩:=r.get ha;have hp:ps[i]?=some y:=by rw[<-S.pre,List.getElem?_take_of_lt<|by lia];exact h1
 have ndP:ps.Nodup:=by rw[<-S.pre];exact S.nd.sublist<|List.take_sublist _ _
 refine{u,rv,?_};rcases S.par y (zp hp) with k|k;exact .inl {k,vk ndP hp hu k};obtain⟨c,e⟩:=AH (n:=s.heap.objs.size+1) k;refine .inr {.inl k,c,e,?_};have q:=x.cell y c e;rw[vm ndP hp hu<|by show scope.names.lookup y≠_;rw[k];decide]at q;exact q;exact e0.aN.fresh<|yP<|x.above y c<|yi h;unfold start;show _=N.length;rw[zD,zb,List.length_replicate];lia
theorem O7{CX:CT}{P:Program}{w:World}{K:Frag}{mg:Str->Option Value}{base:Heap}{k:Nat}{f:Addr}{name qual:Str}{params:Arguments}{body:mt}{scope:Scope}{dV kV doc pm gT ct oc:Value}{an od:pi}{Q7:Array<|Option Value}{N ps:j4}{sp:Sp}(lk:K.lookup f=some {oc,od,.func<|fnOf name qual params body scope dV kV doc pm an gT ct,Q7})(uh:codeIn K gT qual=true)(S:gk N ps scope)(len:∀vs H Q E,sp vs H Q E->vs.length=ps.length)(mD:∀(A:Around)(outer:jp)(s:Shared)(H:Hp)(vs:cr)(Q:VK)(E:XK),bO k (A.deeper<|envOfC qual scope s.heap.objs.size f gT)->sp vs H Q E->∃t,ET (kC CX P w K mg base N qual scope f gT A outer s H E) body t/\t {nx:=λ_ H'=>Q .av H',rt:=Q} (start N vs) H): bG P w K mg base CX (k+1) f (fnOf name qual params body scope dV kV doc pm an gT ct) ps sp:=by
 refine{len,λA outer s H args us vs Q E hr e0 hb r Uq=>?_};have hl:=len _ _ _ _ Uq;have KX:K.In s.heap:=e0.mod.Up.keeps λb o e=>(e0.bs b o e).1;have lim:s.heap.NoLimit:=e0.mod.nolimit.keeps λb o e=>(e0.bs b o e).1;have VC:∀y∈ps.zip us,scope.names.lookup y.1=some .local\/(scope.names.lookup y.1=some .cell/\((cellsFrom (s.heap.objs.size+1) scope.names []).lookup y.1).isSome=true):=by rintro⟨n,v⟩ hy;rcases S.par n (List.of_mem_zip hy).1 with q|q;exact .inl q;exact .inr {q,PySem.W.cellsFrom_some _ _ _<|.inl q}
 refine codeAny_call_function hr.depth (KX _ _ lk) rfl S.co S.gen rfl (PySem.W.codeRec_of KX uh)<|hb _ _ _ _ ?_;refine wpAny_newFunctionEnv_cells S.kind VC λenv he s1 x=>?_;subst he;refine{lim.keeps x.toInCall.keep,codeAny_func ?_};obtain⟨t,ht,hq⟩:=mD A outer s H vs Q E (hr.deeper _) Uq;have I:Inv (kC CX P w K mg base N qual scope f gT A outer s H E) [] (start N vs) H s1:=GX S hr.hd e0 hl r x;refine yw (ht [] s1 (start N vs) H _ I hq) (λfl s' hs=>?_) λe s' hs=>hs;have fin:∀{aG:St}{H':Hp}{v:V}{u:Value},Inv (kC CX P w K mg base N qual scope f gT A outer s H E) [] aG H' s'->RelV v u->Q v H'->CE outer P w H s Q u s':=λ{aG H' v u} J rv q=>⟨v,H',J.os,J.bare,J.base,J.aN,rv,q⟩;cases fl with|ret u=>(obtain⟨v,aG,H',J,rv,q⟩:=hs;exact fin J rv q)|next=>(obtain⟨aG,H',J,q⟩:=hs;exact fin (v:=V.av) (u:=Value.none) J rfl q)|brk=>(obtain⟨_,_,_,q⟩:=hs;exact False.elim q)|cont=>obtain⟨_,_,_,q⟩:=hs;exact False.elim q
section
variable{X:Cx}{x:Str}{p pos:Pos}{e:Expr}{es:li}{t:TA}{id T:String}{r:List V->Hp->VK->Prop}
def tCB(r:List V->Hp->VK->Prop)(t:TA):TE:=λσ H Q=>t σ H λvs H1=>r vs H1 Q
theorem AI(hc:fh X (.builtin id) r)(hg:Gl X x)(hm:X.mg x=none)(hv:bootBuiltins x=some (.builtin id))(ha:PA X (e::es) t)(hn:autoParam (x≠"__name__") qQZ)(qB:autoParam ((x==("__debug__": Str))=false) qQZ)(he:autoParam (starEach (e::es) X.env=(false,eval e X.env)::starEach es X.env) qQJ)(dy:autoParam ((backTo pos<|starEach es X.env).any (·.1)=false) qQJ):PE X (.Call (.Name x p) (e::es) [] pos) (tCB r t):=by intro pins s σ H Q I h;refine wpAny_Call_Name_kw<|gC I hg hm hv ?_ hn qB;exact PyProof.Rows.callWith_builtin1 (bb (ha pos pins s σ H _ I h) <| by rintro us s1 ⟨vs,H1,I1,r1,q1⟩;exact hc pins s1 σ H1 vs us Q I1 r1 q1) he dy
theorem vo(hc:fh X (.type T) r)(hg:Gl X x)(hm:X.mg x=none)(hv:bootBuiltins x=some (.type T))(ha:PA X (e::es) t)(hn:autoParam (x≠"__name__") qQZ)(qB:autoParam ((x==("__debug__": Str))=false) qQZ)(he:autoParam (starEach (e::es) X.env=(false,eval e X.env)::starEach es X.env) qQJ)(dy:autoParam ((backTo pos<|starEach es X.env).any (·.1)=false) qQJ):PE X (.Call (.Name x p) (e::es) [] pos) (tCB r t):=by intro pins s σ H Q I h;refine wpAny_Call_Name_kw<|gC I hg hm hv ?_ hn qB;exact PyProof.Rows.callWith_type1 (bb (ha pos pins s σ H _ I h) <| by rintro us s1 ⟨vs,H1,I1,r1,q1⟩;exact hc pins s1 σ H1 vs us Q I1 r1 q1) he dy
end
end L2
namespace HT
open PySem PyProof.Rows
section
noncomputable def sIx(n d:Nat):Option Int->Nat|none=>d|some v=>if v<0 then (v+(n:Int)).toNat else min v.toNat n
theorem sIx_none(n d:Nat):sIx n d none=d:=rfl
theorem sIx_nat(n d k:Nat):sIx n d (some (k:Int))=min k n:=by show(if (k:Int)<0 then ((k:Int)+(n:Int)).toNat else min (k:Int).toNat n)=min k n;rw[if_neg<|by lia,Int.toNat_natCast]
end
end HT
namespace L2
open PySem PySem.Spec PyProof.Rows
abbrev TO:=St->Hp->(Option Int->Hp->Prop)->Prop
def PO(X:Cx)(e:Option Expr)(t:TO):Prop:=∀(pins:io)(s:Shared)(σ:St)(H:Hp)(Q:Option Int->Hp->Prop),Inv X pins σ H s->t σ H Q->wpAny (model X.prog X.w) X.A (evalPart e X.env) (λu s'=>∃o H',Inv X pins σ H' s'/\IsPart u o/\Q o H') X.xe s
def MF:TO:=λ_ H Q=>Q none H
def VD(t:TE):TO:=λσ H Q=>t σ H λx H1=>∃i,x=.int i/\Q (some i) H1
section
variable{X:Cx}{e:Expr}{te:TE}{lo hi:Option Expr}{tl th:TO}{pos p2:Pos}
theorem MG:PO X none MF:=by intro pins s σ H Q I h;rw[evalPart_none];exact zA {none,H,I,.none,h}
theorem E3(h:PE X e te):PO X (some e) (VD te):=by intro pins s σ H Q I hw;rw[evalPart_some];refine bb (h pins s σ H _ I hw) ?_;rintro u s1 ⟨x,H1,I1,r1,q1⟩;obtain⟨i,rfl,q⟩:=q1;obtain⟨t,rfl⟩:=r1;exact{some i,H1,I1,.int i t,q}
def SlR(X:Cx)(r:V->Option Int->Option Int->Hp->VK->Prop):Prop:=∀(pins:io)(s:Shared)(σ:St)(H:Hp)(x:V)(v vl vu:Value)(lo hi:pp)(sl:Addr)(Q:VK),Inv X pins σ H s->RelV x v->s.heap.IsSliceOf sl vl vu .none->IsPart vl lo->IsPart vu hi->r x lo hi H Q->∃T id,typeLookup (.type T) "__getitem__"= pure (some<|.builtin id)/\s.TypeIs v T/\wpAny (model X.prog X.w) X.A (getItem v<|.ref sl) (EP X pins σ Q) X.xe s
def tSl(r:V->Option Int->Option Int->Hp->VK->Prop)(te:TE)(tl th:TO):TE:=λσ H Q=>te σ H λx H1=>tl σ H1 λl H2=>th σ H2 λu H3=>r x l u H3 Q
theorem I9{r:V->Option Int->Option Int->Hp->VK->Prop}(hr:SlR X r)(he:PE X e te)(hl:PO X lo tl)(hu:PO X hi th):PE X (.Subscript e (.Slice lo hi none p2) pos) (tSl r te tl th):=by intro pins s σ H Q I h;refine Subscript_<|bb (he pins s σ H _ I h) ?_;rintro v s1 ⟨x,H1,I1,r1,q1⟩;refine wpAny_Slice<|bb (hl pins s1 σ H1 _ I1 q1) λvl s2 ⟨l,H2,I2,pl,q2⟩=>bb (hu pins s2 σ H2 _ I2 q2) ?_;rintro vu s3 ⟨u,H3,I3,pu,q3⟩;rw[evalPart_none];refine zA ?_;have I4:Inv X pins σ H3 {s3 with heap:=s3.heap.push {cls:=.type "slice",data:=.fields #[vl,vu,.none]}}:=I3.kept (t':=s3.toks) λb ob q=>za _ q;obtain⟨T,id,hT,ht,hg⟩:=hr pins {s3 with heap:=s3.heap.push {cls:=.type "slice",data:=.fields #[vl,vu,.none]}} σ H3 x v vl vu l u s3.heap.objs.size Q I4 r1 (Heap.IsSliceOf.new ..) pl pu q3;show wpAny (model X.prog X.w) X.A (subscriptTail e (.Slice lo hi none p2) v<|.ref s3.heap.objs.size) (EP X pins σ Q) X.xe {s3 with heap:=s3.heap.push {cls:=.type "slice",data:=.fields #[vl,vu,.none]}};exact tail_any (ops:=[.ref s3.heap.objs.size,v]) ht hT hg<|by with_unfolding_all rfl
noncomputable def GY(xs:cr)(lo hi:pp):cr:=(xs.drop<|HT.sIx xs.length 0 lo).take<|HT.sIx xs.length xs.length hi-HT.sIx xs.length 0 lo
theorem AJ(xs:cr)(lo hi:pp):(GY xs lo hi).length<=xs.length:=by unfold GY;rw[ym,List.length_drop];lia
end
noncomputable def I_(n:Nat)(i:Int):Option Nat:=if 0<=i then (if i<n then some i.toNat else none) else if -(n:Int)<=i then some (i+n).toNat else none
noncomputable def kD{α:Type}(xs:List α)(i:Int):Option α:=(I_ xs.length i).bind λj=>xs[j]?
theorem E6(h:I_ n i=some j):seqIndex? i n=some j/\j<n/\-(n:Int)<=i/\i<n:=by unfold I_ at h;by_cases h0:0<=i;rw[if_pos h0]at h;by_cases h1:i<n;rw[if_pos h1]at h;have e:i.toNat=j:=zT h;exact{by rw[seqIndex_of h0 h1,e],by lia,by lia,h1};rw[if_neg h1]at h;cases h;rw[if_neg h0]at h;by_cases h1:-(n:Int)<=i;rw[if_pos h1]at h;have e:(i+n).toNat=j:=zT h;exact{by rw[seqIndex_neg (by lia) h1,e],by lia,h1,by lia};rw[if_neg h1]at h;cases h
theorem wH(h:kD xs i=some v):∃j,seqIndex? i xs.length=some j/\xs[j]?=some v/\j<xs.length/\-(xs.length:Int)<=i/\i<xs.length:=by unfold kD at h;cases e:I_ xs.length i with|none=>(rw[e]at h;cases h)|some j=>rw[e]at h;obtain⟨h1,h2,h3,h4⟩:=E6 e;exact⟨j,h1,h,h2,h3,h4⟩
theorem cE{α:Type}{xs:List α}{j:Nat}{v:α}(h:xs[j]?=some v):kD xs (j:Int)=some v:=by
 have hj:j<xs.length:=(zf.mp h).1;have e:I_ xs.length (j:Int)=some j:=by unfold I_;rw[if_pos<|by lia,if_pos<|by lia];simp
 unfold kD;rw[e];exact h
def E7(b:Expr):Prop:=∀o i,subscripted b false o i=operate [o,i] (getItem o i)
def VE(X:Cx)(r:R2):Prop:=∀(value slice:Expr)(pins:io)(s:Shared)(σ:St)(H:Hp)(x y:V)(v u:Value)(Q:VK),Inv X pins σ H s->RelV x v->RelV y u->r x y H Q->subscripted slice false v u=operate [v,u] (getItem v u)->wpAny (model X.prog X.w) X.A (subscriptTail value slice v u) (EP X pins σ Q) X.xe s
def Ur(X:Cx)(id:String)(r:V->List V->Hp->VK->Prop):Prop:=∀(pins:io)(s:Shared)(σ:St)(H:Hp)(x:V)(xs:cr)(v:Value)(us:dL)(Q:VK),Inv X pins σ H s->RelV x v->Vals xs us->r x xs H Q->wpAny (model X.prog X.w) X.A (call (.builtin id)<|v::us) (EP X pins σ Q) X.xe s
section
variable{X:Cx}{a b:Expr}{ta tb:TE}{pos:Pos}
theorem VF(hr:VE X r)(ha:PE X a ta)(hb:PE X b tb)(hs:E7 b):PE X (.Subscript a b pos) (QT r ta tb):=by intro pins s σ H Q I h;exact Subscript_<|QU ha hb I h λv u s2 x y H2 I2 rx ry q=>hr a b pins s2 σ H2 x y v u Q I2 rx ry q<|hs _ _
def aam(K:Frag):R2:=λx y H Q=>∃p xs i v,x=.ref p/\y=.int i/\jk K H p xs/\kD xs i=some v/\Q v H
def aan(K:Frag):R2:=λx y H Q=>∃p xs i v,x=.ref p/\y=.int i/\jc K H p xs/\kD xs i=some v/\Q v H
def aao:R2:=λx y H Q=>∃z i c,x=.str z/\y=.int i/\z.length<=sizeLine/\kD z.cps.toList i=some c/\Q (.str ⟨#[c]⟩) H
theorem E8:VE X (aam X.K):=by
 intro value slice pins s σ H x y v u Q I rx ry h hs;obtain⟨p,xs,i,z,rfl,rfl,hq,he,q⟩:=h;cases rx;obtain⟨t,rfl⟩:=ry;obtain⟨ay,r,pl,hz⟩:=I.list hq;obtain⟨j,h1,h2,h3,h4,h5⟩:=wH he;obtain⟨w,ew,qC⟩:=r.get h2;have hl:=r.length;have hn:=rT;have fin:EP X pins σ Q w s:=⟨z,H,I,qC,q⟩;by_cases h0:0<=i;have hj:i.toNat=j:=by rw[seqIndex_of h0 h5]at h1;exact zT h1
 exact item_listR pl.isList h0 (by lia) (by rw[hj];simpa using ew) fin hs;have hj:(i+(ay.toArray.size:Int)).toNat=j:=by rw[seqIndex_neg (by lia) h4]at h1;rw[zt,<-hl];exact zT h1
 exact subscriptTail_builtinR (x:=w) pl.isList.typeIs slot_list_getitem.lookup (wpAny_getItem_list_neg (Q:=λr s'=>r=w/\EP X pins σ Q r s') pl.isList (by lia) (by rw[zt]<;>lia) (by lia) (by rw[hj];simpa using ew) ⟨rfl,fin⟩) hs
theorem Ja:VE X (aan X.K):=by intro value slice pins s σ H x y v u Q I rx ry h hs;obtain⟨p,xs,i,z,rfl,rfl,hq,he,q⟩:=h;cases rx;obtain⟨t,rfl⟩:=ry;obtain⟨ay,r,pl,hz⟩:=I.tuple hq;obtain⟨j,h1,h2,h3,h4,h5⟩:=wH he;obtain⟨w,ew,qC⟩:=r.get h2;have hl:=r.length;have hn:=rT;have fin:EP X pins σ Q w s:=⟨z,H,I,qC,q⟩;exact subscriptTail_builtinR (x:=w) pl.typeIs slot_tuple_getitem.lookup (getItem_tuple (j:=j) (Q:=λr s'=>r=w/\EP X pins σ Q r s') pl (by lia) (by lia) (by rw[zt,<-hl];exact h1) (by simpa using ew) ⟨rfl,fin⟩) hs
theorem Q8:VE X aao:=by
 intro value slice pins s σ H x y v u Q I rx ry h hs;obtain⟨z,i,c,rfl,rfl,hz,he,q⟩:=h;obtain⟨t,rfl⟩:=rx;obtain⟨t',rfl⟩:=ry;obtain⟨j,h1,h2,h3,h4,h5⟩:=wH he;have hl:z.cps.toList.length=z.length:=by simp[Str.length]
 rw[hl]at h1 h4 h5;have hn:=rT;exact tail_any (typeIs_str s z t) slot_str_getitem.lookup (getItem_str (c:=c) (by have e1:decide (i < -(2^63:Int))=false:=zo (by lia);have e2:decide (i>=2^63)=false:=zo (by lia);rw[e1,e2,Bool.or_false]) (by rw[h1];simpa using h2) {.str ⟨#[c]⟩,H,I.tok _,{_,rfl},q}) hs
theorem CV(ay:dL)(n j:Nat)(u:Value):Obj.mapSeq (·.setIfInBounds j u) {cls:=.type "list",data:=.seq ay.toArray n}={cls:=.type "list",data:=.seq (ay.set j u).toArray n}:=by simp[Obj.mapSeq]
theorem Inv.lst(I:Inv X pins σ H s)(h:H p=some (.lst xs)): ∃(ay:dL)(n:Nat),Vals xs ay/\s.heap.get? p=some {cls:=.type "list",data:=.seq ay.toArray n}/\xs.length<=sizeLine:=by obtain⟨z,ay,n,r,e⟩:=I.aN p _ h;exact⟨ay,n,r,e,z⟩
theorem Inv.Q9{pins:io}{σ:St}{H:Hp}{s:Shared}{p:Addr}{xs ys:cr}{ay its':dL}{n n':Nat}{f:Obj->Obj}(I:Inv X pins σ H s)(h:H p=some (.lst xs))(ho:s.heap.get? p=some {cls:=.type "list",data:=.seq ay.toArray n})(hf:f {cls:=.type "list",data:=.seq ay.toArray n}={cls:=.type "list",data:=.seq its'.toArray n'})(r:Vals ys its')(hz:ys.length<=sizeLine)(t:Nat): Inv X pins σ (upd H p<|.lst ys) {s with heap:=s.heap.update p f,toks:=t}:=by
 have e:(s.heap.update p f).get? p=some {cls:=.type "list",data:=.seq its'.toArray n'}:=by rw[yy f ho<|by rw[hf]<;>rfl,hf]
 refine I.write (x:=p) (e:=p) (by rw[h];trivial) (.inl rfl) (λb u hb q=>(yt _ _<|Ne.symm hb).trans q) {_,e} ?_;exact⟨hz,its',n',r,e⟩
def VG:V->V->V->Hp->(Hp->Prop)->Prop:=λo i v H Q=>∃p xs k j,o=.ref p/\i=.int k/\H p=some (.lst xs)/\I_ xs.length k=some j/\Q (upd H p<|.lst<|xs.set j v)
theorem set_list:Vk X VG:=by
 intro pins s σ H o i v ov iv u Q I ro ri rv h;obtain⟨p,xs,k,j,rfl,rfl,hp,hj,q⟩:=h;cases ro;obtain⟨t,rfl⟩:=ri;obtain⟨ay,n,r,ho,hz⟩:=I.lst hp;obtain⟨h1,h2,h3,h4⟩:=E6 hj;have hl:=r.length;have hn:=rT;have I':Inv X pins σ (upd H p<|.lst<|xs.set j v) {s with heap:=s.heap.update p (Obj.mapSeq (·.setIfInBounds j u))}:=I.Q9 hp ho (CV ay n j u) (r.set rv j) (by rw[List.length_set];exact hz) s.toks;by_cases h0:0<=k;have hk:k.toNat=j:=by rw[seqIndex_of h0 h4]at h1;exact zT h1
 exact PySem.W.ki_setAt ho h0 (by lia) (by rw[zt,<-hl];exact h4) (by rw[hk];exact{_,I',q});have hk:(k+(ay.toArray.size:Int)).toNat=j:=by rw[seqIndex_neg (by lia) h3]at h1;rw[zt,<-hl];exact zT h1
 exact PySem.W.ki_setBack ho (by lia) (by rw[zt,<-hl];exact h3) (by lia)<|by rw[hk];exact{_,I',q}
theorem wI(lo hi:pp)(n:Nat):(sliceBounds lo hi none n).1=((HT.sIx n 0 lo:Nat):Int)/\(sliceBounds lo hi none n).2.1=((HT.sIx n n hi:Nat):Int)/\(sliceBounds lo hi none n).2.2=1:=by
 refine{?_,?_,rfl};cases lo with|none=>simp[sliceBounds,HT.sIx]|some i=>simp only[sliceBounds,HT.sIx,Option.getD_none,show(1:Int)>0 by decide,if_true];by_cases h:i<0;simp only[h,if_true]<;>lia;simp only[h,if_false]<;>lia
 cases hi with|none=>simp[sliceBounds,HT.sIx]|some i=>simp only[sliceBounds,HT.sIx,Option.getD_none,show(1:Int)>0 by decide,if_true];by_cases h:i<0;simp only[h,if_true]<;>lia;simp only[h,if_false]<;>lia
theorem uy(ay:dL)(lo hi:pp):slicePick ay.toArray lo hi none=((ay.drop<|HT.sIx ay.length 0 lo).take<|HT.sIx ay.length ay.length hi-HT.sIx ay.length 0 lo).toArray:=by obtain⟨h1,h2,h3⟩:=wI lo hi ay.toArray.size;unfold slicePick;rw[h1,h2,h3];simp only[sliceRange_one,pick_run,zt]<;>rfl
def aap(K:Frag):V->Option Int->Option Int->Hp->VK->Prop:=λx lo hi H Q=>∃a xs,x=.ref a/\jk K H a xs/\∀p,H p=none->Q (.ref p) (upd H p<|.lst<|GY xs lo hi)
theorem E9:SlR X (aap X.K):=by intro pins s σ H x v vl vu lo hi sl Q I rx hs pl pu h;obtain⟨a,xs,rfl,hx,q⟩:=h;cases rx;obtain⟨ay,r,ht,hz⟩:=I.list hx;have hlen:=r.length;refine{"list",_,slot_list_getitem.lookup,ht.isList.typeIs,?_};refine wpAny_getItem_list_slice ht.isList hs pl pu .none (by simp) ?_ (by rw[zt]<;>lia);rw[uy,<-hlen];refine{.ref s.heap.objs.size,_,I.laid (t':=s.toks) (o:=.lst<|GY xs lo hi) (λb ob q=>za _ q) (zq _) ?_,rfl,q _<|I.aN.fresh<|zq _};exact{zO (AJ xs lo hi) hz,_,0,(r.drop<|HT.sIx xs.length 0 lo).take<|HT.sIx xs.length xs.length hi-HT.sIx xs.length 0 lo,zk _ rfl}
noncomputable def gW:V->Bool|.av=>true|.bl _=>true|.int _=>true|.str _=>true|_=>false
noncomputable def eqV:V->V->Bool|.av,.av=>true|.bl a,.bl b=>a==b|.bl a,.int b=>((if a then 1 else 0)==b)|.int a,.bl b=>(a==(if b then 1 else 0))|.int a,.int b=>a==b|.str a,.str b=>a==b|_,_=>false
theorem Q_(ry:RelV y u)(rx:RelV x v)(fy:gW y=true)(fx:gW x=true):SeqAt.EqAt A s u v (eqV y x):=by cases y with|av=>(cases ry;cases x with|av=>(cases rx;exact SeqAt.EqAt.same _)|bl b=>(cases rx;exact SeqAt.EqAt.none_bool b)|int b=>(obtain⟨t,rfl⟩:=rx;exact SeqAt.EqAt.none_int b t)|str b=>(obtain⟨t,rfl⟩:=rx;exact SeqAt.EqAt.none_str b t)|_=>exact absurd (show false=true from fx) zd)|bl a=>(cases ry;cases x with|av=>(cases rx;exact SeqAt.EqAt.bool_none a)|bl b=>(cases rx;exact SeqAt.EqAt.bool_bool a b)|int b=>(obtain⟨t,rfl⟩:=rx;exact SeqAt.EqAt.bool_int a b t)|str b=>(obtain⟨t,rfl⟩:=rx;exact SeqAt.EqAt.bool_str a b t)|_=>exact absurd (show false=true from fx) zd)|int a=>(obtain⟨t',rfl⟩:=ry;cases x with|av=>(cases rx;exact SeqAt.EqAt.int_none a t')|bl b=>(cases rx;exact SeqAt.EqAt.int_bool a t' b)|int b=>(obtain⟨t,rfl⟩:=rx;exact SeqAt.EqAt.int_int a t' b t)|str b=>(obtain⟨t,rfl⟩:=rx;exact SeqAt.EqAt.int_str a t' b t)|_=>exact absurd (show false=true from fx) zd)|str a=>(obtain⟨t',rfl⟩:=ry;cases x with|av=>(cases rx;exact SeqAt.EqAt.str_none a t')|bl b=>(cases rx;exact SeqAt.EqAt.str_bool a t' b)|int b=>(obtain⟨t,rfl⟩:=rx;exact SeqAt.EqAt.str_int a t' b t)|str b=>(obtain⟨t,rfl⟩:=rx;exact SeqAt.EqAt.str_str a t' b t)|_=>exact absurd (show false=true from fx) zd)|_=>exact absurd (show false=true from fy) zd
noncomputable def Jb(x:V)(u:Value):Bool:=match u with|.none=>eqV .av x|.bool b=>eqV (.bl b) x|.int i _=>eqV (.int i) x|.str z _=>eqV (.str z) x|_=>false
theorem CW(r:RelV y u)(f:gW y=true):Jb x u=eqV y x:=by cases y with|av=>(cases r;rfl)|bl b=>(cases r;rfl)|int i=>(obtain⟨t,rfl⟩:=r;rfl)|str z=>(obtain⟨t,rfl⟩:=r;rfl)|_=>exact absurd (show false=true from f) zd
theorem wJ:∀{xs:cr}{us:dL},Vals xs us->xs.all gW=true->us.any (Jb x)=xs.any λy=>eqV y x|_,_,.nil,_=>rfl|y::xs,u::us,.cons r t,f=>by rw[List.all_cons,zH]at f;rw[yT,yT,CW r f.1,wJ t f.2]
theorem mE(rx:RelV x v)(fx:gW x=true):∀{xs:cr}{us:dL},Vals xs us->xs.all gW=true->∀u∈us,SeqAt.EqAt A s u v (Jb x u)|_,_,.nil,_=>(λu hu=>by cases hu)|y::xs,u::us,.cons r t,f=>λu' hu=>by rw[List.all_cons,zH]at f;rcases zm.mp hu with rfl|hu;rw[CW r f.1];exact Q_ r rx f.1 fx;exact mE rx fx t f.2 u' hu
noncomputable def GZ(x:V)(xs:cr):Bool:=xs.any λy=>eqV y x
def rIn(K:Frag)(neg:Bool):R2:=λx y H Q=>∃p xs,y=.ref p/\(jk K H p xs\/jc K H p xs)/\gW x=true/\xs.all gW=true/\Q (.bl<|if neg then !GZ x xs else GZ x xs) H
theorem oy:iz X (compareOp .In) (rIn X.K false):=by intro pins s σ H x y v u Q I rx ry h;obtain⟨p,xs,rfl,hq,fx,fs,q⟩:=h;cases ry;rcases hq with hq|hq;obtain⟨ay,r,pl,hz⟩:=I.list hq;refine SeqAt.in_listAt (Jb x) pl.isList (λw hw=>mE rx fx r fs w<|by simpa using hw) {.bl _,H,I,rfl,?_};rw[show ay.toArray.any (Jb x)=ay.any (Jb x) by simp,wJ r fs];exact q;obtain⟨ay,r,pl,hz⟩:=I.tuple hq;refine SeqAt.in_tupleAt (Jb x) pl (λw hw=>mE rx fx r fs w<|by simpa using hw) {.bl _,H,I,rfl,?_};rw[show ay.toArray.any (Jb x)=ay.any (Jb x) by simp,wJ r fs];exact q
theorem kR:fh X (.type "tuple") (λxs H Q=>∃p ys,xs=[.ref p]/\((jk X.K H p ys/\∀l,H l=none->Q (.ref l) (upd H l<|.tup ys))\/(jc X.K H p ys/\Q (.ref p) H))):=by intro pins s σ H xs us Q I r h;obtain⟨p,ys,rfl,h⟩:=h;obtain⟨u,rfl,rx⟩:=vals1 r;cases rx;rcases h with⟨hq,q⟩|⟨hq,q⟩;obtain⟨ay,r',pl,hz⟩:=I.list hq;have hlen:=r'.length;refine call_tuple_list pl.isList (λh' kp=>?_) (by simp only[zt]<;>lia);have I1:Inv X pins σ H {s with heap:=h'}:=I.kept (t':=s.toks) kp;have I2:Inv X pins σ (upd H h'.objs.size<|.tup ys) {s with heap:=h'.push {cls:=.type "tuple",data:=.seq ay.toArray}}:=I1.laid (t':=s.toks) (λb o e=>za _ e) (zq _)<|show bj X.prog X.w _ _ _ (.tup ys) from{hz,ay,r',jn.new _ _};exact{.ref h'.objs.size,_,I2,rfl,q _<|I1.aN.fresh<|zq _};obtain⟨ay,r',pl,hz⟩:=I.tuple hq;exact call_tuple_same pl {.ref p,H,I,rfl,q}
def YJ(K:Frag)(T:String)(x:V)(H:Hp):Prop:=match x with|.str _=>T ="str"|.int _=>T ="int"|.ref p=>(T ="list"/\∃xs,jk K H p xs)\/(T ="tuple"/\∃o,K.lookup p=some o/\o.cls=.type "tuple"/\o.dict=none)\/(T ="dict"/\((∃kvs,H p=some (.dK kvs))\/∃kvs,H p=some (.dT kvs)))\/(T ="set"/\∃S n,H p=some (.set S n))|_=>False
theorem Jc{T:String}(I:Inv X pins σ H s)(r:RelV x v)(ty:YJ X.K T x H): s.TypeIs v T/\∀a,v=.ref a->∃ob,s.heap.get? a=some ob/\ob.dict=none:=by cases x with|str z=>(obtain⟨t,rfl⟩:=r;cases (show T ="str" from ty);exact{typeIs_str s z t,λ_ e=>nomatch e})|int i=>(obtain⟨t,rfl⟩:=r;cases (show T ="int" from ty);exact{typeIs_int s i t,λ_ e=>nomatch e})|ref p=>(cases r;rcases ty with⟨rfl,xs,hq⟩|⟨rfl,o,hk,hc,hd⟩|⟨rfl,hk⟩|⟨rfl,S,n,hk⟩;obtain⟨ay,_,pl,_⟩:=I.list hq;refine{pl.isList.typeIs,λa e=>?_};cases e;obtain⟨o,n,e,c,hd,_⟩:=pl;exact⟨o,e,hd⟩;refine{{o,I.pN p o hk,hc},λa e=>?_};cases e;exact{o,I.pN _ o hk,hd};have z:∃o,s.heap.get? p=some o/\o.ExactDict:=(by rcases hk with⟨kvs,hk⟩|⟨kvs,hk⟩;obtain⟨_,_,_,_,o,_,_,e,ex,_⟩:=I.aN p _ hk;exact⟨o,e,ex⟩;exact False.elim<|I.aN p _ hk);obtain⟨o,e,ex⟩:=z;refine{⟨o,e,ex.1⟩,λa e2=>?_};cases e2;exact⟨o,e,ex.2.1⟩;obtain⟨o,_,_,_,e,ex,_⟩:=I.aN p _ hk;refine{⟨o,e,ex.1⟩,λa e2=>?_};cases e2;exact⟨o,e,ex.2.1⟩)|_=>exact False.elim ty
def aaq(K:Frag)(T:String)(r:V->List V->Hp->VK->Prop)(to:TE):TE:=λσ H Q=>to σ H λx H1=>YJ K T x H1/\r x [] H1 Q
def tBM(K:Frag)(T:String)(r:V->List V->Hp->VK->Prop)(to:TE)(t:TA):TE:=λσ H Q=>to σ H λx H1=>YJ K T x H1/\t σ H1 λxs H2=>r x xs H2 Q
variable{o e:Expr}{es:li}{to:TE}{t:TA}{name:Str}{apos aO:Pos}{T id:String}{r:V->List V->Hp->VK->Prop}
theorem Rb(pa:PlainAttrs T)(slot:Slot T name id)(Rf:typeOf (.builtin id)=pure (.type "method_descriptor"))(hm:Ur X id r)(ho:PE X o to)(mF:autoParam (attributeBase o name X.env (eval o X.env)=eval o X.env) qQJ)(rW:autoParam ((apos.endLine==aO.line)=true) qQJ):PE X (.Call (.Attribute o name apos) [] [] aO) (aaq X.K T r to):=by intro pins s σ H Q I h;refine wpAny_Call_method0_late mF rW<|bb (ho pins s σ H _ I h) ?_;rintro v s1 ⟨x,H1,I1,r1,ty,q1⟩;obtain⟨h1,h2⟩:=Jc I1 r1 ty;exact{T,id,pa,slot,Rf,h1,h2,Calls.callWith_builtin rfl<|PySem.evalArgs_none<|hm pins s1 σ H1 x [] v [] Q I1 r1 .nil q1}
theorem VH(pa:PlainAttrs T)(slot:Slot T name id)(Rf:typeOf (.builtin id)=pure (.type "method_descriptor"))(hm:Ur X id r)(ho:PE X o to)(ha:PA X (e::es) t)(mF:autoParam (attributeBase o name X.env (eval o X.env)=eval o X.env) qQJ)(Rh:autoParam (((backTo aO<|starEach (e::es) X.env).all (λx=>!x.1)&&(backToKw aO<|keywordEach [] X.env).all (λx=>x.1.isSome)&&decide ((e::es).length+([]:py).length+(if ([]:py).isEmpty then 0 else 1)<30))=true) qQJ)(rW:autoParam ((apos.endLine==aO.line)=true) qQJ)(hs:autoParam (starEach (e::es) X.env=(false,eval e X.env)::starEach es X.env) qQJ)(CY:autoParam ((backTo aO<|starEach es X.env).any (·.1)=false) qQJ): PE X (.Call (.Attribute o name apos) (e::es) [] aO) (tBM X.K T r to t):=by intro pins s σ H Q I h;refine wpAny_Call_method_late mF Rh rW rfl<|bb (ho pins s σ H _ I h) ?_;rintro v s1 ⟨x,H1,I1,r1,ty,q1⟩;obtain⟨h1,h2⟩:=Jc I1 r1 ty;refine{T,id,pa,slot,Rf,h1,h2,?_};have hA:=ha aO pins s1 σ H1 _ I1 q1;rw[hs]at hA⊢;refine Calls.callWith_builtin (by show(false||(backTo aO<|starEach es X.env).any (·.1))=false;rw[CY]<;>rfl)<|Calls.evalArgs_plain ?_;exact bb hA <| by rintro us s2 ⟨vs,H2,I2,r2,q2⟩;exact hm pins s2 σ H2 x vs v us Q I2 r1 r2 q2
end
def YK(X:Cx)(id:String)(r:V->List V->Hp->VK->Prop):Prop:=∀(pins:io)(s:Shared)(σ:St)(H:Hp)(x:V)(xs:cr)(v:Value)(us:dL)(Q:VK),Inv X pins σ H s->RelV x v->Vals xs us->r x xs H Q->wpAny (model X.prog X.w) X.A (call (.builtin id)<|v::us) (EP X pins σ Q) X.xe s
theorem Vals.one:∀{x:V}{us:dL},Vals [x] us->∃u,us=[u]/\RelV x u:=by intro x us h;cases h with|cons r t=>cases t;exact{_,rfl,r}
theorem Vals.two:∀{x y:V}{us:dL},Vals [x,y] us->∃u v,us=[u,v]/\RelV x u/\RelV y v:=by intro x y us h;cases h with|cons r t=>obtain⟨_,rfl,q⟩:=Vals.one t;exact{_,_,rfl,r,q}
theorem Vals.zero:∀{us:dL},Vals [] us->us=[]|_,.nil=>rfl
theorem Vals.dropLast{xs:cr}{us:dL}(h:Vals xs us):Vals xs.dropLast us.dropLast:=by induction h with|nil=>exact .nil|cons r t ih=>cases t with|nil=>exact .nil|cons q t'=>exact .cons r ih
theorem Vals.eraseIdx:∀{xs:cr}{us:dL}(i:Nat),Vals xs us->Vals (xs.eraseIdx i) (us.eraseIdx i)|_,_,_,.nil=>.nil|_,_,0,.cons _ t=>t|_,_,i+1,.cons r t=>.cons r<|Vals.eraseIdx i t
theorem Vals.reverse{xs:cr}{us:dL}(h:Vals xs us):Vals xs.reverse us.reverse:=by induction h with|nil=>exact .nil|cons r t ih=>rw[List.reverse_cons,List.reverse_cons];exact Vals.append ih<|.cons r .nil
theorem CZ{α:Type}(l:List α):l.eraseIdx (l.length-1)=l.dropLast:=by induction l with|nil=>rfl|cons a r ih=>cases r with|nil=>rfl|cons b r=>have e:(a::b::r).length-1=((b::r).length-1)+1:=(by have h1:(a::b::r).length=r.length+2:=rfl;have h2:(b::r).length=r.length+1:=rfl;lia);rw[e,List.eraseIdx_cons_succ,ih];all_goals rfl
theorem vp{α:Type} : ∀(l:List α)(i:Nat),(l.eraseIdx i).length<=l.length|[],_=>zq _|_::_,0=>yV _|_::r,i+1=>Nat.succ_le_succ<|vp r i
section
variable{X:Cx}{pins:io}{σ:St}{H:Hp}{s:Shared}{l:Addr}{xs ys:cr}
theorem Inv.MH{ay its':dL}{n:Nat}{f:Array Value->Array Value}{t':Nat}(I:Inv X pins σ H s)(hH:H l=some (.lst xs))(e:s.heap.get? l=some {cls:=.type "list",data:=.seq ay.toArray n})(hf:f ay.toArray=its'.toArray)(hv:Vals ys its')(hz:ys.length<=sizeLine): Inv X pins σ (upd H l<|.lst ys) {s with heap:=s.heap.update l<|Obj.mapSeq f,toks:=t'}:=by have q:=PySem.IsL.update e f;rw[hf]at q;refine I.write (x:=l) (e:=l) (by rw[hH];exact trivial) (.inl rfl) (λb' u hb hu=>(yt s.heap (Obj.mapSeq f)<|Ne.symm hb).trans hu) {_,q} ?_;exact{hz,its',_,hv,q}
theorem Inv.aar(I:Inv X pins σ H s)(hv:Vals ys ay)(hz:ys.length<=sizeLine): Inv X pins σ (upd H s.heap.objs.size<|.lst ys) {s with heap:=s.heap.push {cls:=.type "list",data:=.seq ay.toArray},toks:=t'}:=I.laid (λ_ _ q=>za _ q) (zq _) {hz,ay,0,hv,zk _ rfl}
theorem Inv.fresh(I:Inv X pins σ H s):H s.heap.objs.size=none:=I.aN.fresh<|zq _
theorem Inv.G0(I:Inv X pins σ H s)(hH:H l=some (.lst xs)):xs.length<=sizeLine/\∃(ay:dL)(n:Nat),Vals xs ay/\xs.length=ay.length/\s.heap.get? l=some {cls:=.type "list",data:=.seq ay.toArray n}:=by obtain⟨z,ay,n,r,e⟩:=I.aN l _ hH;exact⟨z,ay,n,r,r.length,e⟩
theorem Jd{n:Nat}(h:n<=sizeLine):Builtin.List.listTooLong n=false:=by unfold Builtin.List.listTooLong;exact zo<|by lia
end
section
variable{X:Cx}
def MI:V->List V->Hp->VK->Prop:=λx vs H Q=>∃l xs y,x=.ref l/\vs=[y]/\H l=some (.lst xs)/\xs.length<sizeLine/\Q .av (upd H l<|.lst<|xs++[y])
theorem G1:YK X "list.append" MI:=by intro pins s σ H x vs v us Q I rx rv h;obtain⟨l,xs,y,rfl,rfl,hH,hz,q⟩:=h;cases rx;obtain⟨u,rfl,ru⟩:=rv.one;obtain⟨z,ay,n,r,hl,e⟩:=I.G0 hH;refine call_meets F.slot_list_append {_,e,rfl} F.entry_list_append (F.args_list_append_2 _ _) (PySem.list_append l ay.toArray n u<|by rw[zt];lia) {e,?_};refine{.av,_,I.MH (its':=ay++[u]) hH e (by simp) (r.append<|.cons ru .nil) ?_,rfl,q};rw[zD,List.length_singleton];lia
def aas:V->List V->Hp->VK->Prop:=λx vs H Q=>∃l xs y,x=.ref l/\vs=[]/\H l=some (.lst xs)/\xs[xs.length-1]?=some y/\Q y (upd H l<|.lst xs.dropLast)
theorem Ri:YK X "list.pop" aas:=by
 intro pins s σ H x vs v us Q I rx rv h;obtain⟨l,xs,y,rfl,rfl,hH,hy,q⟩:=h;cases rx;have hus:=rv.zero;subst hus;obtain⟨z,ay,n,r,hl,e⟩:=I.G0 hH;obtain⟨u,hu,ru⟩:=r.get hy;have VI:ay.toArray[ay.toArray.size-1]?=some u:=by show ay.toArray[ay.length-1]?=some u;rw[<-Array.getElem?_toList,<-hl];exact hu
 refine call_meets F.slot_list_pop {_,e,rfl} F.entry_list_pop (F.args_list_pop_1 _) (MeetsSeq.list_pop_last l ay.toArray n u VI<|by rw[zt];lia) {e,?_};refine{y,_,I.MH (its':=ay.dropLast) hH e ?_ r.dropLast ?_,ru,q};show ay.toArray.eraseIdxIfInBounds (ay.toArray.size-1)=ay.dropLast.toArray;rw[zt,List.eraseIdxIfInBounds_toArray,CZ];rw[List.length_dropLast];lia
def Rj:V->List V->Hp->VK->Prop:=λx vs H Q=>∃l xs i k y,x=.ref l/\vs=[.int i]/\H l=some (.lst xs)/\-(2^63)<=i/\i<2^63/\seqIndex? i xs.length=some k/\xs[k]?=some y/\Q y (upd H l<|.lst<|xs.eraseIdx k)
theorem Je:YK X "list.pop" Rj:=by intro pins s σ H x vs v us Q I rx rv h;obtain⟨l,xs,i,k,y,rfl,rfl,hH,h1,h2,hk,hy,q⟩:=h;cases rx;obtain⟨u,rfl,ru⟩:=rv.one;obtain⟨t,rfl⟩:=ru;obtain⟨z,ay,n,r,hl,e⟩:=I.G0 hH;obtain⟨w,hw,qC⟩:=r.get hy;refine call_meets F.slot_list_pop {_,e,rfl} F.entry_list_pop (F.args_list_pop_2 _ _) (MeetsSeq.list_pop_at l ay.toArray n i t k w (fitsIndex_both h1 h2) (by rw[zt,<-hl];exact hk) (by rw[<-Array.getElem?_toList];exact hw)<|by rw[zt];lia) {e,?_};refine{y,_,I.MH (its':=ay.eraseIdx k) hH e ?_ (r.eraseIdx k) ?_,qC,q};show ay.toArray.eraseIdxIfInBounds k=(ay.eraseIdx k).toArray;rw[List.eraseIdxIfInBounds_toArray];have:=vp xs k;lia
def aat:R2:=λx y H Q=>∃l b xs zs,x=.ref l/\y=.ref b/\H l=some (.lst xs)/\H b=some (.lst zs)/\xs.length+zs.length<=sizeLine/\∀p,H p=none->Q (.ref p) (upd H p<|.lst<|xs++zs)
theorem Rk:iz X (binaryOp .Add) aat:=by
 intro pins s σ H x y v u Q I rx ry h;obtain⟨l,b,xs,zs,rfl,rfl,hH,hB,hz,q⟩:=h;cases rx;cases ry;obtain⟨z,ay,n,r,hl,e⟩:=I.G0 hH;obtain⟨z2,wK,n2,r2,Rl,e2⟩:=I.G0 hB;refine PySem.P.add_list e e2 ?_ (by rw[zt,zt];lia);have ea:ay.toArray++wK.toArray=(ay++wK).toArray:=by simp
 rw[ea];exact{.ref _,_,I.aar (t':=s.toks) (r.append r2)<|by rw[zD];lia,rfl,q _ I.fresh}
end
section
variable{κ:Type}[DecidableEq κ]
noncomputable def gb(kvs:List<|κ×V)(k:κ):Option V:=(kvs.find? λkv=>decide<|kv.1=k).map (·.2)
noncomputable def putK(kvs:List<|κ×V)(k:κ)(v:V):List (κ×V):=if (kvs.any λkv=>decide<|kv.1=k)=true then kvs.map (λkv=>if kv.1=k then (kv.1,v) else kv) else kvs++[(k,v)]
noncomputable def pQ(kvs:List<|κ×V)(k:κ):List (κ×V):=kvs.filter λkv=>decide<|kv.1≠k
theorem rX{p:κ×V}{r:List<|κ×V}{k:κ}(e:p.1=k):gb (p::r) k=some p.2:=by simp[gb,yc,e]
theorem rY{p:κ×V}{r:List<|κ×V}{k:κ}(e:¬p.1=k):gb (p::r) k=gb r k:=by simp[gb,yc,e]
theorem jr(kvs:List<|κ×V)(k:κ)(v:V):(putK kvs k v).length<=kvs.length+1:=by unfold putK;split;rw[zb];lia;rw[zD,zQ,List.length_nil];lia
theorem fF.oz(r:fF o u):o.isSome=u.isSome:=by cases o with|none=>(cases u with|none=>rfl|some _=>exact(show False from r).elim)|some _=>cases u with|none=>exact(show False from r).elim|some _=>rfl
theorem fF.getD{o:Option V}{u:Option Value}{d:V}{d':Value}(r:fF o u)(rd:RelV d d'):RelV (o.getD d) (u.getD d'):=by cases o with|none=>(cases u with|none=>exact rd|some _=>exact(show False from r).elim)|some _=>cases u with|none=>exact(show False from r).elim|some _=>exact r
theorem KV.val{kvs:List<|κ×V}{vs:List<|κ×Value}(r:KV kvs vs)(k:κ):fF (gb kvs k) (valueAt vs k):=by unfold KV at r;induction r with|nil=>exact True.intro|@cons p q ps qs h t ih=>obtain⟨h1,h2⟩:=h;by_cases e:p.1=k;have e':q.1=k:=h1.symm.trans e;have b:valueAt (q::qs) k=some q.2:=(by simp[valueAt,yc,e']);rw[rX e,b];exact h2;have e':¬q.1=k:=λz=>e<|h1.trans z;have b:valueAt (q::qs) k=valueAt qs k:=(by simp[valueAt,yc,e']);rw[rY e,b];exact ih
theorem KV.any{kvs:List<|κ×V}{vs:List<|κ×Value}(r:KV kvs vs)(k:κ):(kvs.any λkv=>decide<|kv.1=k)=vs.any λkv=>decide (kv.1=k):=by unfold KV at r;induction r with|nil=>rfl|cons h t ih=>rw[yT,yT,ih,h.1]
theorem KV.Rm(r:KV kvs vs)(k:κ)(ry:RelV y u): KV (kvs.map λkv=>if kv.1=k then (kv.1,y) else kv) (vs.map λkv=>if kv.1=k then (kv.1,u) else kv):=by unfold KV at r⊢;induction r with|nil=>exact .nil|@cons p q ps qs h t ih=>rw[zC,zC];refine .cons ?_ ih;obtain⟨h1,h2⟩:=h;by_cases e:p.1=k;rw[if_pos e,if_pos<|h1.symm.trans e];exact⟨h1,ry⟩;rw[if_neg e,if_neg λz=>e<|h1.trans z];exact⟨h1,h2⟩
theorem KV.put(r:KV kvs vs)(k:κ)(ry:RelV y u):KV (putK kvs k y) (stored vs k u):=by unfold putK stored;rw[r.any k];by_cases e:(vs.any λkv=>decide<|kv.1=k)=true;rw[if_pos e,if_pos e];exact r.Rm k ry;rw[if_neg e,if_neg e];exact Paired.snoc r ⟨rfl,ry⟩
theorem KV.drop(r:KV kvs vs)(k:κ):KV (pQ kvs k) (without vs k):=by unfold KV at r⊢;unfold pQ without;induction r with|nil=>exact .nil|@cons p q ps qs h t ih=>obtain⟨h1,h2⟩:=h;rw[List.filter_cons,List.filter_cons];by_cases e:p.1=k;have a:¬decide (p.1≠k)=true:=(by simp[e]);have b:¬decide (q.1≠k)=true:=(by simp[h1.symm.trans e]);rw[if_neg a,if_neg b];exact ih;have e':¬q.1=k:=λz=>e<|h1.trans z;have a:decide (p.1≠k)=true:=(by simp[e]);have b:decide (q.1≠k)=true:=(by simp[e']);rw[if_pos a,if_pos b];exact .cons ⟨h1,h2⟩ ih
theorem KV.length{kvs:List<|κ×V}{vs:List<|κ×Value}(r:KV kvs vs):kvs.length=vs.length:=yS r
theorem Jf(kvs:List<|κ×V)(k:κ):(pQ kvs k).length<=kvs.length:=List.length_filter_le _ _
end
theorem iV(r:RelV (kV k) u):(aH P w).is k u=true:=by cases k with|inl i=>(obtain⟨t,e⟩:=(show ∃t,u=Value.int i t from r);subst e;exact AB P w i t)|inr x=>obtain⟨t,e⟩:=(show ∃t,u=Value.str x t from r);subst e;exact jm P w x t
theorem vq:∀{ks:List Key}{us:dL},Vals (ks.map kV) us->ItemsAre (aH P w) ks us|[],_,r=>(by rw[List.map_nil]at r;cases r;exact .nil)|k::ks,_,r=>by rw[zC]at r;cases r with|cons h t=>exact .cons (iV h)<|vq t
abbrev KT(H:Hp):List (List Key×V)->List (List Key×Addr×Value)->Prop:=Paired λp q=>p.1=q.1/\H q.2.1=some (.tup<|p.1.map kV)/\RelV p.2 q.2.2
theorem KT.val{H:Hp}{kvs:List<|List Key×V}{xs:List<|List Key×Addr×Value}(r:KT H kvs xs)(k:List Key):fF (gb kvs k) ((atKey xs k).map (·.2)):=by induction r with|nil=>exact True.intro|@cons p q ps qs h t ih=>obtain⟨h1,_,h2⟩:=h;by_cases e:p.1=k;have e':q.1=k:=h1.symm.trans e;have b:atKey (q::qs) k=some q.2:=(by simp[atKey,yc,e']);rw[rX e,b];exact h2;have e':¬q.1=k:=λz=>e<|h1.trans z;have b:atKey (q::qs) k=atKey qs k:=(by simp[atKey,yc,e']);rw[rY e,b];exact ih
section
variable{P:Program}{w:World}{H:Hp}{h:Heap}{a:Addr}
theorem O8(ok:lN P w H h)(e:Rd H a u):bj P w H h a u:=e.ok ok
theorem pR(ok:lN P w H h)(e:Rd H a<|.dK kvs):kvs.length<=sizeLine/\(a==sysModules)=false/\∃vs,KV kvs vs/\h.DictOf (aH P w) a vs:=show bj P w H h a (.dK kvs) from O8 ok e
theorem AK(ok:lN P w H h)(e:H a=some (.dK kvs)):kvs.length<=sizeLine/\(a==sysModules)=false/\∃vs,KV kvs vs/\h.DictOf (aH P w) a vs:=pR ok<|.inl e
theorem wL(ok:lN P w H h)(e:H a=some (.tup<|ks.map kV)):(tupleKind<|aH P w).is h ks a:=by obtain⟨_,ay,r,o,h1,h2,_,n,h3⟩:=(show bj P w H h a (.tup<|ks.map kV) from ok a _ e);exact{o,ay.toArray,n,h1,h2,h3,by simpa using vq r}
theorem vt(ok:lN P w H h)(e:Rd H a<|.dT kvs):kvs.length<=sizeLine/\(a==sysModules)=false/\∃xs,KT H kvs xs/\h.DictOfH (tupleKind<|aH P w) a xs:=by exact False.elim<|show bj P w H h a (.dT kvs) from O8 ok e
end
def qD(H:Hp)(a:Addr)(y:V)(r:Option V):Prop:=(∃kvs k,Rd H a (.dK kvs)/\y=kV k/\r=gb kvs k)\/∃kvs k b,Rd H a (.dT kvs)/\y=.ref b/\H b=some (.tup<|k.map kV)/\r=gb kvs k
def Jg(H:Hp)(a:Addr)(y v:V)(H':Hp):Prop:=(∃kvs k,H a=some (.dK kvs)/\y=kV k/\kvs.length<sizeLine/\H'=upd H a (.dK<|putK kvs k v))\/∃kvs k b,H a=some (.dT kvs)/\y=.ref b/\H b=some (.tup<|k.map kV)/\kvs.length<sizeLine/\H'=upd H a (.dT<|putK kvs k v)
theorem qD.k{H:Hp}{a:Addr}{kvs:fv}{k:Key}(e:H a=some (.dK kvs)):qD H a (kV k) (gb kvs k):=.inl {kvs,k,.inl e,rfl,rfl}
theorem Jg.k{H:Hp}{a:Addr}{kvs:fv}{k:Key}{v:V}(e:H a=some (.dK kvs))(hl:kvs.length<sizeLine):Jg H a (kV k) v (upd H a<|.dK<|putK kvs k v):=.inl ⟨kvs,k,e,rfl,hl,rfl⟩
section
variable{X:Cx}{pins:io}{σ:St}{H:Hp}{s:Shared}{a:Addr}{y v:V}{u r:Value}{o:Option V}{A:Around}{E:lc}
theorem Inv.big(I:Inv X pins σ H s):sysModules<s.heap.objs.size:=by have h:mainGlobals<s.heap.objs.size:=(I.mod.glob.keeps I.bk).lt;exact Nat.lt_trans (by decide) h
theorem G4(hu:A.units+1<cLine)(I:Inv X pins σ H s)(g:qD H a y<|some v)(ry:RelV y u)(h:∀w' s',Inv X pins σ H s'->RelV v w'->Q w' s'): wpAny (model X.prog X.w) A (getItem (.ref a) u) Q E s:=by rcases g with⟨kvs,k,e,ey,l⟩|⟨kvs,k,b,e,ey,eb,l⟩;subst ey;obtain⟨z,hd,vs,rel,dd⟩:=pR I.aN e;obtain⟨w',hw,qC⟩:=fF.some_of (v:=v) (o:=valueAt vs k) (by rw[l];exact rel.val k);exact wpAny_getItem_of (iV ry) dd.mapOf hw<|h w' _ (I.tok _) qC;subst ey;cases (show u=Value.ref b from ry);obtain⟨z,hd,xs,rel,dd⟩:=vt I.aN e;obtain⟨w',hw,qC⟩:=fF.some_of (v:=v) (o:=(atKey xs k).map (·.2)) (by rw[l];exact rel.val k);obtain⟨p,hp,gD⟩:=Option.map_eq_some_iff.mp hw;refine wpAny_getItem_heap (tupleKind_room_in1 hu) (wL I.aN eb) dd hp ?_;rw[gD];exact h w' _ (I.tok _) qC
theorem aau(hu:A.units+1<cLine)(I:Inv X pins σ H s)(g:qD H a y o)(ry:RelV y u)(h:∀s',Inv X pins σ H s'->Q (.bool o.isSome) s'): wpAny (model X.prog X.w) A (compareOp .In u<|.ref a) Q E s:=by rcases g with⟨kvs,k,e,ey,l⟩|⟨kvs,k,b,e,ey,eb,l⟩;subst ey;obtain⟨z,hd,vs,rel,dd⟩:=pR I.aN e;refine wpAny_in_of (iV ry) hd dd.mapOf ?_;rw[<-(rel.val k).oz,<-l];exact h _<|I.tok _;subst ey;cases (show u=Value.ref b from ry);obtain⟨z,hd,xs,rel,dd⟩:=vt I.aN e;refine wpAny_in_heap (tupleKind_room_in1 hu) (wL I.aN eb) hd dd ?_;have q:=(rel.val k).oz;rw[Option.isSome_map]at q;rw[<-q,<-l];exact h _<|I.tok _
theorem rf(I:Inv X pins σ H s)(mu:U6<|H a)(hs:Heap.SameBut a s.heap h')(he:∃q,h'.get? a=some q)(new:bj X.prog X.w (upd H a ob) h' a ob): Inv X pins σ (upd H a ob) {s with heap:=h',toks:=t'}:=I.write (x:=a) (e:=a) mu (.inl rfl) (λb q hb z=>(hs.2 b hb).trans z) he new
theorem wM(z:kvs.length<=sizeLine)(hd:(a==sysModules)=false)(rel:KV kvs vs)(dd:h'.DictOf (aH P w) a vs): bj P w H' h' a (.dK kvs):=⟨z,hd,vs,rel,dd⟩
theorem G5(hu:A.units+1<cLine)(I:Inv X pins σ H s)(g:Jg H a y v H')(ry:RelV y u)(rv:RelV v r)(h:∀s',Inv X pins σ H' s'->Q () s'): wpAny (model X.prog X.w) A (setItem (.ref a) u r) Q E s:=by
 rcases g with⟨kvs,k,e,ey,l,eH⟩|⟨kvs,k,b,e,ey,eb,l,eH⟩;subst ey eH;obtain⟨z,hd,vs,rel,dd⟩:=AK I.aN e;have hz:vs.length<=sizeLine:=by rw[<-rel.length];exact z
 have hl:(putK kvs k v).length<=sizeLine:=by have:=jr kvs k v;lia
 refine wpAny_setItem_pairs (hsz:=hz) (iV ry) dd λh' Jh hs=>h _ ?_;have he:∃q,h'.get? a=some q:=by obtain⟨q,_,_,hq,_⟩:=Jh;exact⟨q,hq⟩
 exact rf I (by rw[e];exact True.intro) hs he<|wM hl hd (rel.put k rv) Jh;exact False.elim<|I.aN _ _ e
end
section
variable{X:Cx}{pins:io}{σ:St}{H:Hp}{s:Shared}{a:Addr}{kvs:fv}{k:Key}{u:Value}{A:Around}{E:lc}
theorem VJ(I:Inv X pins σ H s)(e:H a=some (.dK kvs))(ry:RelV (kV k) u)(l:gb kvs k=some v)(hm:more=[]\/∃x,more=[x])(h:∀w' s',Inv X pins σ (upd H a<|.dK<|pQ kvs k) s'->RelV v w'->Q w' s'):wpAny (model X.prog X.w) A (call (.builtin "dict.pop")<|.ref a::u::more) Q E s:=by
 obtain⟨z,hd,vs,rel,dd⟩:=AK I.aN e;obtain⟨w',hw,qC⟩:=fF.some_of (v:=v) (o:=valueAt vs k) (by rw[<-l];exact rel.val k);have hp:(keyPart u).isSome=true:=by cases k with|inl i=>(obtain⟨t,q⟩:=(show ∃t,u=Value.int i t from ry);subst q;rfl)|inr x=>obtain⟨t,q⟩:=(show ∃t,u=Value.str x t from ry);subst q;rfl
 have ha:argsOk "dict.pop" {.ref a::u::more,[]}:=by rcases hm with q|⟨x,q⟩;subst q;exact PySem.F.args_dict_pop_2 _ _;subst q;exact PySem.F.args_dict_pop_3 _ _ _
 refine call_meetsIn PySem.F.slot_dict_pop dd.typeIs PySem.F.entry_dict_pop ha (meets_dict_pop_there (aH X.prog X.w) a (iV ry) more hm hp) {vs,w',dd,by rw[<-rel.length];exact z,hw,λh' Jh hs=>h w' _ ?_ qC};have he:∃q,h'.get? a=some q:=by obtain⟨q,_,_,hq,_⟩:=Jh;exact⟨q,hq⟩
 exact rf I (by rw[e];exact True.intro) hs he<|wM (zO (Jf kvs k) z) hd (rel.drop k) Jh
theorem VL(I:Inv X pins σ H s)(e:Rd H a<|.dK kvs)(h:∀t s',Inv X pins σ H s'->Q (.int kvs.length t) s'):wpAny (model X.prog X.w) A (call (.builtin "len") [.ref a]) Q E s:=by obtain⟨z,hd,vs,rel,dd⟩:=pR I.aN e;refine call_len_dict hd dd (by rw[<-rel.length];rw[yf]at z;lia) ?_;rw[<-rel.length];exact h _ _<|I.tok _
end
def Rn(i:Expr):Prop:=∀ov iv,subscripted i false ov iv=operate [ov,iv] (getItem ov iv)
theorem MJ{prog:Program}{w:World}{A:Around}{E:lc}{s:Shared}{env:Env}{value slice:Expr}{pos:Pos}{T id:String}{Q:lc}(hl:typeLookup (.type T) "__getitem__"= pure (some<|.builtin id))(hs:Rn slice)(h:wpAny (model prog w) A (eval value env) (λo aU=>wpAny (model prog w) A (eval slice env) (λi bB=>bB.TypeIs o T/\wpAny (model prog w) A (getItem o i) Q E bB) E aU) E s): wpAny (model prog w) A (eval (.Subscript value slice pos) env) Q E s:=by
 refine Subscript_<|yw h (λo aU h₁=>yw h₁ (λi bB Ji=>?_) λ_ _ x=>x) λ_ _ x=>x;obtain⟨hT,Ji⟩:=Ji;unfold subscriptTail;refine zc ?_;rw[getitemInPython_of_ne hT.not_modules];refine zc<|wpAny_specialOf hT hl ?_;have fin:wpAny (model prog w) A (subscripted slice false o i) (λr uw=>wpAny (model prog w) A (letTemporaryGo value o r >>=λ_=>pure r) Q E uw) E bB:=by rw[hs o i];exact wpAny_operating<|yw Ji (λr uw MK=>zc<|wpAny_letTemporaryGo<|zA MK) λ_ _ x=>x
 first|exact zA (zc fin)|exact zc (zA<|zc fin)|exact zc fin
theorem AL(I:Inv X pins σ H s)(g:qD H a y o):s.TypeIs (.ref a) "dict":=by rcases g with⟨kvs,k,e,_,_⟩|⟨kvs,k,b,e,_,_,_⟩;obtain⟨_,_,vs,_,dd⟩:=pR I.aN e;exact dd.typeIs;obtain⟨_,_,xs,_,dd⟩:=vt I.aN e;exact dd.typeIs
def VM(td ty tv:TE):TS:=λD σ H=>tv σ H λv H1=>td σ H1 λx H2=>ty σ H2 λy H3=>∃a H4,x=.ref a/\Jg H3 a y v H4/\D.nx σ H4
section
variable{X:Cx}{o i value:Expr}{pos pos':Pos}{td ty tv:TE}
theorem ML(hu:X.A.units+1<cLine)(ho:PE X o td)(hi:PE X i ty)(hv:PE X value tv)(hs:swapsWith value (some<|.Subscript o i pos') pos.line X.env=pure false): PS X (.Assign [.Subscript o i pos'] value pos) (VM td ty tv):=by intro pins s σ H D I h;refine wpAny_Assign_Subscript (bb (hv pins s σ H _ I h) λr s1 ⟨v,H1,I1,rv,q1⟩=>bb (ho pins s1 σ H1 _ I1 q1) λu s2 ⟨x,H2,I2,rx,q2⟩=>bb (hi pins s2 σ H2 _ I2 q2) λiv s3 ⟨y,H3,I3,ry,a,H4,ex,g,q3⟩=>?_) hs;subst ex;obtain rfl:u=Value.ref a:=rx;exact G5 hu I3 g ry rv λs4 I4=>⟨σ,H4,I4,q3⟩
end
theorem AM(h:Heap)(hb:sysModules<h.objs.size):bj P w H (h.push {cls:=.type "dict",data:=.dict #[]}) h.objs.size (.dK []):={zV _,beq_eq_false_iff_ne.mpr<|Ne.symm<|zG hb,[],.nil,Heap.DictOf.new h}
def Ro:TE:=λ_ H Q=>∀p,H p=none->Q (.ref p) (upd H p<|.dK [])
section
variable{X:Cx}{pos:Pos}
theorem Jj:PE X (.Dict [] [] pos) Ro:=λpins s σ H Q I h=>wpAny_Dict_empty {.ref s.heap.objs.size,_,I.laid (a:=s.heap.objs.size) (o:=.dK []) (t':=s.toks) (λ_ _ q=>za _ q) (zq _)<|AM s.heap I.big,rfl,h _<|I.aN.fresh<|zq _}
end
def wN:List (TE×TE)->St->Hp->(List (V×V)->Hp->Prop)->Prop|[],_,H,Q=>Q [] H| (tk,tv)::r,σ,H,Q=>tk σ H λx H1=>tv σ H1 λy H2=>wN r σ H2 λps H3=>Q ((x,y)::ps) H3
abbrev VV:List (V×V)->List (Value×Value)->Prop:=Paired λp q=>RelV p.1 q.1/\RelV p.2 q.2
def VN(X:Cx)(pos:Pos)(keys:List<|Option Expr)(values:li)(O9:List<|TE×TE):Prop:=∀(pins:io)(s:Shared)(σ:St)(H:Hp)(Q:List (V×V)->Hp->Prop),Inv X pins σ H s->wN O9 σ H Q->wpAny (model X.prog X.w) X.A (evalPairs<|pairTrees keys values X.env pos) (λvs s'=>∃ps H',Inv X pins σ H' s'/\VV ps vs/\Q ps H') X.xe s
theorem MM:VN X pos [] [] []:=λpins s σ H Q I h=>pairTrees_nil_walk {[],H,I,.nil,h}
theorem Jl{X:Cx}{pos:Pos}{k v:Expr}{ks:List<|Option Expr}{vs:li}{tk tv:TE}{O9:List<|TE×TE}(hk:PE X k tk)(hv:PE X v tv)(hr:VN X pos ks vs O9): VN X pos (some k::ks) (v::vs) ((tk,tv)::O9):=λpins s σ H Q I h=>pairTrees_cons_walk<|bb (hk pins s σ H _ I h) λu s1 ⟨x,H1,I1,rx,q1⟩=>bb (hv pins s1 σ H1 _ I1 q1) λw2 s2 ⟨y,H2,I2,ry,q2⟩=>bb (hr pins s2 σ H2 _ I2 q2) λws s3 ⟨ps,H3,I3,rel,q3⟩=>{(x,y)::ps,H3,I3,.cons ⟨rx,ry⟩ rel,q3}
noncomputable def js(kvs more:fv):fv:=more.foldl (λacc kv=>putK acc kv.1 kv.2) kvs
theorem KV.merge:∀{more:fv}{rs:re}{kvs:fv}{vs:re},KV more rs->KV kvs vs->KV (js kvs more) (merged vs rs):=by intro more rs kvs vs r;unfold KV at r;induction r generalizing kvs vs with|nil=>intro q;exact q|@cons p q ps qs h t ih=>intro r0;have e:KV (putK kvs p.1 p.2) (stored vs q.1 q.2):=(by have:=r0.put p.1 h.2;rw[<-h.1];exact this);exact ih e
theorem kT:∀(more kvs:fv),(js kvs more).length<=kvs.length+more.length|[],kvs=>by show kvs.length<=kvs.length+0;lia|p::r,kvs=>by have h1:=kT r<|putK kvs p.1 p.2;have h2:=jr kvs p.1 p.2;show(js (putK kvs p.1 p.2) r).length<=_;rw[zQ];lia
theorem rZ:∀{kvs:fv}{ws:List (Value×Value)},VV (kvs.map λkv=>(kV kv.1,kv.2)) ws->∃rs,Carries (aH P w) ws rs/\KV kvs rs|[],_,r=>(by rw[List.map_nil]at r;cases r;exact{[],True.intro,.nil})|p::kvs,_,r=>by rw[zC]at r;cases r with|@cons a b as bs h t=>obtain⟨rs,c,q⟩:=rZ (P:=P) (w:=w) t;obtain⟨b1,b2⟩:=b;exact{(p.1,b2)::rs,{iV h.1,rfl,c},.cons ⟨rfl,h.2⟩ q}
def VO(O9:List<|TE×TE):TE:=λσ H Q=>∀p,H p=none->wN O9 σ (upd H p<|.dK []) λps H2=>H2 p=some (.dK [])/\∃kvs:fv,ps=kvs.map (λkv=>(kV kv.1,kv.2))/\kvs.length<=15/\Q (.ref p) (upd H2 p<|.dK<|js [] kvs)
theorem MN(h:VN X pos keys values O9)(AN:keys.all (·.isSome)=true)(hl:keys.length=values.length)(h0:keys≠[])(h15:keys.length<=15):PE X (.Dict keys values pos) (VO O9):=by
 intro pins s σ H Q I q;have hn:=I.aN.fresh<|zq s.heap.objs.size;have I1:=I.laid (a:=s.heap.objs.size) (o:=.dK []) (h':=s.heap.push {cls:=.type "dict",data:=.dict #[]}) (t':=s.toks) (λ_ _ q=>za _ q) (zq _)<|AM s.heap I.big;refine wpAny_Dict_walk (knd:=aH X.prog X.w) AN hl h0 h15<|bb (h pins _ σ _ _ I1<|q _ hn) ?_;rintro ws s2 ⟨ps,H2,I2,rel,e,kvs,ep,lk,q2⟩;subst ep;obtain⟨rs,c,rk⟩:=rZ (P:=X.prog) (w:=X.w) rel;obtain⟨z,hd,vs0,r0,dd⟩:=AK I2.aN e;cases r0;refine{rs,c,dd,λh' Jh hs=>{.ref s.heap.objs.size,_,?_,rfl,q2}};have hz:(js [] kvs).length<=sizeLine:=by have h1:=kT kvs [];rw[List.length_nil]at h1;rw[yf];lia
 have he:∃q,h'.get? s.heap.objs.size=some q:=by obtain⟨q,_,_,hq,_⟩:=Jh;exact⟨q,hq⟩
 exact rf I2 (by rw[e];exact True.intro) hs he<|wM hz hd (rk.merge .nil) Jh
structure M1(X:Cx)(o:Expr)(m:Str)(apos:Pos)(e:Expr)(aO:Pos):Prop where
 base:attributeBase o m X.env (eval o X.env)=eval o X.env
 Iu:((backTo aO<|starEach [e] X.env).all (λx=>!x.1)&&(backToKw aO<|keywordEach [] X.env).all (λx=>x.1.isSome)
  && decide (([e]:li).length+([]:py).length+(if ([]:py).isEmpty then 0 else 1)<30))=true
 line:(apos.endLine==aO.line)=true
 trees:backTo aO (starEach [e] X.env)=[(false,eval e X.env)]
structure M2(X:Cx)(o:Expr)(m:Str)(apos:Pos)(e f:Expr)(aO:Pos):Prop where
 base:attributeBase o m X.env (eval o X.env)=eval o X.env
 Iu:((backTo aO<|starEach [e,f] X.env).all (λx=>!x.1)&&(backToKw aO<|keywordEach [] X.env).all (λx=>x.1.isSome)
  && decide (([e,f]:li).length+([]:py).length+(if ([]:py).isEmpty then 0 else 1)<30))=true
 line:(apos.endLine==aO.line)=true
 trees:backTo aO (starEach [e,f] X.env)=[(false,eval e X.env),(false,eval f X.env)]
def Us(H:Hp)(a:Addr):Prop:=(∃kvs,Rd H a<|.dK kvs)\/∃kvs,Rd H a<|.dT kvs
theorem wO(I:Inv X pins σ H s)(d:Us H a): s.TypeIs (.ref a) "dict"/\(∀b,Value.ref a=.ref b->∃ob,s.heap.get? b=some ob/\ob.dict=none)/\(a==sysModules)=false:=by rcases d with⟨kvs,e⟩|⟨kvs,e⟩;obtain⟨_,hd,vs,_,dd⟩:=pR I.aN e;refine{dd.typeIs,λb q=>?_,hd};cases q;obtain⟨ob,_,_,h1,h2,_⟩:=dd;exact⟨ob,h1,h2.2.1⟩;obtain⟨_,hd,xs,_,dd⟩:=vt I.aN e;refine{dd.typeIs,λb q=>?_,hd};cases q;obtain⟨ob,_,_,h1,h2,_⟩:=dd;exact⟨ob,h1,h2.2.1⟩
section
variable{X:Cx}{pins:io}{σ:St}{H:Hp}{s:Shared}{a:Addr}{y d:V}{u r:Value}{o:Option V}{A:Around}{E:lc}
theorem Rp(hu:A.units+1<cLine)(I:Inv X pins σ H s)(g:qD H a y o)(ry:RelV y u)(h:∀w' s',Inv X pins σ H s'->RelV (o.getD .av) w'->Q w' s'): wpAny (model X.prog X.w) A (call (.builtin "dict.get") [.ref a,u]) Q E s:=by rcases g with⟨kvs,k,e,ey,l⟩|⟨kvs,k,b,e,ey,eb,l⟩;subst ey;obtain⟨z,hd,vs,rel,dd⟩:=pR I.aN e;refine call_meetsIn yz dd.typeIs PySem.F.entry_dict_get (PySem.F.args_dict_get_2 _ _) (meets_dict_get (aH X.prog X.w) a (iV ry) hd) {_,dd.mapOf,h _ _ (I.tok _) ?_};rw[l];exact(rel.val k).getD rfl;subst ey;cases (show u=Value.ref b from ry);obtain⟨z,hd,xs,rel,dd⟩:=vt I.aN e;refine call_meetsIn yz dd.typeIs PySem.F.entry_dict_get (PySem.F.args_dict_get_2 _ _) (meetsH_dict_get (tupleKind<|aH X.prog X.w) a b hd) {tupleKind_room_in1 hu,k,xs,wL I.aN eb,dd,h _ _ (I.tok _) ?_};rw[l];exact(rel.val k).getD rfl
theorem Rq(hu:A.units+1<cLine)(I:Inv X pins σ H s)(g:qD H a y o)(ry:RelV y u)(rd:RelV d r)(h:∀w' s',Inv X pins σ H s'->RelV (o.getD d) w'->Q w' s'): wpAny (model X.prog X.w) A (call (.builtin "dict.get") [.ref a,u,r]) Q E s:=by rcases g with⟨kvs,k,e,ey,l⟩|⟨kvs,k,b,e,ey,eb,l⟩;subst ey;obtain⟨z,hd,vs,rel,dd⟩:=pR I.aN e;refine call_meetsIn yz dd.typeIs PySem.F.entry_dict_get (PySem.F.args_dict_get_3 _ _ _) (meets_dict_get_default (aH X.prog X.w) a (iV ry) hd r) {_,dd.mapOf,h _ _ (I.tok _) ?_};rw[l];exact(rel.val k).getD rd;subst ey;cases (show u=Value.ref b from ry);obtain⟨z,hd,xs,rel,dd⟩:=vt I.aN e;refine call_meetsIn yz dd.typeIs PySem.F.entry_dict_get (PySem.F.args_dict_get_3 _ _ _) (meetsH_dict_get_default (tupleKind<|aH X.prog X.w) a b hd r) {tupleKind_room_in1 hu,k,xs,wL I.aN eb,dd,h _ _ (I.tok _) ?_};rw[l];exact(rel.val k).getD rd
end
def Rr(td ty:TE):TE:=λσ H Q=>td σ H λx H1=>∃a,x=.ref a/\Us H1 a/\ty σ H1 λy H2=>∃o,qD H2 a y o/\Q (o.getD .av) H2
def Ru(td ty tx:TE):TE:=λσ H Q=>td σ H λx H1=>∃a,x=.ref a/\Us H1 a/\ty σ H1 λy H2=>tx σ H2 λz H3=>∃o,qD H3 a y o/\Q (o.getD z) H3
def Rw(td ty:TE):TE:=λσ H Q=>td σ H λx H1=>∃a,x=.ref a/\Us H1 a/\ty σ H1 λy H2=>∃kvs k v,H2 a=some (.dK kvs)/\y=kV k/\gb kvs k=some v/\Q v (upd H2 a<|.dK<|pQ kvs k)
section
variable{X:Cx}{o e f:Expr}{apos aO:Pos}{td ty tx:TE}
theorem Jm(hu:X.A.units+1<cLine)(ho:PE X o td)(he:PE X e ty)(m:M1 X o "get" apos e aO):PE X (.Call (.Attribute o "get" apos) [e] [] aO) (Rr td ty):=by intro pins s σ H Q I h;refine wpAny_Call_method m.base m.Iu m.line PySem.F.plainAttrs_dict yz PySem.F.type_dict_get<|bb (ho pins s σ H _ I h) ?_;rintro u s1 ⟨x,H1,I1,rx,a,ex,d,q1⟩;subst ex;obtain rfl:u=Value.ref a:=rx;obtain⟨t1,t2,_⟩:=wO I1 d;refine{t1,t2,?_};rw[m.trees];refine Calls.callWith_builtin rfl<|Calls.evalArgs_plain<|yF<|bb (he pins s1 σ H1 _ I1 q1) λiv s2 ⟨y,H2,I2,ry,ov,g,q2⟩=>Calls.spliced_nil ?_;exact Rp hu I2 g ry λw' s3 I3 qC=>{_,H2,I3,qC,q2}
theorem Jn(hu:X.A.units+1<cLine)(ho:PE X o td)(he:PE X e ty)(hf:PE X f tx)(m:M2 X o "get" apos e f aO):PE X (.Call (.Attribute o "get" apos) [e,f] [] aO) (Ru td ty tx):=by intro pins s σ H Q I h;refine wpAny_Call_method m.base m.Iu m.line PySem.F.plainAttrs_dict yz PySem.F.type_dict_get<|bb (ho pins s σ H _ I h) ?_;rintro u s1 ⟨x,H1,I1,rx,a,ex,d,q1⟩;subst ex;obtain rfl:u=Value.ref a:=rx;obtain⟨t1,t2,_⟩:=wO I1 d;refine{t1,t2,?_};rw[m.trees];refine Calls.callWith_builtin rfl<|Calls.evalArgs_plain<|yF<|bb (he pins s1 σ H1 _ I1 q1) λiv s2 ⟨y,H2,I2,ry,q2⟩=>yF<|bb (hf pins s2 σ H2 _ I2 q2) λfv s3 ⟨z,H3,I3,rz,ov,g,q3⟩=>Calls.spliced_nil ?_;exact Rq hu I3 g ry rz λw' s4 I4 qC=>{_,H3,I4,qC,q3}
theorem Jo(ho:PE X o td)(he:PE X e ty)(m:M1 X o "pop" apos e aO):PE X (.Call (.Attribute o "pop" apos) [e] [] aO) (Rw td ty):=by intro pins s σ H Q I h;refine wpAny_Call_method m.base m.Iu m.line PySem.F.plainAttrs_dict PySem.F.slot_dict_pop PySem.F.type_dict_pop<|bb (ho pins s σ H _ I h) ?_;rintro u s1 ⟨x,H1,I1,rx,a,ex,d,q1⟩;subst ex;obtain rfl:u=Value.ref a:=rx;obtain⟨t1,t2,_⟩:=wO I1 d;refine{t1,t2,?_};rw[m.trees];refine Calls.callWith_builtin rfl<|Calls.evalArgs_plain<|yF<|bb (he pins s1 σ H1 _ I1 q1) λiv s2 ⟨y,H2,I2,ry,kvs,k,v,ea,ey,l,q2⟩=>Calls.spliced_nil ?_;subst ey;exact VJ I2 ea ry l (.inl rfl) λw' s3 I3 qC=>{v,_,I3,qC,q2}
end
end L2
namespace Att
open PySem PySem.W PySem.Calls PyProof.Rows
theorem qE{P:Params} : ∀(ns:rp)(vs:dL),WellAll P h vs (ns.map WData.int)->IntsAre vs ns:=by intro ns;induction ns with|nil=>(intro vs w;rw[List.map_nil]at w;cases w;exact .nil)|cons n ns ih=>intro vs w;rw[zC]at w;cases w with|cons a b=>cases a;exact .cons _ _<|ih _ b
theorem G6{l:OpenLaw}{n:Nat}(hn:l.most=some n){P:Params}{h:Heap}{args:List WData}{vals:dL}(MO:l.row.toRowW.claim.pre args=true)(hwl:WellAll P h vals args): ∃a vs ns,vals=[Value.ref a]/\args=[WData.list<|ns.map WData.int]/\h.get? a=some {cls:=.type "list",data:=.seq vs.toArray}/\IntsAre vs ns/\ns.length<=n:=by
 have hsh:WShape.hasAll [] args [.list .int]=true:=(pre_splitW MO).1;have hc:l.pre.holds [] {args:=args}=true:=(pre_splitW MO).2;obtain⟨d,r,rfl,h1,h2⟩:=hasAllW_cons hsh;obtain rfl:=hasAllW_nil h2;obtain⟨xs,rfl,h3⟩:=hasW_list h1;obtain⟨ns,rfl⟩:=items_int h3;have hlen:ns.length<=n:=by unfold OpenLaw.pre at hc;have h4:(WTm.not<|.lt (.lit<|.int (n:Int))<|.len<|.arg 0).holds [] {args:=[.list<|ns.map .int]}=true:=(by have h4:=(holds_andW hc).1;rw[hn]at h4;exact h4);have h5:=condW_of h4<|w_not<|w_lt w_lit<|w_len_list<|w_arg rfl;rw[zb]at h5;refine Nat.le_of_not_lt λq=>?_;have q':(n:Int)<((ns.length:Nat):Int):=(by lia);first| (rw[zr q']at h5;exact absurd h5<|by decide)| (simp at h5;lia)
 cases hwl with|cons w1 w2=>cases w2;cases w1 with|list ho AN=>exact{_,_,ns,rfl,rfl,ho,qE ns _ AN,hlen}
theorem G7(l:OpenLaw)(args:List WData):l.row.toRowW.claim.post args (.bool true) args=true:=postW_of (r:=l.row.toRowW) (X:=(true==true)) (show WShape.has [] (.bool true) .bool=true by first|rfl|decide|simp[WShape.has,WShape.arms,WShape.armsAll]) (show(WTm.eq .res<|.lit<|.bool true).value [] {args:=args,res:=some<|.bool true,after:=args}=some (.bool<|true==true) from w_eq_bool (w_res rfl) w_lit) rfl
theorem AO{l:OpenLaw}{n:Nat}{q:Program}{loose:j4}{XP:(Str->Option Value)->Heap->Prop}{YP:World->Heap->Prop}{d:DefRec}(hn:l.most=some n)(VP:d.params.defaults=[])(call:∀(w:World)(dw aU:Shared)(mg mb:Str->Option Value)(fa:Addr)(o:Obj)(pm cd doc:Value)(a:Addr)(vs:dL)(ns:rp),Ground q loose [] XP w dw mg mb aU.heap->YP w aU.heap->aU.heap.get? fa=some o->o.data=.func (docDef d.name d.params d.body d.scope pm cd doc)->aU.heap.CodeRec cd d.name->mg d.name=some (.ref fa)->aU.heap.get? a=some {cls:=.type "list",data:=.seq vs.toArray}->IntsAre vs ns->ns.length<=n->aU.gens=#[]->codeAny (model l.prog w) callerA (.call (.ref fa) {[.ref a],[]}) (λr s'=>r=.ok (.ret<|.bool true)/\OldK aU.heap s'.heap/\s'.os=aU.os/\AllBare s'.gens) aU): WalkO q loose XP YP l.row.toRowW d [] (λf vs=>PySem.call f vs):=by intro w dw aU mg mb G Y fa o pm cd doc dV kV ho hd uh hD Rx hg args vals as MO aeM hrd hwl hlo;obtain rfl:dV=.none:=Dflts.none hD VP;obtain rfl:kV=.none:=Dflts.noKw hD;obtain⟨a,vs,ns,rfl,rfl,Ry,hints,hlen⟩:=G6 hn MO hwl;refine enter_call<|yW (call w dw aU mg mb fa o pm cd doc a vs ns G Y ho (fd_plain hd) uh Rx Ry hints hlen hg) λr s' hq=>?_;obtain⟨rfl,h2,h3,h4⟩:=hq;exact{.inl {.bool true,.bool true,[],rfl,λ_=>rfl,.bool true,G7 l _,λ_=>{List.Pairwise.nil,λ_ hm=>(nomatch hm)}},h2,h3,h4}
end Att
namespace L2
open PySem PySem.Spec PyProof.Rows
theorem vA:∀{vs:dL}{ns:rp},IntsAre vs ns->Vals (ns.map V.int) vs|_,_,.nil=>.nil|_,_,.cons n t h=>.cons ⟨t,rfl⟩<|vA h
def inClass(s:Stmt)(j:Nat):Stmt:=match s with|.ClassDef _ _ _ body _ _ _ _ _ _ _=>body.getD j (.Pass {0,0,0,0})|_=>.Pass {0,0,0,0}
def aZ(s:Stmt):Arguments:=match s with|.FunctionDef _ a _ _ _ _ _ _ _ _=>a|_=>{posonlyargs:=[],args:=[],vararg:=none,kwonlyargs:=[],kw_defaults:=[],kwarg:=none,defaults:=[]}
def aX(s:Stmt):mt:=match s with|.FunctionDef _ _ b _ _ _ _ _ _ _=>b|_=>[]
def ai(s:Stmt):Scope:=match s with|.FunctionDef _ _ _ _ _ _ sc _ _ _=>sc|_=>{kind:=.function,names:=[],isGenerator:=false,isCoroutine:=false}
abbrev YL:CT:=λ_ _ _ _ _ _=>False
abbrev E0:XK:=λ_ _ _=>False
structure Fun(K:Frag)(x qual:Str)(st:Stmt)(f:Addr)(fd:FuncData):Prop where
 ex:∃(oc:Value)(od:pi)(kV doc pm:Value)(an:pi)(gT ct:Value)(Q7:sB),
  fd=fnOf x qual (aZ st) (aX st) (ai st) .none kV doc pm an gT ct/\K.lookup f=some {oc,od,.func fd,Q7}/\codeIn K gT qual=true
 kp:keepIn K (.ref f)=true
theorem j_(h:n<=1000):n<sizeLine:=Nat.lt_of_le_of_lt h<|by decide
section
variable{X:Cx}
theorem G8:fh X (.builtin "len") (λxs H Q=>∃a kvs,xs=[V.ref a]/\H a=some (.dK kvs)/\Q (.int kvs.length) H):=by intro pins s σ H xs us Q I r h;obtain⟨a,kvs,rfl,ha,q⟩:=h;obtain⟨u,rfl,ru⟩:=vals1 r;cases ru;exact VL I (.inl ha) λt s' I'=>{.int kvs.length,H,I',⟨t,rfl⟩,q}
end
theorem aY{A B:Prop}(h:B):if false=true then A else B:=by rw[if_neg zd];exact h
theorem ee{A B:Prop}(h:A):if true=true then A else B:=by rw[if_pos rfl];exact h
section
variable{κ:Type}[DecidableEq κ]
theorem mG:∀{l:List κ}{k:κ},l.Nodup->¬k∈l->(l++[k]).Nodup|[],k,_,_=>by simp|a::r,k,h,hk=>by obtain⟨h1,h2⟩:=yq.mp h;show(a::(r++[k])).Nodup;refine yq.mpr {λm=>?_,mG h2 λm=>hk<|zm.mpr<|Or.inr m};rcases zN.mp m with q|q;exact h1 q;exact hk<|zm.mpr<|Or.inl (zE.mp q).symm
end
end L2
set_option maxHeartbeats 4000000
namespace L2
open PySem PySem.Spec PyProof.Rows
section
variable{X:Cx}
noncomputable def Iv(i j:Str):Bool:=!decide (j.cps.toList<i.cps.toList)
noncomputable def vB(i j:Str):Bool:=decide<|i.cps.toList<j.cps.toList
def rS2(g:Str->Str->Bool):R2:=λx y H Q=>∃i j,x=.str i/\y=.str j/\Q (.bl<|g i j) H
theorem G9:iz X (compareOp .LtE) (rS2 Iv):=by intro pins s σ H x y v u Q I rx ry h;obtain⟨i,j,rfl,rfl,q⟩:=h;obtain⟨t,rfl⟩:=rx;obtain⟨t',rfl⟩:=ry;exact P.le_str<|aJ I q rfl
theorem G_:iz X (compareOp .GtE) (rS2 λi j=>Iv j i):=by intro pins s σ H x y v u Q I rx ry h;obtain⟨i,j,rfl,rfl,q⟩:=h;obtain⟨t,rfl⟩:=rx;obtain⟨t',rfl⟩:=ry;exact P.ge_str<|aJ I q rfl
theorem Ha:iz X (compareOp .Gt) (rS2 λi j=>vB j i):=by intro pins s σ H x y v u Q I rx ry h;obtain⟨i,j,rfl,rfl,q⟩:=h;obtain⟨t,rfl⟩:=rx;obtain⟨t',rfl⟩:=ry;exact P.gt_str<|aJ I q rfl
def O_(_ j:Int):Prop:=0<j/\j.natAbs.log2<9000
theorem Jp:iz X (binaryOp .FloorDiv) (rI O_ λi j=>.int<|i/j):=YG λi j _ _ _ _ _ hc q=>by
 have hj:j≠0:=by have:=hc.1;omega
 exact floordiv_int hj (by rw[Int.fdiv_eq_ediv_of_nonneg _<|by have:=hc.1;omega];exact q)<|.inl<|PyProof.noPylong_of_log2 hc.2
end
noncomputable def Its(x:Str):It:={λi _=>i<x.cps.size,λi H v H'=>H'=H/\∃c,x.cps[i]?=some c/\v=.str ⟨#[c]⟩,λi _=>x.cps.size<=i}
theorem AQ{P:Program}{w:World}{K:Frag}{tg:Expr}{T:String}(hT:["enumerate","zip","dict_itemiterator","dict_reverseitemiterator","odict_iterator","itertools.zip_longest","itertools.pairwise"].contains T=false)(it:Addr)(x:Str)(t:Tok)
  (W:∀A':Around,A'.handled=none->Walks P w A' it [it] [it] x.cps.size (SignAt x) (λi h=>h.IsStrIter it T x t i))
  (aaz:∀(A:Around)(s:Shared)(E:lc)(i:Nat)(Q:Option Value->Shared->Prop),A.handled=none->s.heap.IsStrIter it T x t i->x.cps[i]?=none->(∀h',Heap.ExtBut it s.heap h'->Q none {s with heap:=h'})->wpAny (model P w) A (pyNext<|.ref it) Q E s)
  (VQ:∀(A:Around)(s:Shared)(E:lc)(i:Nat)(Q:lc),s.heap.IsStrIter it T x t i->Q (.ref it) s->wpAny (model P w) A (pyIter<|.ref it) Q E s):
  Turn P w K tg (Its x) [it] it (λi h=>h.IsStrIter it T x t i) where
 mem:=by simp
 obj:=λi h st b hb=>by
  have e:b=it:=by simpa using hb
  subst e
  obtain⟨o,e,c,d⟩:=st
  exact{o,e,λv z=>by rw[d]at z;cases z}
 keep:=λi h h' st k=>by
  obtain⟨o,e,c,d⟩:=st
  exact{o,k it (by simp) o e,c,d}
 item:=by
  intro X hP hw hK hc i pins s σ H E I hf st hg
  subst hP hw hK
  obtain⟨f0,f1,f2,f3,f4,f5⟩:=hf it<|by simp
  refine(W X.A<|I.ok.hd hc).item i s _ _ hg st λv h' tk hv e_ kk=>?_
  obtain⟨c,u,MP,rfl⟩:=hv
  have I1:Inv X pins σ H {s with heap:=h',toks:=tk}:=I.turned (λb o hb e=>kk b o (by simpa using hb) e) f0 f1 f3 f4 f5
  obtain⟨o,e,c',d⟩:=id e_
  exact{_,rfl,vg (s:={s with heap:=h',toks:=tk}) e c' d hT {.str ⟨#[c]⟩,H,I1,⟨u,rfl⟩,⟨rfl,c,MP,rfl⟩,e_,λb hb=>(hf b hb).1}}
 done:=by
  intro X hP hw hK hc i pins s σ H E I hf st hg
  subst hP hw hK
  obtain⟨f0,f1,f2,f3,f4,f5⟩:=hf it<|by simp
  have hg:x.cps.size<=i:=hg
  exact aaz X.A s E i _ (I.ok.hd hc) st (by simp;exact hg) λh' eb=>{rfl,I.turned (t':=s.toks) (λb o hb e=>eb b o hb e) f0 f1 f3 f4 f5}
 self:=λA' i s Q E st h=>VQ A' s E i Q st h
section
variable{X:Cx}{tg:Expr}
def aaA(tl:TE):TI:=λσ H R=>tl σ H λx H1=>∃z,x=.str z/\R (Its z) H1
theorem Rz(hl:PE X l tl):PI X tg l (aaA tl):=by
 intro pins s σ H R I h;refine bb (hl pins s σ H _ I h) ?_;rintro v s1 ⟨x,H1,I1,r1,q1⟩;obtain⟨z,e,q⟩:=q1;subst e;obtain⟨t,rfl⟩:=r1;have fin:∀(T:String)(_:Turn X.prog X.w X.K tg (Its z) [s1.heap.objs.size] s1.heap.objs.size (λi h=>h.IsStrIter s1.heap.objs.size T z t i)),Z6 X pins σ tg R (.ref s1.heap.objs.size) {s1 with heap:=s1.heap.push {cls:=.type T,data:=.fields #[.str z t,.int 0 0]}}:=λT tn=>by refine{s1.heap.objs.size,[s1.heap.objs.size],_,_,H1,rfl,I1.kept (t':=s1.toks) λb o e=>za _ e,tn,{_,zk _ rfl,rfl,rfl},λb hb=>?_,q};have e:b=s1.heap.objs.size:=(by simpa using hb);subst e;exact I1.qz (zq _)<|I1.aN.fresh<|zq _
 cases ha:z.cps.all (·<128);exact wpAny_pyIter_wide ha<|fin _<|AQ (by decide) _ z t (λA' hA=>Walks.strWide hA _ z t) (λA s E i Q hh st hx hQ=>wpAny_pyNext_wide_end hh st hx hQ) λA s E i Q st hq=>wpAny_pyIter_striter_wide st hq;exact wpAny_pyIter_ascii ha<|fin _<|AQ (by decide) _ z t (λA' hA=>Walks.strAscii hA _ z t) (λA s E i Q hh st hx hQ=>wpAny_pyNext_ascii_end hh st hx hQ) λA s E i Q st hq=>wpAny_pyIter_striter_ascii st hq
end
noncomputable def clOf(cells:sK)(names:List<|Str×NameKind):sK:=names.foldl (λcs p=>if p.2==.free then match cells.lookup p.1 with|some a=>(p.1,a)::cs|none=>cs else cs) []
theorem r9(cells:sK):∀(names:List (Str×NameKind))(cs:sK),(∀x c,cs.lookup x=some c->cells.lookup x=some c)->∀x c,(names.foldl (λcs p=>if p.2==.free then match cells.lookup p.1 with|some a=>(p.1,a)::cs|none=>cs else cs) cs).lookup x=some c->cells.lookup x=some c|[],cs,h=>h| (n,k)::r,cs,h=>by rw[yQ];refine r9 cells r _ λx c e=>?_;dsimp only at e;split at e;split at e;rename_i a ha;rw[zW]at e;split at e;rename_i hx;have:=LawfulBEq.eq_of_beq hx;cases e;rw[this];exact ha;exact h x c e;exact h x c e;exact h x c e
theorem vE(cells:sK):∀(names:List (Str×NameKind))(cs:sK)(x:Str)(c:Addr),(∀y c,cs.lookup y=some c->cells.lookup y=some c)->cs.lookup x=some c->(names.foldl (λcs p=>if p.2==.free then match cells.lookup p.1 with|some a=>(p.1,a)::cs|none=>cs else cs) cs).lookup x=some c
 |[],cs,x,c,_,h=>h
 | (n,k)::r,cs,x,c,hs,h=>by
  rw[yQ];have Pa:∀y c,(if (k==NameKind.free)=true then match cells.lookup n with|some a=>(n,a)::cs|none=>cs else cs).lookup y=some c->cells.lookup y=some c:=by intro y c e;split at e;split at e;rename_i a ha;rw[zW]at e;split at e;rename_i hx;have:=LawfulBEq.eq_of_beq hx;cases e;rw[this];exact ha;exact hs y c e;exact hs y c e;exact hs y c e
  refine vE cells r _ x c Pa ?_;dsimp only;split;split;rename_i a ha;rw[zW];split;rename_i hx;have:=LawfulBEq.eq_of_beq hx;rw[this]at h;have:=hs _ _ h;rw[ha]at this;exact this;exact h;exact h;exact h
theorem jt(cells:sK):∀(names:List (Str×NameKind))(cs:sK)(x:Str)(c:Addr),(∀y c,cs.lookup y=some c->cells.lookup y=some c)->(x,NameKind.free)∈names->cells.lookup x=some c->(names.foldl (λcs p=>if p.2==.free then match cells.lookup p.1 with|some a=>(p.1,a)::cs|none=>cs else cs) cs).lookup x=some c
 |[],cs,x,c,_,h,_=>nomatch h
 | (n,k)::r,cs,x,c,hs,h,hc=>by
  rw[yQ];have Pa:∀y c,(if (k==NameKind.free)=true then match cells.lookup n with|some a=>(n,a)::cs|none=>cs else cs).lookup y=some c->cells.lookup y=some c:=by intro y c e;split at e;split at e;rename_i a ha;rw[zW]at e;split at e;rename_i hx;have:=LawfulBEq.eq_of_beq hx;cases e;rw[this];exact ha;exact hs y c e;exact hs y c e;exact hs y c e
  rcases zm.mp h with e|h;cases e;refine vE cells r _ _ c Pa ?_;dsimp only;rw[if_pos<|show(NameKind.free==NameKind.free)=true by decide,hc];simp[zW];exact jt cells r _ x c Pa h hc
theorem gE{scope:Scope}{env:Env}(h:∀x∈scope.names,x.2=.free->∃c,env.cells.lookup x.1=some c):closureFor scope env=pure (clOf env.cells scope.names):=by
 have go:∀(names:List (Str×NameKind))(cs:sK),(∀x∈names,x.2=.free->∃c,env.cells.lookup x.1=some c)->(forIn names cs λx r=>match x with|(name,kind)=>if (kind==NameKind.free)=true then do let a <-cellOf env name;pure (ForInStep.yield<|(name,a)::r) else pure (ForInStep.yield r):Sem (List<|Str×Addr))=pure (names.foldl (λcs p=>if p.2==.free then match env.cells.lookup p.1 with|some a=>(p.1,a)::cs|none=>cs else cs) cs):=by intro names;induction names with|nil=>intro cs _;rfl|cons p r ih=>intro cs hp;obtain⟨n,k⟩:=p;rw[List.forIn_cons,yQ];by_cases hk:k=.free;subst hk;obtain⟨c,hc⟩:=hp _ zj rfl;have hc:env.cells.lookup n=some c:=hc;have e1:cellOf env n=pure c:=(by unfold cellOf;rw[hc]);have ef:(NameKind.free==NameKind.free)=true:=(by decide);dsimp only;rw[if_pos ef,if_pos ef,e1,hc];exact ih _ λx hx=>hp x<|zg _ hx;have Jq:(k==NameKind.free)=false:=(by simpa using hk);dsimp only;rw[Jq,if_neg zd,if_neg zd];exact ih _ λx hx=>hp x<|zg _ hx
 have e:=go scope.names [] h;have e2:closureFor scope env=(forIn scope.names [] (λx r=>match x with|(name,kind)=>if (kind==NameKind.free)=true then do let a <-cellOf env name;pure (ForInStep.yield<|(name,a)::r) else pure (ForInStep.yield r)):Sem (List<|Str×Addr)) >>=λcs=>pure cs:=rfl;rw[e2,e];rfl
theorem ju{env:Env}{names:List<|Str×NameKind}{x:Str} : (names.map λ(n,k)=>if (k==NameKind.free&&env.scope.kind==.function&&env.kindOf n==some .cell) then (n,NameKind.cell) else (n,k)).lookup x=(names.lookup x).map λk=>if (k==NameKind.free&&env.scope.kind==.function&&env.kindOf x==some .cell) then NameKind.cell else k:=by induction names with|nil=>rfl|cons p r ih=>obtain⟨n,k⟩:=p;rw[zC,zW];by_cases hc:(k==NameKind.free&&env.scope.kind==.function&&env.kindOf n==some .cell)=true;dsimp only;rw[if_pos hc,zW];(cases hx:x==n with|true=>have:=LawfulBEq.eq_of_beq hx;subst this;dsimp only[Option.map];rw[if_pos hc]|false=>exact ih);dsimp only;rw[if_neg hc,zW];cases hx:x==n with|true=>have:=LawfulBEq.eq_of_beq hx;subst this;dsimp only[Option.map];rw[if_neg hc]|false=>exact ih
noncomputable def gm(X:Cx)(N:j4)(scope:Scope)(C:Addr)(s:Shared)(H:Hp)(ex:im)(pn:io):Cx:={X with N:=N,dw:=s,wG:=H,env:=compEnvC scope (clOf X.env.cells scope.names) C X.env,outer:=X.stack,ex:=ex,fn:=λ_=>false,pn:=pn,xe:=λ_ _=>False}
noncomputable def pick(σ:St)(src:List<|Option Nat):St:=src.map λo=>match o with|some j=>(σ[j]?).join|none=>none
structure bc(X:Cx)(N:j4)(src:ul)(scope:Scope):Prop where
 kind:scope.kind=.function
 gF:∀y∈scope.names,y.2≠.cell
 loc:∀y∈scope.names,y.2=.local->scope.names.lookup y.1=some .local
 Cr:∀y∈scope.names,y.2=.free->X.env.kindOf y.1=some .cell\/X.env.kindOf y.1=some .free
 len:src.length=N.length
 src:∀(i j:Nat)(x:Str),src[i]?=some (some j)->N[i]?=some x->X.N[j]?=some x/\scope.names.lookup x=some .free/\Qv X.env.scope x
def Ext(σ aG:St):Prop:=aG.length=σ.length/\∀(j:Nat) v,σ[j]?=some (some v)->aG[j]?=some (some v)
def C3(g:TG)(src:List<|Option Nat):Prop:=∀x σ H Q,g x (pick σ src) H Q->g x (pick σ src) H λaG H'=>Ext (pick σ src) aG/\Q aG H'
def Jr(wi:TI)(src:List<|Option Nat)(g:TG)(tc:TT)(te:TE):TE:=λσ H Q=>wi σ H λJ H1=>∃W:Nat->Nat->List V->Hp->Prop,(∃m,W 0 m [] H1)/\∀i m out H',W i m out H'->(J.stop i H'/\∀D,H' D=none->Q (.ref D) (upd H' D<|.lst out))\/(J.go i H'/\out.length<sizeLine/\∀x H2,J.Vl i H' x H2->g x (pick σ src) H2 λf_ H3=>tc f_ H3 λb H4=>if b=true then te f_ H4 λv H5=>∃m',m'<m/\W (i+1) m' (out++[v]) H5 else ∃m',m'<m/\W (i+1) m' out H4)
section
variable{X:Cx}{N:j4}{src:ul}{scope:Scope}{tg iter elt:Expr}{ifs:li}{pos:Pos}{wi:TI}{g:TG}{tc:TT}{te:TE}
def Ut(X:Cx)(ifs:li)(t:TT):Prop:=∀(pins:io)(s:Shared)(σ:St)(H:Hp)(Q:Bool->Hp->Prop),Inv X pins σ H s->t σ H Q->wpAny (model X.prog X.w) X.A (forIn ifs true λc r=>if r=true then do let ok <-isTrue c X.env (eval c X.env);pure (ForInStep.yield ok) else pure (ForInStep.yield r)) (TP X pins σ Q) X.xe s
def VR:TT:=λ_ H Q=>Q true H
theorem MQ:Ut X [] VR:=λpins s σ H Q I h=>wpAny_tests_nil ⟨H,I,h⟩
theorem MR{t:TT}(h:PT X c t):Ut X [c] t:=λpins s σ H Q I hw=>wpAny_tests_one<|h pins s σ H Q I hw
theorem kE(Uu:∀x s',EE x s'->notedBy (model prog w) A env (λe s'=>R (.error e) s') x s')(I:Nat->Shared->Prop)
  (turn:∀n s,I n s->wpAny (model prog w) A (pyNext it) (λr aU=>match r with
   |none=>R (.ok .next) aU
   |some v=>wpAny (model prog w) A (letOwnedTupleGo target it v) (λ_ Pb=>wpAny (model prog w) A (assign target env v) (λ_ bB =>
     wpAny (model prog w) A (forIn ifs true λc r=>if r=true then do let ok <-isTrue c env (eval c env);pure (ForInStep.yield ok) else pure (ForInStep.yield r)) (λok uw =>
      if ok=true then wpAny (model prog w) A (eval elt env) (λx AR =>
       wpAny (model prog w) A (call (.builtin "list.append") [acc,x]) (λ_ VS=>∃m,m<n/\I m VS) EE AR) EE uw
      else ∃m,m<n/\I m uw) EE bB) EE Pb) EE aU) EE s)
  (n:Nat) (h:I n s):
  codeAny (model prog w) A (.compLoop (.ListComp elt [{target,iter,ifs,0}] scope pos) 0 it acc env) R s:=by
 refine codeAny_loop rfl I (λn s hI=>?_) n h
 show wpAny _ A ((compTurn (.ListComp elt [{target,iter,ifs,0}] scope pos) 0 it acc env).onRaise λx=>do noteFrame x env;theTreesLotGoes x) _ _ s
 refine wpAny_noted ?_
 rw[compTurn_list]
 refine zc<|wpAny_standAt<|zc<|yw (turn n s hI) (λr aU h₁=>?_) Uu
 cases r with
 |none=>exact zA h₁
 |some v =>
  refine zc<|yw h₁ (λ_ Pb VT=>?_) Uu
  refine zc<|yw VT (λ_ bB Ji=>zc<|yw Ji (λok uw MK=>?_) Uu) Uu
  cases ok with
  |false=>exact zA ⟨rfl,MK⟩
  |true =>
   exact zc<|zc<|yw MK (λx AR aaB=>zc<|yw aaB (λ_ VS aaC=>zA<|zA ⟨rfl,aaC⟩) Uu) Uu
def CompEnd(X:Cx)(pins:io)(σ:St)(Q:VK)(D C:Addr)(s':Shared):Prop:=∃H' m,Inv X pins σ H' s'/\Q (.ref D) H'/\s'.heap.Ns C m/\H' C=none/\C≠X.env.locals/\X.dw.heap.objs.size<=C/\(∀x c,X.env.cells.lookup x=some c->c≠C)/\(∀p∈X.pn++pins,p.1≠C)
theorem vF{pins:io}{bB:Shared}{σ:St}{jd:Hp}{Q:VK}{it:Addr}{fp:im}{tn:Nat->Heap->Prop}{J:It}{E:lc}(S:bc X N src scope)(hc:X.calm=true)(hg:∀C s H ex pn,PG (gm X N scope C s H ex pn) tg g)(hx:C3 g src)(hi:∀C s H ex pn,Ut (gm X N scope C s H ex pn) ifs tc)(he:∀C s H ex pn,PE (gm X N scope C s H ex pn) elt te)(I:Inv X pins σ jd bB)(T:Turn X.prog X.w X.K tg J fp it tn)(st:tn 0 bB.heap)(ff:∀b∈fp,ux X pins jd b)(W:Nat->Nat->List V->Hp->Prop)(w0:∃m,W 0 m [] jd)(turn:∀i m out H',W i m out H'->(J.stop i H'/\∀D,H' D=none->Q (.ref D) (upd H' D<|.lst out))\/(J.go i H'/\out.length<sizeLine/\∀x H2,J.Vl i H' x H2->g x (pick σ src) H2 λf_ H3=>tc f_ H3 λb H4=>if b=true then te f_ H4 λv H5=>∃m',m'<m/\W (i+1) m' (out++[v]) H5 else ∃m',m'<m/\W (i+1) m' out H4)){RR:Value->Addr->Result->Shared->Prop}(hRR:∀D C s',CompEnd X pins σ Q D C s'->RR (.ref D) C (.ok .next) s'): wpAny (model X.prog X.w) X.A (newList []) (λacc uw=>wpAny (model X.prog X.w) X.A (newFunctionEnv scope X.env.globals (clOf X.env.cells scope.names) [] X.env.qual none .none<|some X.env) (λVU AR=>codeAny (model X.prog X.w) X.A (.compStart (.ListComp elt [{tg,iter,ifs,0}] scope pos) 0 (.ref it) acc {VU with scope:=relabel scope X.env}) (RR acc VU.locals) AR) E uw) E bB:=by
 refine yH<|wpAny_newFunctionEnv S.gF (by intro y hy;simp at hy) (λh₁ wQ r_=>?_) S.kind;dsimp only at wQ r_⊢;generalize hH2:bB.heap.push {cls:=.type "list",dict:=none,data:=.seq ([]:dL).toArray}=G2 at wQ r_⊢;have hC:G2.objs.size=bB.heap.objs.size+1:=by rw[<-hH2,yd]
 have Uv:bB.heap.objs.size≠G2.objs.size:=by rw[hC];exact zG<|Nat.lt_succ_self _
 have MS:bB.heap.objs.size<=G2.objs.size:=by rw[hC];exact yV _
 have old:∀b o,bB.heap.get? b=some o->h₁.get? b=some o:=λb o e=>r_.extBut b o (zG<|zu (zB e) MS)<|za _<|hH2 ▸ za _ e;have sj:h₁.get? bB.heap.objs.size=some {cls:=.type "list",dict:=none,data:=.seq ([]:dL).toArray}:=r_.extBut _ _ Uv<|za _<|hH2 ▸ zk _ rfl;generalize hCC:G2.objs.size=C at hC Uv MS wQ r_⊢;have mH:bB.heap.objs.size<=C:=MS;generalize hD:bB.heap.objs.size=D at hC Uv MS sj⊢;have iW:∀x c,(clOf X.env.cells scope.names).lookup x=some c->X.env.cells.lookup x=some c:=r9 X.env.cells scope.names [] (by intro x c h;simp at h);have Js:∀x c,X.env.cells.lookup x=some c->c<bB.heap.objs.size:=λx c e=>by obtain⟨v,q⟩:=I.cell x c e;exact q.lt
 have RA:∀b∈fp,b<bB.heap.objs.size:=λb hb=>by obtain⟨o,e,_⟩:=T.obj _ _ st b hb;exact zB e
 have ok:(gm X N scope C bB jd fp<|X.pn++pins).Ok:=by refine{I.ok.mod,S.kind,I.ok.glob,I.ok.blt,mH,λx y c h1 h2=>I.ok.inj x y c (iW _ _ h1)<|iW _ _ h2,λx hk=>?_,λx c h=>(nomatch h),I.ok.hd,I.ok.frames,.inl rfl,λb hb=>{?_,λx c h=>?_},I.bs,zO I.ok.Ml I.sz,λb o e hb=>?_,λb hb hf=>?_,I.stack,I.qX};have hk:(relabel scope X.env).names.lookup x=some .cell\/(relabel scope X.env).names.lookup x=some .free:=hk;unfold relabel at hk;dsimp only at hk;rw[ju]at hk;(cases hl:scope.names.lookup x with|none=>(rw[hl]at hk;rcases hk with z|z<;>cases z)|some k=>rw[hl]at hk;have hm:=yi hl;have VW:k=.free:=(by by_cases VW:k=.free;exact VW;exfalso;have e1:(k==NameKind.free)=false:=(by simpa using VW);simp only[Option.map,e1,zY,Bool.false_eq_true,if_false]at hk;rcases hk with z|z;exact S.gF _ hm<|zT z;exact VW<|zT z);subst VW;obtain⟨c,MP⟩:=I.ok.has x<|S.Cr _ hm rfl;exact{c,jt X.env.cells scope.names [] x c (by intro x c h;simp at h) hm MP});exact zG<|zu (RA b hb) mH;exact(ff b hb).2.2.2.2.1 x c<|iW _ _ h;have q:b∈X.ex\/X.dw.heap.objs.size<=b:=(ff b hb).2.2.2.1;rcases q with q|q;exact I.ok.Qw b o e q;exact absurd (zu (zB e)<|zO I.ok.Ml q)<|yB _;rcases zm.mp (I.oo b hf) with z|z;exact(ff b hb).2.1 z;exact(ff b hb).2.2.1 z
 have VX:∀p∈X.pn++pins,p.1∉om X.stack:=λp hp z=>by obtain⟨_,_,ne,nf,_⟩:=I.pin p hp;rcases zm.mp (I.oo _ z) with q|q;exact ne q;exact nf q
 have Jt:∀p∈X.pn++pins,p.1<bB.heap.objs.size:=λp hp=>zB (I.pin p hp).1;have VY:∀b∈om X.stack,b<bB.heap.objs.size:=λb hb=>by rcases zm.mp (I.oo b hb) with z|z;rw[z];exact I.lt;obtain⟨_,o,ho,_⟩:=I.ok.qy.mem z;exact zu (zB ho) I.sz
 have aaE:∀(i:Nat)(x:Str)(v:V),N[i]?=some x->(pick σ src)[i]?=some (some v)->∃u c,RelV v u/\(clOf X.env.cells scope.names).lookup x=some c/\bB.heap.IsCell c (some u)/\scope.names.lookup x=some .free:=λi x v e1 e2=>by unfold pick at e2;rw[zh]at e2;cases es:src[i]? with|none=>(rw[es]at e2;cases e2)|some o=>rw[es]at e2;cases o with|none=>(cases e2)|some j=>have e3:(σ[j]?).join=some v:=zT e2;have e4:σ[j]?=some (some v):=(by cases q:σ[j]? with|none=>(rw[q]at e3;cases e3)|some z=>rw[q]at e3;exact congrArg some e3);obtain⟨a1,a2,a3⟩:=S.src i j x es e1;obtain⟨m0,_,hl⟩:=I.loc;obtain⟨u,r,l⟩:=hl j x v a1 e4 a3;have hm:=yi a2;have hk:=S.Cr _ hm rfl;rcases l with⟨k,_⟩|⟨_,c,MP,z⟩;rcases hk with hk|hk<;>(rw[k]at hk;cases hk);exact{u,c,r,jt X.env.cells scope.names [] x c (by intro x c h;simp at h) hm MP,z,a2}
 have kinds:∀x,scope.names.lookup x=some .free->(compEnvC scope (clOf X.env.cells scope.names) C X.env).kindOf x=some .cell\/(compEnvC scope (clOf X.env.cells scope.names) C X.env).kindOf x=some .free:=λx hx=>by show(relabel scope X.env).names.lookup x=some .cell\/(relabel scope X.env).names.lookup x=some .free;unfold relabel;dsimp only;rw[ju,hx];dsimp only[Option.map];split;exact .inl rfl;exact .inr rfl
 have Ic:Inv (gm X N scope C bB jd fp<|X.pn++pins) [] (pick σ src) jd {bB with heap:=h₁,toks:=bB.toks+([]:pc).length}:=by refine{ok,rfl,I.bare,Un.kept old,{_,wQ,λi x v e1 e2 e3=>?_},λx c e=>?_,I.aN.fresh mH,λx c e=>I.gf x c<|iW x c e,λp hp=>?_,I.aN.kept old,?_};obtain⟨u,c,r,e5,⟨o,ho,hd⟩,hf⟩:=aaE i x v e1 e2;exact{u,r,.inr {kinds x hf,c,e5,{o,old _ _ ho,hd}}};obtain⟨v,o,ho,hd⟩:=I.cell x c<|iW x c e;exact{v,o,old _ _ ho,hd};have hp:p∈X.pn++pins:=(by simpa [gm]using hp);obtain⟨e,n,_,_,d⟩:=I.pin p hp;exact{old _ _ e,n,zG<|zu (Jt p hp) mH,VX p hp,d};show(pick σ src).length=N.length;unfold pick;rw[zb,S.len]
 have AS:bB.heap.objs.size<=D:=Nat.le_of_eq hD;have RB:D∉om X.stack:=λz=>absurd (zu (VY D z) AS)<|yB _;have Pc:D∉fp:=λz=>absurd (zu (RA D z) AS)<|yB _;have qz:∀{pl:io}{H':Hp},(∀b∈fp,H' b=none)->(∀p∈pl,p.1∉fp)->∀b∈fp,ux (gm X N scope C bB jd fp<|X.pn++pins) pl H' b:=λ{pl H'} hn dy b hb=>by obtain⟨f0,f1,f2,f3,f4,f5⟩:=ff b hb;refine{hn b hb,zG<|zu (RA b hb) mH,λz=>?_,.inl hb,λx c e=>f4 x c<|iW x c e,λp hp=>?_};rcases zm.mp (I.oo b z) with q|q;exact f1 q;exact f2 q;have hp:p∈(X.pn++pins)++pl:=hp;rcases zN.mp hp with hp|hp;exact f5 p hp;exact λz=>dy p hp<|z ▸ hb
 have back:∀{s':Shared}{H':Hp}{out:cr}{ay:dL}{nn:Nat}{aG:St},Inv (gm X N scope C bB jd fp<|X.pn++pins) [] aG H' s'->H' D=none->out.length<=sizeLine->Vals out ay->s'.heap.get? D=some {cls:=.type "list",data:=.seq ay.toArray nn}->(∀D,H' D=none->Q (.ref D) (upd H' D<|.lst out))->CompEnd X pins σ Q D C s':=λ{s' H' out ay nn aG} I' hn hl hv ho q=>by obtain⟨m,hm,_⟩:=I'.loc;have un:Un (om X.stack) fp jd H' bB.heap s'.heap:=I'.base;have neD:∀b o,bB.heap.get? b=some o->b≠D:=λb o e=>zG<|zu (zB e) AS;have fD:jd D=none:=I.aN.fresh AS;refine{upd H' D<|.lst out,m,?_,q D hn,hm,by rw[az<|Ne.symm Uv];exact I'.free,yp<|zu I.lt mH,zO I.sz mH,λx c e=>zG<|zu (Js x c e) mH,λp hp=>zG<|zu (Jt p hp) mH};refine I.Vc (ch:=fp) I'.os {un.keep,un.slot,λb o e n hb=>?_,un.there,λb xs e=>?_,λb o u e=>?_,λb ps e=>?_} (λb o e=>?_) I'.bare λb hb=>?_;rw[az<|neD b o e];exact un.free b o e n hb;rw[az<|aF e fD];exact un.mB b xs e;rw[az<|aF e fD];exact un.lO b o u e;rw[az<|aF e fD];exact un.lP b ps e;by_cases hb:b=D;subst hb;rw[aE]at e;cases e;exact⟨hl,ay,nn,hv,ho⟩;rw[az hb]at e;refine(I'.aN b o e).qx (λc v _ q=>q) (λc q=>?_) λc xs q=>?_;rw[az<|aF q hn];exact q;rw[az<|aF q hn];exact q;obtain⟨f0,f1,f2,f3,f4,f5⟩:=ff b hb;exact⟨f3,f1,f4,f5⟩
 obtain⟨m0,w0⟩:=w0;have loop:∀AR:Shared,AR={bB with heap:=h₁,toks:=bB.toks+([]:pc).length}->codeAny (model X.prog X.w) X.A (.compLoop (.ListComp elt [{tg,iter,ifs,0}] scope pos) 0 (.ref it) (.ref D)<|compEnvC scope (clOf X.env.cells scope.names) C X.env) (RR (.ref D) C) AR:=by rintro AR rfl;refine kE (EE:=λ_ _=>False) (λ_ _ f=>f.elim) (λn s'=>∃i out ay nn H',Inv (gm X N scope C bB jd fp<|X.pn++pins) [] (pick σ src) H' s'/\H' D=none/\out.length<=sizeLine/\Vals out ay/\s'.heap.get? D=some {cls:=.type "list",data:=.seq ay.toArray nn}/\tn i s'.heap/\(∀b∈fp,H' b=none)/\W i n out H') ?_ m0 {0,[],[],0,jd,Ic,I.aN.fresh AS,zV _,.nil,sj,T.keep _ _ _ st λb hb o e=>old b o e,λb hb=>(ff b hb).1,w0};rintro n s3 ⟨i,out,ay,nn,H3,I3,hD3,hl3,YM,YN,OZ,Vo,w3⟩;have RC:∀(ay:dL) (nn:Nat) (v:Option Value),({cls:=.type "list",data:=.seq ay.toArray nn} : Obj).data≠.cell v:=λ_ _ _ z=>nomatch z;have I3p:Inv (gm X N scope C bB jd fp<|X.pn++pins) [(D,{cls:=.type "list",data:=.seq ay.toArray nn})] (pick σ src) H3 s3:=I3.mC λp hp=>(by have e:p=(D,{cls:=.type "list",data:=.seq ay.toArray nn}):=(by simpa using hp);subst e;exact{YN,hD3,Uv,RB,RC ay nn});have nfp:∀p∈[((D,{cls:=.type "list",data:=.seq ay.toArray nn}):Addr×Obj)],p.1∉fp:=λp hp=>(by have e:p=(D,{cls:=.type "list",data:=.seq ay.toArray nn}):=(by simpa using hp);subst e;exact Pc);rcases turn i n out H3 w3 with⟨stop,qn⟩|⟨go,eB,step⟩;refine bb (T.done (gm X N scope C bB jd fp<|X.pn++pins) rfl rfl rfl hc i _ s3 _ H3 _ I3p (qz Vo nfp) OZ stop) ?_;rintro r s4 ⟨hr,I4⟩;subst hr;have p4:=(I4.pin (D,{cls:=.type "list",data:=.seq ay.toArray nn})<|zJ _<|by simp).1;exact hRR D C s4<|back (I4.mC (pins':=[]) λp hp=>nomatch hp) hD3 hl3 YM p4 qn;refine bb (T.item (gm X N scope C bB jd fp<|X.pn++pins) rfl rfl rfl hc i _ s3 _ H3 _ I3p (qz Vo nfp) OZ go) ?_;rintro r s4 ⟨u,hr,h4⟩;subst hr;refine bb h4 ?_;rintro _ s5 ⟨x,H5,I5,r5,y5,L6,Z9⟩;have Z_:=I5.pinned (qz Z9 nfp)<|T.obj _ _ L6;refine bb (hg _ _ _ _ _ _ s5 _ H5 x u _ Z_ r5<|hx x σ H5 _<|step x H5 y5) ?_;rintro _ s6 ⟨Vp,H6,I6,e6,q6⟩;have fin:∀{s7:Shared}{H7:Hp},Inv (gm X N scope C bB jd fp<|X.pn++pins) ([(D,{cls:=.type "list",data:=.seq ay.toArray nn})]++rR fp s5.heap) Vp H7 s7->Inv (gm X N scope C bB jd fp<|X.pn++pins) [] (pick σ src) H7 s7/\H7 D=none/\s7.heap.get? D=some {cls:=.type "list",data:=.seq ay.toArray nn}/\tn (i+1) s7.heap/\∀b∈fp,H7 b=none:=λ{s7 H7} I7=>(by have pD:=I7.pin (D,{cls:=.type "list",data:=.seq ay.toArray nn})<|zJ _ (by simp);refine{(I7.mC (pins':=[]) λp hp=>nomatch hp).weak e6.1.symm e6.2,pD.2.1,pD.1,T.keep _ _ _ L6 λb hb o e=>(I7.pin (b,o)<|zJ _<|zJ _<|iy hb e).1,λb hb=>?_};obtain⟨o,e,d⟩:=T.obj _ _ L6 b hb;exact(I7.pin (b,o)<|zJ _<|zJ _<|iy hb e).2.1);refine bb (hi _ _ _ _ _ _ s6 Vp H6 _ I6 q6) ?_;rintro b s7 ⟨H7,I7,q7⟩;cases b with|false=>(rw[if_neg zd]at q7⊢;obtain⟨m',hm,w7⟩:=q7;obtain⟨J7,d7,o7,t7,f7⟩:=fin I7;exact{m',hm,i+1,out,ay,nn,H7,J7,d7,hl3,YM,o7,t7,f7,w7})|true=>rw[if_pos rfl]at q7⊢;refine bb (he _ _ _ _ _ _ s7 Vp H7 _ I7 q7) ?_;rintro v s8 ⟨y,H8,I8,r8,m',hm,w8⟩;obtain⟨J8,d8,o8,t8,f8⟩:=fin I8;have hsz:ay.toArray.size<=sizeLine:=(by rw[zt,<-YM.length];exact hl3);refine wpAny_list_append_plain (items:=ay.toArray) (hsz:=hsz) ⟨nn,o8⟩ ?_;rintro h9 ⟨n9,e9⟩ sb;have J9:Inv (gm X N scope C bB jd fp<|X.pn++pins) [] (pick σ src) H8 {s8 with heap:=h9}:=J8.turned (t':=s8.toks) (it:=D) (λb o hb e=>(sb.2 b hb).trans e) d8 Uv (.inr AS) (λx c e=>zG<|zu (Js x c<|iW x c e) AS) λp hp=>(by have hp:p∈X.pn++pins:=(by simpa [gm]using hp);exact zG<|zu (Jt p hp) AS);refine{m',hm,i+1,out++[y],ay++[v],n9,H8,J9,d8,?_,YM.append<|.cons r8 .nil,?_,T.keep _ _ _ t8 λb hb o e=>(sb.2 b λz=>Pc<|z ▸ hb).trans e,f8,w8};rw[zD];exact eB;rw[e9];simp
 exact codeAny_compStart_list (loop _ rfl)<|T.self _ _ _ _ _ (T.keep _ _ _ st λb hb o e=>old b o e)<|loop _ rfl
theorem MT(S:bc X N src scope)(hc:X.calm=true)(hit:PI X tg iter wi)(hg:∀C s H ex pn,PG (gm X N scope C s H ex pn) tg g)(hx:C3 g src)(hi:∀C s H ex pn,Ut (gm X N scope C s H ex pn) ifs tc)(he:∀C s H ex pn,PE (gm X N scope C s H ex pn) elt te)(hs:autoParam (∀x,foldedSetIterable iter X.env x=pure x) qQ0):PE X (.ListComp elt [{tg,iter,ifs,0}] scope pos) (Jr wi src g tc te):=by intro pins s σ H Q I h;rw[eval_ListComp];have Cs:closureFor scope X.env=pure (clOf X.env.cells scope.names):=gE λy hy hf=>I.ok.has y.1<|S.Cr y hy hf;refine wpAny_comprehension_free (use:=none) rfl hs Cs S.kind S.loc<|bb (hit pins s σ H _ I h) λv s1 h1=>bb h1 λYE s2 h2=>?_;obtain⟨it,fp,tn,J,H2,e,I2,T,OY,f2,W,w0,turn⟩:=h2;subst e;refine vF (RR:=λacc C=>compPost (model X.prog X.w) X.A X.xe none (EP X pins σ Q) acc C) S hc hg hx hi he I2 T OY f2 W w0 turn ?_;rintro D C s' ⟨H',m,I',q,hm,hn,h1,h2,h3,h4⟩;exact{m,hm,λh' sb=>{.ref D,H',I'.turned (t':=s'.toks) (it:=C) (λb o hb e=>(sb.2 b hb).trans e) hn h1 (.inr h2) h3 h4,rfl,q}}
theorem C4{i:Nat}{x:Str}{pos' Hb:Pos}(hN:X.N.Nodup)(VZ:X.N[i]?=some x)(wR:X.env.scope.names.lookup x=some .local)(S:bc X N src scope)(hc:X.calm=true)(hit:PI X tg iter wi)(hg:∀C s H ex pn,PG (gm X N scope C s H ex pn) tg g)(hx:C3 g src)(hi:∀C s H ex pn,Ut (gm X N scope C s H ex pn) ifs tc)(he:∀C s H ex pn,PE (gm X N scope C s H ex pn) elt te)(V0:autoParam (swapsWith (.ListComp elt [{tg,iter,ifs,0}] scope pos) (some<|.Name x pos') Hb.line X.env=pure true) qQJ)(hs:autoParam (∀x,foldedSetIterable iter X.env x=pure x) qQ0):PS X (.Assign [.Name x pos'] (.ListComp elt [{tg,iter,ifs,0}] scope pos) Hb) (QL (Jr wi src g tc te)<|iU i):=by
 intro pins s σ H D I h;rw[exec_Assign_Name_used _ _ _ _ V0];refine zc<|wpAny_standAt<|zc ?_;have Cs:closureFor scope X.env=pure (clOf X.env.cells scope.names):=gE λy hy hf=>I.ok.has y.1<|S.Cr y hy hf;show wpAny _ X.A (do let _ <-comprehension (.ListComp elt [⟨tg,iter,ifs,0⟩] scope pos) scope X.env _ (newList []) false (eval iter X.env) (some (assign (.Name x pos') X.env))) _ _ s;refine zc<|yw (wpAny_comprehension_free (use:=some<|assign (.Name x pos') X.env) (Q:=λ_ s'=>∃aG H',Inv X pins aG H' s'/\D.nx aG H') rfl hs Cs S.kind S.loc<|bb (hit pins s σ H _ I h) λv s1 h1=>bb h1 λYE s2 h2=>?_) (λ_ s' hq=>zA<|zA hq) λ_ _ e=>e;obtain⟨it,fp,tn,J,H2,e,I2,T,OY,f2,W,w0,turn⟩:=h2;subst e;refine vF (Q:=λv H1=>D.nx (σ.set i<|some v) H1) (RR:=λacc C=>compPost (model X.prog X.w) X.A X.xe (some<|assign (.Name x pos') X.env) (λ_ s'=>∃aG H',Inv X pins aG H' s'/\D.nx aG H') acc C) S hc hg hx hi he I2 T OY f2 W w0 turn ?_;rintro D' C s' ⟨H',m,I',q,hm,hn,h1,h2,h3,h4⟩;show wpAny _ X.A (assign (.Name x pos') X.env<|.ref D') _ _ _;refine wpAny_assign_Name<|vf I' hN VZ (.inl wR) (v:=.ref D') rfl (λCU I'' ⟨a,sb,ha⟩=>?_)<|.inr wR;have hCa:C≠a:=by rcases ha with ha|ha;rw[ha];exact h1;exact Ne.symm<|h3 _ _ ha
 refine{m,hm.sameBut sb hCa,λh'' L7=>{_,H',I''.turned (t':=CU.toks) (it:=C) (λb o hb e=>(L7.2 b hb).trans e) hn h1 (.inr h2) h3 h4,q}}
end
theorem oA{σ:St}{src:List<|Option Nat}{i:Nat}(h:src[i]?=some none):(pick σ src)[i]?=some none:=by unfold pick;rw[zh,h];rfl
theorem Ext.set(h:σ0[i]?=some none)(e:Ext σ0 σ):Ext σ0 (σ.set i<|some v):=by
 refine{by rw[List.length_set];exact e.1,λj w hj=>?_};have:i≠j:=by rintro rfl;rw[h]at hj;cases hj
 rw[yo this];exact e.2 j w hj
theorem Ext.refl(σ:St):Ext σ σ:={rfl,λ_ _ h=>h}
theorem E_{src:List<|Option Nat}{i:Nat}(h:src[i]?=some none):C3 (iU i) src:=λx σ H Q q=>{(Ext.refl _).set<|oA h,q}
theorem rh{K:Frag}{n:Nat}{src:List<|Option Nat}{i j:Nat}(h:src[i]?=some none)(h':src[j]?=some none):C3 (Mt K n<|rP (iU i)<|rP (iU j) Ms) src:=λx σ H Q q=>by obtain⟨a,xs,e1,hs,hl,v,r,e2,v2,r2,e3,e4,q⟩:=q;exact{a,xs,e1,hs,hl,v,r,e2,v2,r2,e3,e4,((Ext.refl _).set<|oA h).set<|oA h',q}
theorem all_bools{xs:cr}{ay:dL}{bs:ut}(hv:Vals xs ay)(hb:xs=bs.map V.bl):∀(i:Nat)(v:Value),ay.toArray[i]?=some v->v=Value.bool ((bs[i]?).getD false):=by
 subst hb;intro i v h;have h':ay[i]?=some v:=by simpa using h
 have hl:=hv.length;rw[zb]at hl;have hi:i<ay.length:=(zf.mp h').1;have hb:bs[i]?=some (bs[i]'(by lia)):=by simp
 obtain⟨u,hu,r⟩:=hv.get (i:=i) (x:=V.bl<|bs[i]'(by lia)) (by rw[zh,hb];rfl);rw[h']at hu;cases hu;rw[hb];exact r
theorem range_all{bs:ut} : (List.range bs.length).all (λi=>(bs[i]?).getD false)=bs.all id:=by rw[yE,zX,zX];constructor;intro h b hb;obtain⟨i,hi,rfl⟩:=List.mem_iff_getElem.mp hb;have:=h i<|zS.mpr hi;simpa [hi]using this;intro h i hi;have hi:=zS.mp hi;simpa [hi]using h _ (List.getElem_mem hi)
theorem range_any{bs:ut} : (List.range bs.length).any (λi=>(bs[i]?).getD false)=bs.any id:=by rw[yE,List.any_eq_true,List.any_eq_true];constructor;rintro⟨i,hi,h⟩;have hi:=zS.mp hi;exact{bs[i],List.getElem_mem hi,by simpa [hi]using h};rintro⟨b,hb,h⟩;obtain⟨i,hi,rfl⟩:=List.mem_iff_getElem.mp hb;exact{i,zS.mpr hi,by simpa [hi]using h}
section
variable{X:Cx}
theorem uz(hc:X.calm=true):fh X (.builtin "all") (λxs H Q=>∃(a:Addr)(bs:ut),xs=[.ref a]/\jk X.K H a (bs.map V.bl)/\Q (.bl<|bs.all id) H):=by
 intro pins s σ H xs us Q I r h;obtain⟨a,bs,rfl,hq,q⟩:=h;obtain⟨u,rfl,ru⟩:=vals1 r;cases ru;obtain⟨ay,rv,p,hz⟩:=I.list hq;have hl:=rv.length;rw[zb]at hl;refine call_all_walk<|wpAny_pyIter_list p.isList ?_;refine{s.heap.objs.size,_,_,_,_,_,λi=>(bs[i]?).getD false,rfl,Walks.list (A:=X.A.in1) (I.ok.hd hc) s.heap.objs.size a (zG p.lt) ay.toArray,{{_,zk _ rfl,rfl,rfl},p.isList.at λo e=>za _ e},?_,λh' tk hk=>?_};intro i v s' Q' E' hv hQ;rw[all_bools rv rfl i v hv];exact yx hQ;have e:ay.toArray.size=bs.length:=by rw[zt,<-hl]
 rw[e,range_all];exact{.bl<|bs.all id,H,I.kept (h':=h') (t':=tk) λb o e=>hk b o (by simpa using zG (zB e))<|za _ e,rfl,q}
theorem uA(hc:X.calm=true):fh X (.builtin "any") (λxs H Q=>∃(a:Addr)(bs:ut),xs=[.ref a]/\jk X.K H a (bs.map V.bl)/\Q (.bl<|bs.any id) H):=by
 intro pins s σ H xs us Q I r h;obtain⟨a,bs,rfl,hq,q⟩:=h;obtain⟨u,rfl,ru⟩:=vals1 r;cases ru;obtain⟨ay,rv,p,hz⟩:=I.list hq;have hl:=rv.length;rw[zb]at hl;refine call_any_walk<|wpAny_pyIter_list p.isList ?_;refine{s.heap.objs.size,_,_,_,_,_,λi=>(bs[i]?).getD false,rfl,Walks.list (A:=X.A.in1) (I.ok.hd hc) s.heap.objs.size a (zG p.lt) ay.toArray,{{_,zk _ rfl,rfl,rfl},p.isList.at λo e=>za _ e},?_,λh' tk hk=>?_};intro i v s' Q' E' hv hQ;rw[all_bools rv rfl i v hv];exact yx hQ;have e:ay.toArray.size=bs.length:=by rw[zt,<-hl]
 rw[e,range_any];exact{.bl<|bs.any id,H,I.kept (h':=h') (t':=tk) λb o e=>hk b o (by simpa using zG (zB e))<|za _ e,rfl,q}
end
noncomputable def ownOf:HO->Option Addr|.ins _ dx _=>some dx|.lM _ u=>ownOf u|_=>none
structure Fg(H H' G:Hp):Prop where
 sub:∀b o,G b=some o->H' b=some o
 dom:∀b o,H b=some o->∃o',G b=some o'
 own:∀a o dx,G a=some o->ownOf o=some dx->(∃o',H a=some o'/\ownOf o'=some dx)\/∃o',G dx=some o'
theorem aI:bootBuiltins "len"= some (.builtin "len"):=PySem.boot_len
theorem gG:bootBuiltins "all"= some (.builtin "all"):=boot_all
theorem RD:bootBuiltins "any"= some (.builtin "any"):=boot_any
theorem au:bootBuiltins "isinstance"= some (.builtin "isinstance"):=boot_isinstance
theorem wU:bootBuiltins "int"= some (.type "int"):=PyProof.Rows.boot_int
theorem MU:bootBuiltins "bool"= some (.type "bool"):=PyProof.Rows.boot_bool
theorem jv:bootBuiltins "str"= some (.type "str"):=PyProof.Rows.boot_str
theorem aS:bootBuiltins "tuple"= some (.type "tuple"):=PyProof.Rows.boot_tuple
theorem Fc:bootBuiltins "dict"= some (.type "dict"):=PyProof.Rows.boot_dict
theorem RE:bootBuiltins "set"= some (.type "set"):=PyProof.Rows.boot_set
set_option genInjectivity true in
set_option genSizeOfSpec true in
inductive Kd where
 |av|bl|int|str|lst|tup|bY
 deriving DecidableEq
noncomputable def Kd.name:Kd->String|.av=>"NoneType" |.bl=>"bool" |.int=>"int" |.str=>"str" |.lst=>"list" |.tup=>"tuple" |.bY=>"dict"
inductive so(H:Hp):V->Kd->Prop where
 |av:so H .av .av
 |bl (b:Bool):so H (.bl b) .bl
 |int (i:Int):so H (.int i) .int
 |str (x:Str):so H (.str x) .str
 |lst {a:Addr}{xs:cr} (e:H a=some (.lst xs)):so H (.ref a) .lst
 |tup {a:Addr}{xs:cr} (e:H a=some (.tup xs)):so H (.ref a) .tup
 |bY {a:Addr}{kvs:fv} (e:H a=some (.dK kvs)):so H (.ref a) .bY
theorem so.ty{K:Frag}{H:Hp}{x:V}{k:Kd}(h:so H x k):ox K H x (.type k.name):=by cases h with|av=>exact .av|bl b=>exact .bl b|int i=>exact .int i|str x=>exact .str x|lst e=>exact .lst e|tup e=>exact .tup e|bY e=>exact .dK e
noncomputable def AU(T:String):Option (Kd->Bool):=if T ="int" then some λk=>match k with|.int=>true|.bl=>true|_=>false else if T ="bool" then some λk=>match k with|.bl=>true|_=>false else if T ="str" then some λk=>match k with|.str=>true|_=>false else if T ="tuple" then some λk=>match k with|.tup=>true|_=>false else if T ="list" then some λk=>match k with|.lst=>true|_=>false else if T ="dict" then some λk=>match k with|.bY=>true|_=>false else none
theorem Ju{K:Frag}{T:String}{g:Kd->Bool}(h:AU T=some g)(k:Kd):kitOne K (.type k.name) (.type T)=some (g k):=by unfold AU at h;split at h;rename_i e;subst e;cases h;cases k<;>rfl;split at h;rename_i e;subst e;cases h;cases k<;>rfl;split at h;rename_i e;subst e;cases h;cases k<;>rfl;split at h;rename_i e;subst e;cases h;cases k<;>rfl;split at h;rename_i e;subst e;cases h;cases k<;>rfl;split at h;rename_i e;subst e;cases h;cases k<;>rfl;cases h
section
variable{X:Cx}
theorem Jv:fh X (.builtin "isinstance") (λxs H Q=>∃x T k g,xs=[x,.ty T]/\AU T=some g/\so H x k/\Q (.bl<|g k) H):=by intro pins s σ H xs us Q I r h;obtain⟨x,T,k,g,rfl,hg,hk,q⟩:=h;obtain⟨v,w',rfl,rv,qC⟩:=vals2 r;cases qC;exact GW I rv hk.ty (Ju hg k) λtk=>{.bl<|g k,H,I.tok tk,rfl,q}
end
mutual
def Dt(K:Frag)(H:Hp):PyData->V->Prop|.none,v=>v=.av|.bool b,v=>v=.bl b|.int i,v=>v=.int i|.str z,v=>v=.str z|.list ds,v=>∃a xs,v=.ref a/\jk K H a xs/\DtAll K H ds xs|.tuple ds,v=>∃a xs,v=.ref a/\jc K H a xs/\DtAll K H ds xs|.dict _,_=>False
def DtAll(K:Frag)(H:Hp):List PyData->List V->Prop|[],xs=>xs=[]|d::ds,xs=>∃y ys,xs=y::ys/\Dt K H d y/\DtAll K H ds ys
end
section
variable{X:Cx}{pins:io}{σ:St}{H:Hp}{s:Shared}
mutual
theorem Inv.reads(I:Inv X pins σ H s):∀(d:PyData){x:V}{u:Value},Dt X.K H d x->RelV x u->∃as,Reads s.heap u d as
 |.none,x,u,h,r=>by
  have h:x=.av:=by simpa only[Dt]using h
  subst h;cases r;exact{_,.none}
 |.bool b,x,u,h,r=>by
  have h:x=.bl b:=by simpa only[Dt]using h
  subst h;cases r;exact{_,.bool b}
 |.int i,x,u,h,r=>by
  have h:x=.int i:=by simpa only[Dt]using h
  subst h;obtain⟨t,rfl⟩:=r;exact{_,.int i t}
 |.str z,x,u,h,r=>by
  have h:x=.str z:=by simpa only[Dt]using h
  subst h;obtain⟨t,rfl⟩:=r;exact{_,.str z t}
 |.list ds,x,u,h,r=>by
  have h:∃a xs,x=.ref a/\jk X.K H a xs/\DtAll X.K H ds xs:=by simpa only[Dt]using h
  obtain⟨a,xs,rfl,hq,hd⟩:=h;cases r;obtain⟨ay,rv,p,_⟩:=I.list hq;obtain⟨as,ra⟩:=Inv.readsAll I ds hd rv;obtain⟨o,e,c,n,d⟩:=p.isList;exact{_,.list e c d<|by simpa using ra}
 |.tuple ds,x,u,h,r=>by
  have h:∃a xs,x=.ref a/\jc X.K H a xs/\DtAll X.K H ds xs:=by simpa only[Dt]using h
  obtain⟨a,xs,rfl,hq,hd⟩:=h;cases r;obtain⟨ay,rv,p,_⟩:=I.tuple hq;obtain⟨as,ra⟩:=Inv.readsAll I ds hd rv;obtain⟨o,e,c,n,d⟩:=p;exact{_,.tuple e c d<|by simpa using ra}
 |.dict _,x,u,h,r=>by
  have h:False:=by simpa only[Dt]using h
  exact h.elim
theorem Inv.readsAll(I:Inv X pins σ H s):∀(ds:u8){xs:List V}{us:dL},DtAll X.K H ds xs->Vals xs us->∃as,ReadsAll s.heap us ds as
 |[],xs,us,h,r=>by
  have h:xs=[]:=by simpa only[DtAll]using h
  subst h;cases r;exact{_,.nil}
 |d::ds,xs,us,h,r=>by
  have h:∃y ys,xs=y::ys/\Dt X.K H d y/\DtAll X.K H ds ys:=by simpa only[DtAll]using h
  obtain⟨y,ys,rfl,h1,h2⟩:=h;cases r with|cons r1 r2=>obtain⟨as,ra⟩:=Inv.reads I d h1 r1;obtain⟨bs,rb⟩:=Inv.readsAll I ds h2 r2;exact{_,.cons ra rb}
end
end
def V1(K:Frag)(neg:Bool):R2:=λx y H Q=>∃d e,Dt K H d x/\Dt K H e y/\d.canLay0=true/\e.canLay0=true/\(d.depth<=64\/e.depth<=64)/\Q (.bl<|if neg then !PyData.eqv d e else PyData.eqv d e) H
section
variable{X:Cx}
theorem Jw(hu:X.A.units+64<cLine):iz X (compareOp .Eq) (V1 X.K false):=by intro pins s σ H x y v u Q I rx ry h;obtain⟨d,e,hd,he,cd,ce,dp,q⟩:=h;obtain⟨as,ra⟩:=I.reads d hd rx;obtain⟨bs,rb⟩:=I.reads e he ry;exact SeqAt.compareEq_reads ra rb cd ce (by rcases dp with dp|dp<;>lia)<|aJ I q rfl
theorem Jx(hu:X.A.units+64<cLine):iz X (compareOp .NotEq) (V1 X.K true):=by intro pins s σ H x y v u Q I rx ry h;obtain⟨d,e,hd,he,cd,ce,dp,q⟩:=h;obtain⟨as,ra⟩:=I.reads d hd rx;obtain⟨bs,rb⟩:=I.reads e he ry;exact SeqAt.compareNe_reads ra rb cd ce (by rcases dp with dp|dp<;>lia)<|aJ I q rfl
end
theorem kf(a b:Nat):Iv ⟨#[a]⟩ ⟨#[b]⟩=decide (a<=b):=by
 unfold Iv;have e:([b]<[a])↔b<a:=by rw[List.cons_lt_cons_iff];constructor;rintro (h|⟨_,h⟩);exact h;exact absurd h<|List.not_lt_nil _;exact .inl
 rw[yE];show(!decide ([b]<[a]))=true↔_;rw[Bool.not_eq_true',yj,e,decide_eq_true_iff];lia
def chkC(sc:Scope)(N0 N:j4)(src:List<|Option Nat)(scope:Scope):Bool :=
 decide (scope.kind=.function)&&(scope.names.all (λy=>decide (y.2≠.cell)&&(decide (y.2≠.local)||decide (scope.names.lookup y.1=some .local))&&(decide (y.2≠.free)||(decide (sc.names.lookup y.1=some .cell)||decide (sc.names.lookup y.1=some .free)))) &&
  (decide (src.length=N.length)&&(List.range src.length).all λi=>match src[i]?,N[i]? with
   |some (some j),some x=>decide (N0[j]?=some x)&&(decide (scope.names.lookup x=some .free)&&(decide (sc.names.lookup x=some .cell)||decide (sc.names.lookup x=some .free)))
   |_,_=>true))
theorem V2(sc:Scope)(N0:j4)(hs:X.env.scope=sc)(hN:X.N=N0)(h:chkC sc N0 N src scope=true):bc X N src scope:=by unfold chkC at h;simp only[zH,zZ,zX,yK]at h;obtain⟨h1,h2,h3,h4⟩:=h;refine{h1,λy hy=>(h2 y hy).1.1,λy hy e=>?_,λy hy e=>?_,h3,λi j x e1 e2=>?_};rcases (h2 y hy).1.2 with z|z;exact absurd e z;exact z;rcases (h2 y hy).2 with z|z;exact absurd e z;show X.env.scope.names.lookup y.1=some .cell\/X.env.scope.names.lookup y.1=some .free;rw[hs];exact z;have hi:i<src.length:=(zf.mp e1).1;have q:=h4 i<|zS.mpr hi;rw[e1,e2]at q;simp only[zH,zZ,yK]at q;refine{by rw[hN];exact q.1,q.2.1,?_};unfold Qv;rw[hs];exact .inr q.2.2
theorem kh(h0:0<=i)(h1:i<l.length):∃v,kD l i=some v/\l[i.toNat]?=some v:=by
 obtain⟨j,rfl⟩:=Int.eq_ofNat_of_zero_le h0;have hj:j<l.length:=by lia
 exact{l[j],cE<|by simp[hj],by simp[hj]}
theorem ck{c:Bool}{A B:Prop}(h:c=true->A)(h':c=false->B):if c=true then A else B:=by cases c with|true=>exact h rfl|false=>exact h' rfl
theorem nt(h:(!b)=true):b=false:=by cases b<;>simp_all
theorem nf(h:(!b)=false):b=true:=by cases b<;>simp_all
noncomputable def C5:Kd->Bool|.int=>true|.bl=>true|_=>false
noncomputable def wV:Kd->Bool|.bl=>true|_=>false
noncomputable def C6:Kd->Bool|.str=>true|_=>false
noncomputable def su:Kd->Bool|.tup=>true|_=>false
theorem MV:AU "int"= some C5:=if_pos rfl
theorem Jy:AU "bool"= some wV:=(if_neg<|by decide).trans<|if_pos rfl
theorem cS:AU "str"= some C6:=(if_neg<|by decide).trans<|(if_neg<|by decide).trans<|if_pos rfl
theorem aV:AU "tuple"= some su:=(if_neg<|by decide).trans<|(if_neg<|by decide).trans<|(if_neg<|by decide).trans<|if_pos rfl
theorem len_pos{z:Str}(h:1<=z.cps.size):∃c r,z.cps.toList=c::r:=by cases e:z.cps.toList with|nil=>have:z.cps.toList.length=0:=(by rw[e];rfl);rw[yu]at this;lia|cons c r=>exact⟨c,r,rfl⟩
theorem at0(e:l=c::r):kD l 0=some c:=by
 have:l[0]?=some c:=by rw[e];rfl
 exact cE (j:=0) this
def isPlain:Expr->Bool|.Starred _ _=>false|_=>true
theorem C7(h:isPlain e=true):starEach (e::es) env=(false,eval e env)::starEach es env:=by cases e<;>first|rfl|exact absurd h zd
theorem pa2{t:TA}(ha:PE X e te)(hr:PA X es t)(hp:autoParam (isPlain e=true) qQJ):PA X (e::es) (O6 te t):=MD ha hr<|C7 hp
end L2
namespace HT
open PySem PyProof.Rows
open PySem.SeqAt
open PySem.AutoSeq1 (wpAny_loadPart')
open PySem.MeetsSeq PySem.MeetsSeq2 PySem.MeetsSeq3
end HT
namespace L2
open PySem PySem.Spec PyProof.Rows
def Jz(c:Value)(e:Addr)(h:Heap):Prop:=∃o vs,h.get? e=some o/\o.data=.fields vs/\vs[2]?=some c
section
variable{M:Model}{A:Around}{E:lc}{s:Shared}{base:Heap}{env:Env}{outer:jp}{L e:Addr}{a0 c fl:Value}
theorem V3(Ar:A.frames=some (env::outer))(hl:s.heap.FunFrames base<|env::outer)(hf:env.frame=some L)(he:s.heap.get? e=some oe)(Iw:base.StaysIn s.heap)(Ct:base.get? e=none)(hd:oe.data=.fields vs)(h0:vs[0]?=some a0)(h2:vs[2]?=some c)(h:∀h',Heap.NotedW base (env::outer) e oe.cls a0 (rawInt L) s.heap h'->Jz c e h'->Q () {s with heap:=h'}): wpAny M A (do let x <-frameOf env;let y <-entryPlaceOf L nx;let z <-EntryCells.newEntry head x .none (rawInt L) .none y;setField (.ref e) 1 z) Q E s:=by
 have hsz:1<vs.size:=by have:=(Array.getElem?_eq_some_iff.mp h2).1;lia
 have nfr:e∉(env::outer).filterMap (·.frame):=λm=>by obtain⟨_,o,q,n⟩:=hl.mem m;rw[he]at q;cases q;exact n vs hd
 refine zc<|wpAny_frameOf_fun Ar hl hf λg sg=>?_;refine zc<|wpAny_entryPlaceOf λpl dy=>?_;unfold EntryCells.newEntry newFields;refine zc<|yH ?_<|dy.sizeOk5 _ _ _ _ _;have g1:g.get? e=some oe:=(sg.2.1 e nfr).trans he;have kg:base.StaysIn g:=λb o q=>(sg.2.1 b λm=>by rw[(hl.mem m).1]at q;cases q).trans<|Iw b o q;have t3:((([head,.ref L,.none,rawInt L,.none]++(if pl.isEmpty then List.replicate 6 Value.none else pl)).toArray:ii))[3]?=some (rawInt L):=by rcases dy with rfl|⟨_,_,_,_,_,_,_,rfl⟩<;>simp
 generalize RF:(([head,.ref L,.none,rawInt L,.none]++(if pl.isEmpty then List.replicate 6 Value.none else pl)).toArray:ii)=ts at t3;have g2:=za (h:=g) {cls:=.type "traceback",dict:=none,data:=.fields ts} g1;refine yU g2 hd hsz<|h _ ?_ ?_;have ne:g.objs.size≠e:=yp<|zB g1;have d3:=yA hd (·.setIfInBounds 1 (Value.ref g.objs.size));have e3:=yy (Obj.mapFields (·.setIfInBounds 1 (Value.ref g.objs.size))) g2<|Obj.isFreed_of_fields d3;have T3:=(yt (g.push {cls:=.type "traceback",dict:=none,data:=.fields ts}) (Obj.mapFields (·.setIfInBounds 1 (Value.ref g.objs.size)))<|Ne.symm ne).trans<|zk g rfl;have keep:∀b o,b≠e->g.get? b=some o->((g.push {cls:=.type "traceback",dict:=none,data:=.fields ts}).update e (Obj.mapFields (·.setIfInBounds 1 (Value.ref g.objs.size)))).get? b=some o:=λb o n q=>by rw[yt _ _<|Ne.symm n];exact za _ q
 have AV:∀b o,s.heap.get? b=some o->(∀vs,o.data≠.fields vs)->b≠e:=λb o q n z=>by rw[z,he]at q;cases q;exact n vs hd
 refine{λb o q=>keep b o (λz=>by rw[z,Ct]at q;cases q)<|kg b o q,hl.of_keeps λb o q n=>?_,?_,λb o q n=>?_};obtain⟨sl,z⟩:=sg.2.2 b o q;exact{_,keep b _ (AV b o q n) z,rfl};exact{_,_,g.objs.size,_,_,e3,{Obj.cls_mapFields _ _,by rw[Array.getElem?_setIfInBounds_ne<|by decide];exact h0},d3,by simp[hsz],kg.fresh,ne,T3,rfl,t3};obtain⟨sl,z⟩:=sg.2.2 b o q;exact{sl,keep b _ (AV b o q n) z};have d3:=yA hd (·.setIfInBounds 1 (Value.ref g.objs.size));exact{_,_,yy (Obj.mapFields (·.setIfInBounds 1 (Value.ref g.objs.size))) g2<|Obj.isFreed_of_fields d3,d3,by rw[Array.getElem?_setIfInBounds_ne<|by decide];exact h2}
theorem setC(Iw:base.StaysIn s.heap)(Ct:base.get? e=none)(hl:s.heap.FunFrames base l)(ht:s.heap.TracedAtW base e cls a0 fl)(hc:Jz c e s.heap)(h:∀h',Heap.FlyingW base l e cls a0 h'->s.heap.UpToSlots h'->Jz c e h'->Q () {s with heap:=h'}):wpAny M A (setFlight (.ref e) none) Q E s:=by
 obtain⟨o,vs,T,oT,ts,q,hk,hd,q1,nT,ne,qT,dT,q3⟩:=ht;obtain⟨o',vs',q',rN,q2⟩:=hc;rw[q]at q';cases q';rw[hd]at rN;cases rN;have hs3:3<ts.size:=(Array.getElem?_eq_some_iff.mp q3).1;have MW:∀b,b≠T->(s.heap.update T (Obj.mapFields (·.setIfInBounds 3 ((none:pi).elim Value.none λf=>rawInt f)))).get? b=s.heap.get? b:=λb n=>yt _ _<|Ne.symm n;have AV:∀b o,s.heap.get? b=some o->(∀vs,o.data≠.fields vs)->b≠T:=λb o z n w=>by rw[w,qT]at z;cases z;exact n ts dT
 have qe:=(MW e<|Ne.symm ne).trans q;unfold setFlight;refine zc<|yh q hd q1 ?_;rw[if_pos<|show(Value.ref T != Value.none)=true by simp];refine yU qT dT hs3<|h _ {λb o z=>(MW b λw=>by rw[w,nT]at z;cases z).trans<|Iw b o z,Ct,hl.of_keeps λb o z n=>{o,(MW b<|AV b o z n).trans z,rfl},?_} (λb o z n=>{o.slots,(MW b<|AV b o z n).trans z}) ⟨o,vs,qe,hd,q2⟩;exact{o,vs,T,_,_,qe,hk,hd,q1,nT,ne,yy _ qT<|Obj.isFreed_of_fields<|yA dT _,yA dT _,by simp[hs3]}
theorem V4(Ar:A.frames=some (env::outer))(hf:env.frame=some L)(Iw:base.StaysIn s.heap)(Ct:base.get? e=none)(hl:s.heap.FunFrames base<|env::outer)(ht:s.heap.TracedAtW base e cls a0 fl)(hc:Jz c e s.heap)(h:∀h',Heap.HeldW base (env::outer) e cls a0 L h'->s.heap.UpToSlots h'->Jz c e h'->Q () {s with heap:=h'}):wpAny M A (noteFrame (.ref e) env) Q E s:=by
 by_cases V5:fl=rawInt L;subst V5;exact wpAny_noteFrame_againW hf ht<|h s.heap ⟨Iw,Ct,hl,ht⟩ (.refl _) hc;obtain⟨o,vs,T,oT,ts,q,⟨hk,h0⟩,hd,q1,nT,ne,qT,dT,q3⟩:=ht;obtain⟨o',vs',q',rN,q2⟩:=hc;rw[q]at q';cases q';rw[hd]at rN;cases rN;subst hk;have MW:∀b,b≠T->(s.heap.update T (Obj.mapFields (·.setIfInBounds 3 Value.none))).get? b=s.heap.get? b:=λb n=>yt _ _<|Ne.symm n;have AV:∀b o,s.heap.get? b=some o->(∀vs,o.data≠.fields vs)->b≠T:=λb o z n w=>by rw[w,qT]at z;cases z;exact n ts dT
 unfold noteFrame;simp only[hf];refine zc<|yh q hd q1 ?_;rw[if_pos<|show(Value.ref T != Value.none)=true by simp];refine zc<|yh qT dT q3 ?_;rw[if_neg<|show ¬((fl==rawInt L)=true) by simpa using V5];refine zc<|yU qT dT (Array.getElem?_eq_some_iff.mp q3).1 ?_;refine V3 Ar (hl.of_keeps λb o z n=>{o,(MW b<|AV b o z n).trans z,rfl}) hf ((MW e<|Ne.symm ne).trans q) (λb o z=>(MW b λw=>by rw[w,nT]at z;cases z).trans<|Iw b o z) Ct hd h0 q2 λh' x y=>?_;obtain⟨x1,x2,x3,x4⟩:=x;exact h h' ⟨x1,Ct,x2,x3⟩ (λb o z n=>x4 b o ((MW b<|AV b o z n).trans z) n) y
theorem RG(Ar:A.frames=some (env::outer))(hf:env.frame=some L)(Iw:base.StaysIn s.heap)(Ct:base.get? e=none)(hl:s.heap.FunFrames base<|env::outer)(he:s.heap.get? e=some oe)(hd:oe.data=.fields vs)(h0:vs[0]?=some a0)(h1:vs[1]?=some .none)(h2:vs[2]?=some c)(h:∀h',Heap.HeldW base (env::outer) e oe.cls a0 L h'->s.heap.UpToSlots h'->Jz c e h'->Q () {s with heap:=h'}):wpAny M A (noteFrame (.ref e) env) Q E s:=by unfold noteFrame;simp only[hf];refine zc<|yh he hd h1 ?_;rw[if_neg<|by decide];refine V3 Ar hl hf he Iw Ct hd h0 h2 λh' x y=>?_;obtain⟨x1,x2,x3,x4⟩:=x;exact h h' ⟨x1,Ct,x2,x3⟩ x4 y
theorem RH(Ar:A.frames=some (env::outer))(hf:env.frame=some L)(Iw:base.StaysIn s.heap)(Ct:base.get? e=none)(hl:s.heap.FunFrames base<|env::outer)(ht:s.heap.TracedAtW base e cls a0 fl)(hc:Jz c e s.heap)(h:∀h',Heap.FlyingW base outer e cls a0 h'->s.heap.UpToSlots h'->Jz c e h'->Q () {s with heap:=h'}):wpAny M A (leaving env<|.ref e) Q E s:=by unfold leaving;refine zc<|V4 Ar hf Iw Ct hl ht hc λh' x u y=>?_;obtain⟨x1,x2,x3,x4⟩:=x;refine setC x1 x2 x3 x4 y λh2 z u2 y2=>?_;obtain⟨z1,z2,⟨_,_,z3⟩,z4⟩:=z;exact h h2 ⟨z1,z2,z3,z4⟩ (u.trans u2) y2
theorem MX(Ar:A.frames=some (env::outer))(hf:env.frame=some L)(Iw:base.StaysIn s.heap)(Ct:base.get? e=none)(hl:s.heap.FunFrames base<|env::outer)(he:s.heap.get? e=some oe)(hd:oe.data=.fields vs)(h0:vs[0]?=some a0)(h1:vs[1]?=some .none)(h2:vs[2]?=some c)(h:∀h',Heap.FlyingW base outer e oe.cls a0 h'->s.heap.UpToSlots h'->Jz c e h'->Q () {s with heap:=h'}):wpAny M A (leaving env<|.ref e) Q E s:=by unfold leaving;refine zc<|RG Ar hf Iw Ct hl he hd h0 h1 h2 λh' x u y=>?_;obtain⟨x1,x2,x3,x4⟩:=x;refine setC x1 x2 x3 x4 y λh2 z u2 y2=>?_;obtain⟨z1,z2,⟨_,_,z3⟩,z4⟩:=z;exact h h2 ⟨z1,z2,z3,z4⟩ (u.trans u2) y2
end
theorem bj.get(x:bj P w H h a o):∃u,h.get? a=some u:=by cases o with|lst xs=>(obtain⟨_,_,_,_,e⟩:=x;exact{_,e})|tup xs=>(obtain⟨_,_,_,ob,e,_⟩:=x;exact{_,e})|dK kvs=>(obtain⟨_,_,_,_,o,_,_,e,_⟩:=x;exact{_,e})|dT kvs=>exact False.elim x|set S n=>(obtain⟨o,_,_,_,e,_⟩:=x;exact{_,e})|ins C dx fs=>(obtain⟨_,_,_,e,_⟩:=x;exact{_,e})|own y=>(obtain⟨_,e⟩:=x;exact{_,e})|xd fs=>(obtain⟨_,⟨_,_,_,e,_⟩,_⟩:=x;exact{_,e})|Yy lo hi=>(obtain⟨_,_,_,e⟩:=x;exact{_,e})|lM ob u=>(obtain⟨e,_⟩:=x;exact{_,e})|qW ps=>exact{_,show h.get? a=some _ from x}|met f y=>exact{_,show h.get? a=some _ from x}|ext φ=>obtain⟨_,e,_⟩:=x;exact e
structure Fly(P:Program)(w:World)(mg:Str->Option Value)(outer:jp)(H H':Hp)(h0:Heap)(a:Addr)(cls a0:Value)(B h:Heap):Prop where
 fl:Heap.FlyingW B outer a cls a0 h
 aN:lN P w H' B
 keep:∀b o,h0.get? b=some o->H b=none->b∉om outer->B.get? b=some o
 there:∀b o,h0.get? b=some o->b∉om outer->∃o',B.get? b=some o'
 slot:∀b o,h0.get? b=some o->b∈om outer->∃sl,h.get? b=some {o with slots:=sl}
 free:∀b o,h0.get? b=some o->H b=none->H' b=none
 mB:∀b xs,H b=some (.tup xs)->H' b=some (.tup xs)
 lO:∀b o u,H b=some (.lM o u)->H' b=some (.lM o u)
 lP:∀b ps,H b=some (.qW ps)->∃more,H' b=some (.qW<|ps++more)
 cx:Jz .none a h\/mg "NoMark"= some cls
def fG(P:Program)(w:World)(mg:Str->Option Value):CT:=λouter H s E e s'=>∃a cls a0 B H',e=.ref a/\s'.os=s.os/\AllBare s'.gens/\Fly P w mg outer H H' s.heap a cls a0 B s'.heap/\E cls none H'
structure dh(X:Cx)(E:XK):Prop where
 ex:X.ex=[]
 st:X.stack=X.env::X.outer
 fr:X.env.frame=some X.env.locals
 xe:∀e s',wpAny (model X.prog X.w) X.A (leaving X.env e) (λ_ CU=>fG X.prog X.w X.mg X.outer X.wG X.dw E e CU) (λe' CU=>fG X.prog X.w X.mg X.outer X.wG X.dw E e' CU) s'->X.xe e s'
theorem vG{P:Program}{w:World}{K:Frag}{mg:Str->Option Value}{base:Heap}{N:j4}{qual:Str}{scope:Scope}{f:Addr}{cd:Value}{A:Around}{outer:jp}{s:Shared}{H:Hp}{E:XK} : dh (kC (fG P w mg) P w K mg base N qual scope f cd A outer s H E) E:={rfl,rfl,rfl,λ_ _ h=>h}
section
variable{X:Cx}{pins:io}{σ:St}{H H':Hp}{s:Shared}{E E':XK}
theorem dh.mem(L:dh X E):b∈om X.stack↔b=X.env.locals\/b∈X.fs:=by unfold Cx.fs om;rw[L.st,List.filterMap_cons,L.fr];exact zm
theorem dh.GJ(L:dh X E)(I:Inv X pins σ H s)(e:X.dw.heap.get? b=some o)(h:b∉X.fs):b∉om X.stack:=λz=>by rcases L.mem.mp z with z|z;have:=zB e;have h2:=I.ok.above;rw[z]at this;exact absurd (zu this h2)<|yB _;exact h z
theorem dh.fly(L:dh X E)(I:Inv X pins σ H s)(F:Fly X.prog X.w X.mg X.stack H H' s.heap a cls a0 B h)(f2:Heap.FlyingW B X.outer a cls a0 h2)(u2:h.UpToSlots h2)(c2:Jz .none a h2\/X.mg "NoMark"= some cls):
  Fly X.prog X.w X.mg X.outer X.wG H' X.dw.heap a cls a0 B h2 where
 cx:=c2
 fl:=f2
 aN:=F.aN
 keep:=λb o e n hf=>F.keep b o (I.base.keep b o e n hf<|by rw[L.ex];simp) (I.base.free b o e n<|by rw[L.ex];simp)<|L.GJ I e hf
 there:=λb o e hf=>by
  obtain⟨o',q⟩:=I.base.there b o e<|by rw[L.ex];simp
  exact F.there b o' q<|L.GJ I e hf
 slot:=λb o e hf=>by
  obtain⟨sl,q⟩:=I.base.slot b o e (I.ok.Qx b hf) hf<|by rw[L.ex];simp
  obtain⟨sl1,q1⟩:=F.slot b _ q<|L.mem.mpr<|.inr hf
  obtain⟨_,o2,q2,hd⟩:=F.fl.2.2.1.mem<|L.mem.mpr<|.inr hf
  obtain⟨V6,q3⟩:=u2 b o2 q2 hd
  rw[q1]at q2;cases q2
  exact⟨V6,q3⟩
 free:=λb o e n=>by
  obtain⟨o',q⟩:=I.base.there b o e<|by rw[L.ex];simp
  exact F.free b o' q<|I.base.free b o e n<|by rw[L.ex];simp
 mB:=λb xs e=>F.mB b xs<|I.base.mB b xs e
 lO:=λb o u e=>F.lO b o u<|I.base.lO b o u e
 lP:=λb ps e=>by
  obtain⟨m1,q1⟩:=I.base.lP b ps e
  obtain⟨m2,q2⟩:=F.lP b _ q1
  exact{m1++m2,by rw[q2,Array.append_assoc]}
theorem V7(L:dh X E)(hE:∀c d H',E' c d H'->E c d H'):Passes (fG X.prog X.w X.mg) X E':=λpins σ H s e s' I h=>by
 obtain⟨a,cls,a0,B,H',rfl,os,bare,F,q⟩:=h;refine L.xe _ _ ?_;have Ar:X.A.frames=some (X.env::X.outer):=by rw[I.ok.frames,L.st]
 have fl:Heap.FlyingW B (X.env::X.outer) a cls a0 s'.heap:=by rw[<-L.st];exact F.fl
 rcases F.cx with hc|hc;obtain⟨f1,f2,f3,f4⟩:=fl;exact RH Ar L.fr f1 f2 f3 f4.at hc λh2 f2 u2 c2=>{a,cls,a0,B,H',rfl,os.trans I.os,bare,L.fly I F f2 u2<|.inl c2,hE _ _ _ q};exact wpAny_leaves_onW Ar L.fr fl λh2 f2 u2=>{a,cls,a0,B,H',rfl,os.trans I.os,bare,L.fly I F f2 u2<|.inr hc,hE _ _ _ q}
theorem RJ(I:Inv X pins σ H s):lN X.prog X.w H (hideAll s.heap<|om X.stack):=λa o e=>(I.aN a o e).qx (λb u hb q=>hideAll_get _ q λz=>by have n:=I.qX b z;rcases hb with rfl|hb;rw[e]at n;cases n;rw[hb]at n;cases n) (λ_ q=>q) λ_ _ q=>q
theorem C8(L:dh X E)(I:Inv X pins σ H s)(hk:∀b o,s.heap.get? b=some o->h'.get? b=some o)(hn:s.heap.get? a=none)(he:h'.get? a=some oe)(hd:oe.data=.fields vs)(h0:vs[0]?=some a0)(h1:vs[1]?=some .none)(h2:vs[2]?=some c)(hc:c=.none\/X.mg "NoMark"= some oe.cls)(hE:E oe.cls none H):X.xe (.ref a) {s with heap:=h'}:=by
 refine L.xe _ _ ?_;have Ar:X.A.frames=some (X.env::X.outer):=by rw[I.ok.frames,L.st]
 have Uw:∀env∈X.stack,∀b,env.frame=some b->b∈om X.stack:=λenv he b hb=>List.mem_filterMap.mpr ⟨env,he,hb⟩;have ff:s.heap.FunFrames (hideAll s.heap<|om X.stack) (X.env::X.outer):=by rw[<-L.st];exact PySem.W.funFrames_hide I.stack Uw
 have hb:(hideAll s.heap<|om X.stack).get? a=none:=by cases z:(hideAll s.heap<|om X.stack).get? a with|none=>rfl|some o=>have:=of_hideAll _ z;rw[hn]at this;cases this
 refine MX (base:=hideAll s.heap<|om X.stack) Ar L.fr (λb o q=>hk b o<|of_hideAll _ q) hb (ff.of_keeps λb o q _=>{o,hk b o q,rfl}) he hd h0 h1 h2 λh2 x1 x4 c2=>?_;refine{a,oe.cls,a0,_,H,rfl,I.os,I.bare,{x1,RJ I,λb o e n hf=>?_,λb o e hf=>?_,λb o e hf=>?_,λb o e n=>I.base.free b o e n<|by rw[L.ex];simp,I.base.mB,I.base.lO,I.base.lP,?_},hE};exact hideAll_get _ (I.base.keep b o e n hf<|by rw[L.ex];simp)<|L.GJ I e hf;obtain⟨o',q⟩:=I.base.there b o e (by rw[L.ex];simp);exact{o',hideAll_get _ q<|L.GJ I e hf};obtain⟨sl,q⟩:=I.base.slot b o e (I.ok.Qx b hf) hf (by rw[L.ex];simp);obtain⟨_,o2,q2,hd⟩:=I.qy.mem hf;obtain⟨V6,q3⟩:=x4 b o2 (hk _ _ q2) hd;rw[q]at q2;cases q2;exact⟨V6,q3⟩;rcases hc with rfl|hc;exact .inl c2;exact .inr hc
theorem pS(L:dh X E)(I:Inv X pins σ H s)(hx:Heap.MadeExcOf s.heap h' a cls args)(hE:E cls none H):X.xe (.ref a) {s with heap:=h'}:=by obtain⟨t,he,_,_⟩:=hx.there;exact C8 L I (λb o q=>hx.keeps b o q) hx.new he rfl rfl rfl rfl (.inl rfl) hE
end
abbrev oB:List Value:=[.type "ValueError",.type "Exception",.type "BaseException",.type "object"]
structure XC(K:Frag)(C:Addr):Prop where
 q:excIn K C oB "ValueError.__new__"= true
def aaK(h:Heap)(C:Addr)(bm:dL):Prop:=∃N nm q bs hdct sn sub ab col dd k0 k1 k2 k3 k5 mN,h.get? C=some (excClassObj nm q C N bs bm hdct sn sub ab col dd k0 k1 k2 k3 k5 "ValueError.__new__")/\h.Ns N mN/\mN "__init__"= none/\OwnTail h oB bm
theorem XC.at{K:Frag}{C:Addr}{h:Heap}(x:XC K C)(X:K.In h):∃bm,aaK h C bm:=by have q:=x.q;unfold excIn at q;split at q;rename_i dd cd sl ho;split at q;rename_i C' bm' k0 k1 k2 k3 n k5 hm hs;simp only[zH,beq_iff_eq,Bool.not_eq_true']at q;obtain⟨⟨⟨⟨⟨q1,q2⟩,V8⟩,ht⟩,aN⟩,YO⟩:=q;subst q1;subst q2;obtain⟨nm,bs,mro,ns,qn,hd,sn,sub,ab,col,del⟩:=cd;dsimp only at hm V8 aN YO;subst hm;subst V8;obtain⟨sl⟩:=sl;dsimp only at hs;subst hs;exact{bm',ns,nm,qn,bs,hd,sn,sub,ab,col,dd,k0,k1,k2,k3,k5,_,X _ _ ho,.of_isNs<|PySem.W.isNs_of_in X aN,PySem.W.nsMap_none_of_in X aN YO,PySem.W.tail_of_in X ht};cases q;cases q
def aaL(a:Addr)(cls:Value):HO:=.ext λh=>∃o vs,h.get? a=some o/\o.cls=cls/\o.data=.fields vs
abbrev TX:=(St->XK)->TS
noncomputable def Ends.less(D:Ends)(i:Nat):Ends:={nx:=λσ H=>D.nx (σ.set i none) H,rt:=D.rt,bk:=λσ H=>D.bk (σ.set i none) H,ct:=λσ H=>D.ct (σ.set i none) H}
structure XA(K:Frag)(C:Addr):Prop where
 ga:findIn K (.ref C) "__getattribute__"= some (some<|.builtin "BaseException.__getattribute__")
 gh:findIn K (.ref C) "__getattr__"= some none
 cl:findIn K (.ref C) "__class__"= some (some<|.builtin "object.__class__")
section
variable{X:Cx}
theorem Pd(L:dh X E):Passes (fG X.prog X.w X.mg) X E:=V7 L λ_ _ _ h=>h
end
noncomputable def iX(l:j4):j4:=l.foldl (λc x=>if x∈c then c else c++[x]) []
theorem AW(l:j4)(x:Str):iX (l++[x])=if x∈iX l then iX l else iX l++[x]:=by unfold iX;rw[List.foldl_append];rfl
theorem MY:∀(l:j4),(iX l).length<=l.length:=λl=>by
 have all:∀(r c:j4),(r.foldl (λc x=>if x∈c then c else c++[x]) c).length<=c.length+r.length:=by intro r;induction r with|nil=>intro c;simp|cons x r ih=>intro c;rw[yQ];refine zO (ih _) ?_;split<;>simp<;>try lia
 simpa [iX]using all l []
section
variable{prog:Program}{w:World}{A:Around}{R:Result->Shared->Prop}{I:Addr}{fp wr:im}{G:Array GenState->Array GenState->Prop}{n:Nat}{P:Nat->Value->Prop}{St:Nat->Shared->Prop}
theorem JA(W:WalksS prog w A.in1 I fp wr G n P St)(S:Addr)(hSf:S∉fp)(xs:j4)(hx:xs.length=n)(RK:∀i v,P i v->∃x t,xs[i]?=some x/\v=.str x t)(hb:n+1<scanBound): ∀(k i:Nat)(s:Shared),i+k=n->St i s->s.heap.SetOf (strKind prog w) S (λy=>decide<|y∈iX (xs.take i)) (iX<|xs.take i).length->(∀s',Moved (S::wr) G s s'->s'.heap.SetOf (strKind prog w) S (λy=>decide<|y∈iX xs) (iX xs).length->R (.ok<|.ret .none) s')->codeAny (model prog w) A (.builtin "set.update.loop" {[.ref S,.ref I],[]}) R s:=by have nw:S∉wr:=λh=>hSf<|W.sub _ h;have up:∀b∈wr,b∈S::wr:=λb hb=>zg _ hb;have mv:∀{i:Nat}{s s':Shared},Moved wr G s s'->s.heap.SetOf (strKind prog w) S (λy=>decide<|y∈iX (xs.take i)) (iX<|xs.take i).length->s'.heap.SetOf (strKind prog w) S (λy=>decide<|y∈iX (xs.take i)) (iX<|xs.take i).length:=λhm ⟨o,es,ep,tb,ho,rest⟩=>{o,es,ep,tb,hm.heap S _ nw ho,rest};intro k;induction k with|zero=>intro i s hk uv hS hR;have e:i=n:=(by lia);subst e;refine yR F.entry_set_update_loop ?_;rw[Around.under_plainId F.plain_set_update_loop _];show wpAny _ A.in1 (pyNext (.ref I) >>=_) _ _ s;refine zc<|W.done s _ _ uv λs' hm=>?_;show wpAny _ A.in1 (ret Value.none) _ _ s';have q:=mv hm hS;rw[<-hx,yG]at q;exact zA (hR s' (hm.mono up) q)|succ k ih=>intro i s hk uv hS hR;have lt:i<n:=(by lia);refine yR F.entry_set_update_loop ?_;rw[Around.under_plainId F.plain_set_update_loop _];show wpAny _ A.in1 (pyNext (.ref I) >>=_) _ _ s;refine zc<|W.item i s _ _ lt uv λv s' hP RL hm=>?_;obtain⟨x,t,ex,rfl⟩:=RK i v hP;have q:=mv hm hS;show wpAny _ A.in1 (holding [Value.str x t] (setAdd S<|.str x t) >>=_) _ _ s';refine zc<|yM ?_;unfold setAdd;refine yM ?_;refine zc<|(strKind prog w).pyHash (k:=x) (strKind_is _ _ _ _) ?_;have room:(iX<|xs.take i).length+1<scanBound:=(by have:=MY<|xs.take i;rw[ym]at this;lia);refine wpAny_setAddHashed_of (knd:=strKind prog w) (s:={s' with toks:=s'.toks+1}) (strKind_is _ _ _ _) rfl q room λh' MZ q2=>?_;have tk:xs.take (i+1)=xs.take i++[x]:=(by rw[List.take_succ,ex];rfl);have qi:h'.SetOf (strKind prog w) S (λy=>decide<|y∈iX (xs.take<|i+1)) (iX<|xs.take<|i+1).length:=(by refine SetOf_congr q2 (λy=>?_) ?_;rw[tk,AW];by_cases h:x∈iX (xs.take i);rw[if_pos h];by_cases hy:y=x;subst hy;simp[h];simp[hy];rw[if_neg h];simp;rw[tk,AW];by_cases h:x∈iX (xs.take i);rw[if_pos h,if_pos<|by simpa using h];rw[if_neg h,if_neg<|by simpa using h];simp);refine zA {plainId_quiet F.plain_set_update_loop _,ih (i+1) _ (by lia) (W.frame _ s' _ _ RL (yV _) λb hb o e=>?_) qi λCU RM q''=>?_};rw[MZ.2 b (λh:b=S=>hSf<|by rw[<-h];exact hb)];exact e;refine hR CU (Moved.trans W.gtrans ((hm.mono up).then_heap (yV _) λb o hb e=>?_) RM) q'';rw[MZ.2 b (λh:b=S=>hb<|by rw[h];exact zj)];exact e
theorem AX(hh:A.handled=none)(hl:s.heap.IsList l items)(hx:xs.length=items.size)(hi:∀(i:Nat)(v:Value),items[i]?=some v->∃x t,xs[i]?=some x/\v=.str x t)(hb:items.size+1<scanBound)(h:∀(h':Heap)(tk:Nat),h'.SetOf (strKind prog w) s.heap.objs.size (λy=>decide<|y∈iX xs) (iX xs).length->(∀b o,b<s.heap.objs.size->s.heap.get? b=some o->h'.get? b=some o)->Q (.ref s.heap.objs.size) {s with heap:=h',toks:=tk}): wpAny (model prog w) A (call (.type "set") [.ref l]) Q E s:=by
 obtain⟨c,tl,m0⟩:=F.called_set.mro;have m1:=F.called_set.made;have m2:=F.called_set.sub;refine wpAny_call<|codeAny_of_tree ?_;show wpAny _ _ (callAny (.type "set") _) _ _ _;refine zA {Code.quiet_builtin _<|by trivial,yR F.entry_type_call ?_};rw[Around.under_plain (weight_type_call_type "set" [.ref l] []) rfl];have m3:=F.called_set.notType;have m4:=F.called_set.canCreate;have m5:=F.typeCall_set_1<|.ref l;repeat (any_goals (first|assumption|wp_step))
 refine yW (code_set_new_1 (.ref l) (E:=E) (Q₁:=λob s1=>∃led:Bool,ob=.ref s.heap.objs.size/\s1={s with heap:=s.heap.push {cls:=.type "set",dict:=none,data:=.set #[] 0 (.fresh 0 0 led)}}) λled=>⟨led,rfl,rfl⟩) λr s1 hr=>?_
 cases r with
 |error e=>exact hr
 |ok fl =>
  cases fl with
  |ret ob =>
   obtain⟨led,rfl,rfl⟩:=hr;generalize hO:({cls:=.type "set",dict:=none,data:=.set #[] 0 (.fresh 0 0 led)} : Obj)=O;have gS:(s.heap.push O).get? s.heap.objs.size=some O:=zk _ (by rw[<-hO];rfl);have tS:Shared.TypeIs {s with heap:=s.heap.push O} (.ref s.heap.objs.size) "set":={_,gS,by rw[<-hO]};have i1:=F.called_set.init.lookup;have i2:=F.called_set.init.bind<|.ref s.heap.objs.size;(repeat (any_goals (first|assumption|wp_step)));refine yW (codeAny_call_builtin (R:=wants (λr s2=>r=.none/\∃h' tk,s2={s with heap:=h',toks:=tk}/\h'.SetOf (strKind prog w) s.heap.objs.size (λy=>decide<|y∈iX xs) (iX xs).length/\(∀b o,b<s.heap.objs.size->s.heap.get? b=some o->h'.get? b=some o)) E) F.called_set.init.plain F.entry_set_init<|check_set_init_1 tS ?_) λr2 s2 hr2=>?_
   ·obtain⟨ol,gl,cl,nl,dl⟩:=hl;obtain⟨aeT,V_,ade,RN⟩:=ol;simp only at cl dl;subst cl;subst dl;have Wa:(s.heap.push O).get? l=some {cls:=.type "list",dict:=V_,data:=.seq items nl,slots:=RN}:=za _ gl;have j1:=F.sub_list_set;have j2:=F.sub_list_frozenset;have j3:(Value.type "list"== Value.type "dict")=false:=(by decide);have il:(s.heap.push O).IsList l items:={_,Wa,rfl,nl,rfl};subst hO;unfold Builtin.«set.__init__» noKeywords Builtin.Frozenset.updateFrom;generalize hPI:pyIter=PI;wp_walk;subst hPI;refine wpAny_pyIter_list il ?_;refine zc<|wpAny_runValue ?_;have ll:l<s.heap.objs.size:=zB gl;have h3:A.in1.in1.in1.handled=none:=(by simp[hh]);have ne:l≠(s.heap.push {cls:=.type "set",dict:=none,data:=.set #[] 0 (.fresh 0 0 led)}).objs.size:=(by rw[yd];exact zG<|Nat.lt_succ_of_lt ll);have nf:s.heap.objs.size∉[(s.heap.push {cls:=.type "set",dict:=none,data:=.set #[] 0 (.fresh 0 0 led)}).objs.size,l]:=(by rw[yd];simp only[zm,zE,zM,or_false,not_or];exact{zG<|Nat.lt_succ_self _,yp ll});refine JA ((Walks.list h3 _ l ne items).toS) s.heap.objs.size nf xs hx hi hb (items.size-0) 0 _ (by lia) {{_,zk _ rfl,rfl,rfl},(il.push _)} ?hS0 ?hR
    case hS0 =>
     have gg:=za {cls:=.type "list_iterator",data:=.fields #[.ref l,.int 0 0]} gS
     exact SetOf_congr ((setObjOf_fresh (knd:=strKind prog w) led).setOf gg<|by unfold scanBound;lia) (λ_=>rfl) rfl
    case hR =>
     intro s' hm q
     obtain⟨h',g',d',Ux,VB⟩:=s'
     have eg:g'=s.gens:=hm.gens;have ed:d'=s.drawn:=hm.drawn;have eo:VB=s.os:=hm.os
     subst eg;subst ed;subst eo
     show wpAny _ _ _ _ _ _;refine zA ?_;show wpAny _ _ (ret Value.none) _ _ _
     refine zA {rfl,h',Ux,rfl,q,λb o hb e=>?_}
     have b2:b≠(s.heap.push {cls:=.type "set",dict:=none,data:=.set #[] 0 (.fresh 0 0 led)}).objs.size:=by rw[yd];exact zG<|Nat.lt_succ_of_lt hb
     refine hm.heap b o ?_<|za _<|za _ e
     simp only[zm,zE,zM,or_false,not_or];exact{zG hb,b2}
   {cases r2 with|error e=>exact hr2|ok f2=>cases f2 with|ret r=>(obtain⟨rfl,h',tk,rfl,q,k'⟩:=hr2;(repeat (any_goals (first|assumption|wp_step)));exact h _ _ q k')|_=>exact hr2.elim}
  |_=>exact hr.elim
end
noncomputable def RO(P:Program)(w:World)(a:Addr)(xs:j4):HO:=.ext λh=>h.SetOf (strKind P w) a (λy=>decide<|y∈iX xs) (iX xs).length
theorem M5(q:h.SetOf (strKind P w) a (λy=>decide<|y∈iX xs) (iX xs).length):bj P w H h a (RO P w a xs):=by obtain⟨o,es,ep,t,ho,rest⟩:=id q;exact{q,⟨o,ho⟩,by rintro h1 h2 ⟨o,es,ep,t,ho,rest⟩ k;exact{o,es,ep,t,k _ ho,rest}}
theorem AY:∀{xs:j4}{ay:dL},Vals (xs.map V.str) ay->∀(i:Nat)(v:Value),ay[i]?=some v->∃x t,xs[i]?=some x/\v=.str x t|[],_,.nil,i,v,e=>by simp at e|x::xs,_,.cons r rs,0,v,e=>(by obtain⟨t,q⟩:=r;simp at e;exact{x,t,rfl,by rw[<-e];exact q})|x::xs,_,.cons r rs,i+1,v,e=>by obtain⟨y,t,e1,e2⟩:=AY rs i v (by simpa using e);exact{y,t,by simpa using e1,e2}
section
variable{X:Cx}
theorem Hd{P:Program}{w:World}{K:Frag}(hP:X.prog=P)(hw:X.w=w)(hK:X.K=K)(hc:X.calm=true): fh X (.type "set") (λvs H Q=>∃p xs,vs=[.ref p]/\jk K H p (xs.map V.str)/\xs.length<4000/\∀l,H l=none->Q (.ref l) (upd H l<|RO P w l xs)):=by
 subst hP;subst hw;subst hK;intro pins s σ H vs us Q I r h;obtain⟨p,xs,rfl,hq,hz,q⟩:=h;obtain⟨u,rfl,rx⟩:=vals1 r;cases rx;obtain⟨ay,r',pl,_⟩:=I.list hq;have hlen:xs.length=ay.toArray.size:=by have:=r'.length;simpa using this
 refine AX (I.ok.hd hc) pl.isList hlen (λi v e=>AY r' i v<|by simpa using e) (by rw[<-hlen];unfold scanBound;lia) λh' tk qs kp=>?_;refine{.ref s.heap.objs.size,_,I.laid (t':=tk) (λb o e=>kp b o (zB e) e) (zq _)<|M5 qs,rfl,q _<|I.aN.fresh<|zq _}
theorem He(hP:X.prog=P)(hw:X.w=w):fh X (.builtin "len") (λvs H Q=>∃a xs,vs=[.ref a]/\H a=some (RO P w a xs)/\Q (.int (iX xs).length) H):=by subst hP;subst hw;intro pins s σ H vs us Q I r h;obtain⟨a,xs,rfl,ha,q⟩:=h;obtain⟨u,rfl,rx⟩:=vals1 r;cases rx;obtain⟨⟨o,es,ep,t,ho,hex,hd,Uy,RP,hb,hf,hn⟩,_⟩:=I.aN a _ ha;refine call_len_set ho hex hd hf (by unfold scanBound at hb;lia) ?_;exact{.int (iX xs).length,H,I.tok _,{_,by rw[hn]},q}
end
theorem vH(l:j4):(iX l).length=l.length↔l.Nodup:=by
 have all:∀(r c:j4),c.Nodup->((r.foldl (λc x=>if x∈c then c else c++[x]) c).length=c.length+r.length↔(c++r).Nodup):=by intro r;induction r with|nil=>intro c hc;simpa using hc|cons x r ih=>intro c hc;rw[yQ];by_cases h:x∈c;{rw[if_pos h];have le:(r.foldl (λc x=>if x∈c then c else c++[x]) c).length<=c.length+r.length:=(by have all2:∀(r c:j4),(r.foldl (λc x=>if x∈c then c else c++[x]) c).length<=c.length+r.length:=(by intro r;induction r with|nil=>intro c;simp|cons x r ih=>intro c;rw[yQ];refine zO (ih _) ?_;split<;>simp<;>try lia);exact all2 r c);refine{λe=>by simp at e;lia,λe=>?_};exact absurd rfl<|(List.nodup_append.mp e).2.2 x h x<|by simp};rw[if_neg h];have II:(c++[x]).Nodup:=mG hc h;have:=ih (c++[x]) II;simp only[zD,zQ,List.length_nil,List.append_assoc,List.singleton_append]at this⊢;rw[<-this];constructor<;>intro e<;>lia
 simpa [iX]using all l [] List.nodup_nil
theorem iY:entryFor table "dict.update.loop"= some Builtin.«dict.update.loop»:=entryFor_of_tree<|by kernel_rfl
theorem dm:plainId "dict.update.loop"= true:=by trivial
theorem uB:typeLookup (.type "tuple") "keys"= pure none:=by rw[typeLookup_type,builtinLookup_eq_fast];kernel_rfl
section
variable{prog:Program}{w:World}{A:Around}{E:lc}{s:Shared}
theorem uC(hx:s.heap.get? a=some o)(hc:o.cls=.type "tuple")(Wb:o.data=.seq xs k)(hd:o.dict=none)(hA:A.handled=none)(h:∀h' tk,(∀b ob,s.heap.get? b=some ob->h'.get? b=some ob)->Q none {s with heap:=h',toks:=tk}):wpAny (model prog w) A (getAttr? (.ref a) "keys") Q E s:=by
 obtain⟨c,bY,dat,sl⟩:=o;simp only at hc Wb hd;subst hc Wb hd;obtain⟨hp,g,d,tk,os⟩:=s;have hT:∀Ux,(⟨hp,g,d,Ux,os⟩:Shared).TypeIs (.ref a) "tuple":=λ_=>{_,hx,rfl};have f1:=sub_AttributeError;have f3:=F.slot_tuple_getattribute.lookup;have f4:=F.slot_tuple_getattribute.bind<|.ref a;have f5:=am_tuple_getattr_none;unfold getAttr? getAttrBy? getAttrBy;repeat (any_goals (first|assumption|exact hT _|((with_reducible show wpAny _ _ (call (Value.builtin "tuple.__getattribute__") _ _) _ _ _);refine call_meets F.slot_tuple_getattribute (hT _) am_entry_tuple_getattribute (F.args_tuple_getattribute_2 _ _) (meets_getattribute_miss_tuple a xs k sl "keys" _ uB (by trivial)<|by size_fits) {hx,hA,λh' Ux e JB=>?_})|wp_step))
 obtain⟨t',u',he⟩:=JB.there;show wpAny _ _ (getattributeRaised _ _ _ _ _ _ _) _ _ _;unfold getattributeRaised;repeat (any_goals (first|assumption|wp_step))
 exact h _ _ JB.keeps
end
section
variable{prog:Program}{w:World}{A:Around}{R:Result->Shared->Prop}{I:Addr}{fp wr:im}{G:Array GenState->Array GenState->Prop}{n:Nat}{P:Nat->Value->Prop}{St:Nat->Shared->Prop}
theorem Hf(W:WalksS prog w A.in1 I fp wr G n P St)(D:Addr)(hDf:D∉fp)(kvs:re)(hx:kvs.length=n)(base:Heap)(RK:∀i v,P i v->∃(b:Addr) (k:Key) (key val:Value) (o:Obj) (m:Nat),kvs[i]?=some (k,val)/\v=.ref b/\(aH prog w).is k key=true/\base.get? b=some o/\o.cls=.type "tuple"/\o.data=.seq #[key,val] m/\b≠D/\b∉wr)(hb:n<=sizeLine): ∀(k i:Nat) (s:Shared) (c:Int) (t:Tok),i+k=n->St i s->s.heap.DictOf (aH prog w) D (merged []<|kvs.take i)->(∀b o,base.get? b=some o->b≠D->b∉wr->s.heap.get? b=some o)->(∀s',Moved (D::wr) G s s'->s'.heap.DictOf (aH prog w) D (merged [] kvs)->R (.ok<|.ret .none) s')->codeAny (model prog w) A (.builtin "dict.update.loop" {[.ref D,.ref I,.int c t,.none],[]}) R s:=by have nw:D∉wr:=λh=>hDf<|W.sub _ h;have up:∀b∈wr,b∈D::wr:=λb hb=>zg _ hb;intro k;induction k with|zero=>(intro i s c t hk uv hS hB hR;have e:i=n:=(by lia);subst e;refine yR iY ?_;rw[Around.under_plainId dm _];show wpAny _ A.in1 (pyNext (.ref I) >>=_) _ _ s;refine zc<|W.done s _ _ uv λs' hm=>?_;show wpAny _ A.in1 (Builtin.Dict.addKeywords D [] >>=_) _ _ s';have q:s'.heap.DictOf (aH prog w) D (merged []<|kvs.take i):=(by obtain⟨o,es,ep,ho,rest⟩:=hS;exact{o,es,ep,hm.heap D _ nw ho,rest});rw[<-hx,yG]at q;exact zc<|zA<|zA<|hR s' (hm.mono up) q)|succ k ih=>intro i s c t hk uv hS hB hR;have lt:i<n:=(by lia);refine yR iY ?_;rw[Around.under_plainId dm _];show wpAny _ A.in1 (pyNext (.ref I) >>=_) _ _ s;refine zc<|W.item i s _ _ lt uv λv s' hP RL hm=>?_;obtain⟨b,ky,key,val,o,m,ek,rfl,Q1,ho,hc,hd,hbD,hbw⟩:=RK i v hP;have q:s'.heap.DictOf (aH prog w) D (merged []<|kvs.take i):=(by obtain⟨o,es,ep,ho,rest⟩:=hS;exact{o,es,ep,hm.heap D _ nw ho,rest});have hb':s'.heap.get? b=some o:=hm.heap b o hbw<|hB b o ho hbD hbw;have room:(merged []<|kvs.take i).length<=sizeLine:=(by have:=merged_length_le ([]:re)<|kvs.take i;rw[ym]at this;simp at this;lia);have tk:merged [] (kvs.take<|i+1)=stored (merged []<|kvs.take i) ky val:=merged_take_succ [] kvs i (ky,val) ek;refine zc<|yM<|zc<|wpAny_tryCatch ?_;unfold Builtin.Dict.pairItems;refine zc<|wpAny_typeOf (T:="tuple") ⟨o,hb',hc⟩ ?_;show wpAny _ A.in1 (seqItems? (.ref b) >>=_) _ _ s';refine zc<|wpAny_seqItems hb' hd<|zA ?_;show wpAny _ A.in1 (holding [key,val]<|dictSet D key val) _ _ s';refine yM<|wpAny_dictSet_pairs Q1 q (λh' q2 MZ=>?_) room;rw[<-tk]at q2;refine zA {plainId_quiet dm _,ih (i+1) _ _ _ (by lia) (W.frame _ s' _ _ RL (yV _) λb hb o e=>?_) q2 (λb o e h1 h2=>?_) λCU RM q''=>?_};rw[MZ.2 b (λh:b=D=>hDf<|by rw[<-h];exact hb)];exact e;rw[MZ.2 b h1];exact hm.heap b o h2<|hB b o e h1 h2;refine hR CU (Moved.trans W.gtrans ((hm.mono up).then_heap (yV _) λb o hb e=>?_) RM) q'';rw[MZ.2 b (λh:b=D=>hb<|by rw[h];exact zj)];exact e
theorem uD(hh:A.handled=none)(gl:s.heap.get? l=some ol)(cl:ol.cls=.type "tuple")(dl:ol.data=.seq items m)(nl:ol.dict=none)(hx:kvs.length=items.size)(hi:∀(i:Nat) (v:Value),items[i]?=some v->∃(b:Addr) (k:Key) (key val:Value) (o:Obj) (m:Nat),kvs[i]?=some (k,val)/\v=.ref b/\(aH prog w).is k key=true/\s.heap.get? b=some o/\o.cls=.type "tuple"/\o.data=.seq #[key,val] m)(hb:items.size<=sizeLine)(h:∀(h':Heap) (tk:Nat),h'.DictOf (aH prog w) s.heap.objs.size (merged [] kvs)->(∀b o,s.heap.get? b=some o->h'.get? b=some o)->Q (.ref s.heap.objs.size) {s with heap:=h',toks:=tk}): wpAny (model prog w) A (call (.type "dict") [.ref l]) Q E s:=by
 refine callType_codes (Q₁:=λobj aU=>obj=.ref s.heap.objs.size/\aU={s with heap:=s.heap.push {cls:=.type "dict",data:=.dict #[]}}) F.kt_called_dict (F.kt_typeCall_dict_1 _) F.entry_dict_init (kt_code_dict_new _ ⟨rfl,rfl⟩) ?_;rintro obj aU ⟨rfl,rfl⟩;have RQ:(s.heap.push {cls:=.type "dict",data:=.dict #[]}).DictOf (aH prog w) s.heap.objs.size []:=Heap.DictOf.new s.heap;have Wa:(s.heap.push {cls:=.type "dict",data:=.dict #[]}).get? l=some ol:=za _ gl;refine{RQ.typeIs,F.args_dict_init_2 _ _,?_};unfold Builtin.«dict.__init__»;refine zc ?_;unfold Builtin.Dict.selfAndRest;refine zc<|wpAny_notOrdered_dict RQ.typeIs ?_;show wpAny _ _ (pure (s.heap.objs.size,[Value.ref l])) _ _ _;refine zA ?_;show wpAny _ _ (Builtin.Dict.updateFrom "dict.__init__" s.heap.objs.size (.ref l) [] .none) _ _ _;unfold Builtin.Dict.updateFrom;refine zc<|wpAny_typeOf (T:="tuple") ⟨ol,Wa,cl⟩ ?_;rw[if_pos<|by decide];have h3:A.in1.in1.handled=none:=by simp[hh]
 refine zc<|uC Wa cl dl nl h3 λh1 tk1 YQ=>?_;have g1:h1.get? l=some ol:=YQ _ _ Wa;have d1:h1.DictOf (aH prog w) s.heap.objs.size []:=by obtain⟨o,es,ep,ho,rest⟩:=RQ;exact{o,es,ep,YQ _ _ ho,rest}
 have lD:s.heap.objs.size<h1.objs.size:=by obtain⟨o,es,ep,ho,rest⟩:=d1;exact zB ho
 have ll:l<s.heap.objs.size:=zB gl;show wpAny _ _ (rule _ >>=_) _ _ _;refine zc<|wpAny_rule ?_;have it1:h1.IsTuple l items:=⟨ol,g1,cl,m,dl⟩;refine zc<|wpAny_pyIter_tuple (s:=⟨h1,s.gens,s.drawn,tk1,s.os⟩) it1 ?_;have ne:l≠h1.objs.size:=zG<|Nat.lt_trans ll lD;have nf:s.heap.objs.size∉[h1.objs.size,l]:=by simp only[zm,zE,zM,or_false,not_or];exact{zG lD,yp ll}
 refine zA {plainId_quiet dm _,?_};refine Hf ((Walks.tuple h3 _ l ne items).toS) s.heap.objs.size nf kvs hx s.heap (λi v e=>?_) hb (items.size-0) 0 _ _ _ (by lia) {{_,zk _ rfl,rfl,rfl},it1.push _} ?hS0 ?hB ?hR;obtain⟨b,k,key,val,o,m',e1,e2,e3,e4,e5,e6⟩:=hi i v e;have lb:=zB e4;exact{b,k,key,val,o,m',e1,e2,e3,e4,e5,e6,zG lb,by simp;exact zG<|Nat.lt_trans lb lD};case hS0=>exact d1.push _
 case hB=>exact λb o e Hg h2'=>za _<|YQ _ _<|za _ e
 case hR =>
  intro s' hm q
  obtain⟨h',g',d',Ux,VB⟩:=s'
  have eg:g'=s.gens:=hm.gens;have ed:d'=s.drawn:=hm.drawn;have eo:VB=s.os:=hm.os
  subst eg;subst ed;subst eo
  refine{rfl,h h' Ux q λb o e=>?_}
  have lb:=zB e
  refine hm.heap b o ?_<|za _<|YQ _ _<|za _ e
  simp only[zm,zE,zM,or_false,not_or];exact{zG lb,zG<|Nat.lt_trans lb lD}
end
noncomputable def Fd(l:ge):fv:=l.foldl (λc p=>putK c (.inr p.1) p.2) []
def Prs(H:Hp)(ps:cr)(kvs:ge):Prop:=kvs.length=ps.length/\∀(i:Nat)(x:V)(p:Str×V),ps[i]?=some x->kvs[i]?=some p->∃b,x=.ref b/\H b=some (.tup [.str p.1,p.2])
section
variable{X:Cx}
theorem C9(hc:X.calm=true):fh X (.type "dict") (λvs H Q=>∃p ps kvs,vs=[.ref p]/\H p=some (.tup ps)/\Prs H ps kvs/\∀l,H l=none->Q (.ref l) (upd H l<|.dK<|Fd kvs)):=by
 intro pins s σ H vs us Q I r h;obtain⟨p,ps,kvs,rfl,hp,⟨hl,hq⟩,q⟩:=h;obtain⟨u,rfl,rx⟩:=vals1 r;cases rx;obtain⟨hz,ay,rv,ol,gl,cl,nl,m,dl⟩:=(show bj X.prog X.w H s.heap p (.tup ps) from I.aN p _ hp);have hlen:=rv.length;have each:∀(i:Nat)(x:V)(pr:Str×V),ps[i]?=some x->kvs[i]?=some pr->∃(b:Addr)(key val:Value)(o:Obj)(m:Nat),ay[i]?=some (.ref b)/\(aH X.prog X.w).is (.inr pr.1) key=true/\RelV pr.2 val/\s.heap.get? b=some o/\o.cls=.type "tuple"/\o.data=.seq #[key,val] m:=by intro i x pr e1 e2;obtain⟨b,rfl,hb⟩:=hq i x pr e1 e2;obtain⟨u,e3,ru⟩:=rv.get e1;cases ru;obtain⟨_,it2,r2,o,go,co,no,m2,do2⟩:=(show bj X.prog X.w H s.heap b (.tup [.str pr.1,pr.2]) from I.aN b _ hb);obtain⟨k',v',rfl,⟨tk,rfl⟩,rv'⟩:=r2.two;exact{b,_,v',o,m2,e3,jm _ _ _ _,rv',go,co,by simpa using do2}
 have kv:∃vals:re,KV (kvs.map λp=>((.inr p.1:Key),p.2)) vals/\∀(i:Nat)(x:V),ps[i]?=some x->∃(b:Addr)(k:Key)(key val:Value)(o:Obj)(m:Nat),vals[i]?=some (k,val)/\ay[i]?=some (.ref b)/\(aH X.prog X.w).is k key=true/\s.heap.get? b=some o/\o.cls=.type "tuple"/\o.data=.seq #[key,val] m:=by clear hp q rv dl hz;induction kvs generalizing ps ay with|nil=>refine{[],.nil,λi x e=>?_};have:ps=[]:=List.eq_nil_of_length_eq_zero (by simpa using hl.symm);subst this;simp at e|cons pr r ih=>cases ps with|nil=>simp at hl|cons y ys=>cases ay with|nil=>simp at hlen|cons w0 ws=>obtain⟨b,key,val,o,m,e1,e2,e3,e4,e5,e6⟩:=each 0 y pr rfl rfl;obtain⟨vals,k1,k2⟩:=ih ys (by simpa using hl) (λi x p a b=>hq (i+1) x p (by simpa using a)<|by simpa using b) ws (by simpa using hlen) (λi x p a b=>by simpa using each (i+1) x p (by simpa using a) (by simpa using b));refine{(.inr pr.1,val)::vals,.cons ⟨rfl,e3⟩ k1,λi x e=>?_};cases i with|zero=>exact{b,.inr pr.1,key,val,o,m,rfl,e1,e2,e4,e5,e6}|succ i=>simpa using k2 i x (by simpa using e)
 obtain⟨vals,kv1,kv2⟩:=kv;have lv:vals.length=ay.length:=by have:=kv1.length;rw[zb]at this;lia
 refine uD (kvs:=vals) (I.ok.hd hc) gl cl dl nl (by simpa using lv) (λi v e=>?_) (by simp;lia) λh' tk qs kp=>?_;have e':ay[i]?=some v:=by simpa using e
 have hi:i<ay.length:=(zf.mp e').1;obtain⟨b,k,key,val,o,m',e1,e2,e3,e4,e5,e6⟩:=kv2 i (ps[i]'(by lia))<|ze _;rw[e']at e2;exact{b,k,key,val,o,m',e1,zT e2,e3,e4,e5,e6};have rel:KV (Fd kvs) (merged [] vals):=by have all:∀(l:ge)(vl:re)(c:fv)(cv:re),KV (l.map λp=>((.inr p.1:Key),p.2)) vl->KV c cv->KV (l.foldl (λc p=>putK c (.inr p.1) p.2) c) (merged cv vl):=(by intro l;induction l with|nil=>(intro vl c cv h1 h2;cases h1;exact h2)|cons p r ih=>intro vl c cv h1 h2;cases h1 with|@cons _ q _ qs r1 r2=>obtain⟨k,v⟩:=q;obtain⟨rfl,rv⟩:=r1;exact ih qs _ _ r2<|h2.put _ rv);exact all kvs vals [] [] kv1 .nil
 have big:=I.big;refine{.ref s.heap.objs.size,_,I.laid (t':=tk) (λb o e=>kp b o e) (zq _) (o:=.dK<|Fd kvs) {?_,?_,_,rel,qs},rfl,q _<|I.aN.fresh<|zq _};have e1:=rel.length;have e2:=merged_length_le ([]:re) vals;simp at e2;lia;simp;exact yp big
theorem smz(h:n<=1000):n<=sizeLine:=yP<|j_ h
end
abbrev mI(h:Heap)(T:Addr)(arr:Array Value):Prop:=h.get? T=some {cls:=.type "tuple",data:=.seq arr}
theorem wW(hs:Heap.ExtBut b h h')(n:a≠b)(x:h.IsTupleIter a l i):h'.IsTupleIter a l i:=x.extBut hs n
theorem Pe{h h':Heap}{a l:Addr}{i:Nat}(k:∀o,h.get? a=some o->h'.get? a=some o)(x:h.IsTupleIter a l i):h'.IsTupleIter a l i:=by obtain⟨o,e,r⟩:=x;exact{o,k o e,r}
section
variable{prog:Program}{w:World}{A:Around}{E:lc}{s:Shared}
theorem sz3(h:n<=3):n<=sizeLine:=smz<|zO h<|by decide
theorem Hh(hT:mI s.heap T arr)(hz:arr.size<=3)(h:∀h',mI h' T (arr.setIfInBounds k x)->Heap.SameBut T s.heap h'->Q () {s with heap:=h'}):wpAny (model prog w) A (updateSeq T (·.setIfInBounds k x)) Q E s:=by refine wpAny_updateSeq hT rfl (h _ ?_<|yC ..) (hz:=sz3 hz) (_hz':=by have:=sz3 hz;simp;lia);show Heap.get? _ _=_;rw[yy _ hT rfl];simp[Obj.mapSeq]
theorem C_(hit:s.heap.IsTupleIter it l i)(hl:s.heap.IsTuple l items)(hx:items[i]?=some x)(hQ:∀h',h'.IsTupleIter it l (i+1)->Heap.SameBut it s.heap h'->Q x {s with heap:=h'}): wpAny (model prog w) A (Builtin.SmallTypes.nextOf<|.ref it) Q E s:=by obtain⟨o,ho,hc,hd⟩:=id hit;obtain⟨ol,RS,_,nl,M6⟩:=hl;unfold Builtin.SmallTypes.nextOf;refine zc<|wpAny_callSpecial?_slot (name:=Str.ofString "__next__") hit.typeIs F.slot_tuple_iterator_next<|yN F.slot_tuple_iterator_next hit.typeIs F.entry_tuple_iterator_next ?_<|F.args_tuple_iterator_next_1 _;show wpAny _ _ (field (.ref it) 0 >>=_) _ _ s;refine zc<|yh ho hd (x:=.ref l) rfl ?_;show wpAny _ _ (if (Value.ref l==Value.none)=true then _ else _) _ _ s;rw[if_neg<|show ¬((Value.ref l==Value.none)=true) from zd];show wpAny _ _ (field (.ref it) 1 >>=_) _ _ s;refine zc<|yh ho hd (x:=.int i 0) rfl ?_;show wpAny _ _ (seqItems? (.ref l) >>=_) _ _ s;refine zc<|wpAny_seqItems RS M6 ?_;simp only[Int.toNat_natCast,hx];refine zc<|yU ho hd (by simp)<|zA {x,rfl,zA<|hQ _ {_,yy _ ho<|Obj.isFreed_of_fields<|yA hd _,(Obj.cls_mapFields ..).trans hc,by rw[yA hd];simp[rawInt]}<|yC ..}
theorem sv(hh:A.handled=none)(hit:s.heap.IsTupleIter it l i)(hl:s.heap.IsTuple l items)(hx:items[i]?=none)(hE:∀h' e,Heap.ExtBut it s.heap h'->(∃o,h'.get? e=some o/\o.cls=.type "StopIteration")->E (.ref e) {s with heap:=h'}):wpAny (model prog w) A (Builtin.SmallTypes.nextOf<|.ref it) Q E s:=by
 obtain⟨o,ho,hc,hd⟩:=id hit;obtain⟨ol,RS,_,nl,M6⟩:=hl;unfold Builtin.SmallTypes.nextOf;refine zc<|wpAny_callSpecial?_slot (name:=Str.ofString "__next__") hit.typeIs F.slot_tuple_iterator_next<|yN F.slot_tuple_iterator_next hit.typeIs F.entry_tuple_iterator_next ?_<|F.args_tuple_iterator_next_1 _;show wpAny _ _ (field (.ref it) 0 >>=_) _ _ s;refine zc<|yh ho hd (x:=.ref l) rfl ?_;show wpAny _ _ (if (Value.ref l==Value.none)=true then _ else _) _ _ s;rw[if_neg<|show ¬((Value.ref l==Value.none)=true) from zd];show wpAny _ _ (field (.ref it) 1 >>=_) _ _ s;refine zc<|yh ho hd (x:=.int i 0) rfl ?_;show wpAny _ _ (seqItems? (.ref l) >>=_) _ _ s;refine zc<|wpAny_seqItems RS M6 ?_;simp only[Int.toNat_natCast,hx];refine zc<|wpAny_rule<|zc<|yU ho hd (by simp) ?_;show wpAny _ _ (newExc (.type "StopIteration") [] >>=_) _ _ _;refine zc ?_;simp only[newExc,newTuple];refine zc<|yH ?_ (by size_fits);refine zc (m:=firstArgMember _ _)<|yY (a:=Value.none) (by first|rfl|(simp only[firstArgMember];rfl)) ?_;refine yH ?_ (by size_fits);simp only[raiseNew];refine zc<|wpAny_handled ?_;first|rw[show A.in1.handled=none from hh]|rw[hh]
 refine zc<|zA<|wpAny_throw<|hE _ _ (((yC ..).extBut.push _).push _) {_,zk _ rfl,rfl}
end
def ZS2(n l0 l1:Nat)(i:Nat)(h:Heap):Prop:=IsZip h (n+4) (n+2) (n+3) .none/\mI h (n+2) #[.ref n,.ref<|n+1]/\(∃arr:ii,arr.size=2/\mI h (n+3) arr)/\h.IsTupleIter n l0 i/\h.IsTupleIter (n+1) l1 i
section
variable{X:Cx}{pins:io}{σ:St}{H:Hp}{s:Shared}{h':Heap}
theorem Inv.M7(I:Inv X pins σ H s)(wr:im)(hw:∀b∈wr,ux X pins H b)(k:∀b o,b∉wr->s.heap.get? b=some o->h'.get? b=some o):Inv X pins σ H {s with heap:=h',toks:=t'}:=by refine I.step (g':=s.gens) (d':=s.drawn) (ch:=wr) (λb hb=>by obtain⟨_,a,_,c,d,e⟩:=hw b hb;exact⟨c,a,d,e⟩) (λb o _ _ hc e _=>k b o hc e) (λb o _ _ hc e _=>{o.slots,k b o hc e}) (λ_ _ _ _ n=>n) (λb o hc e=>{o,k b o hc e}) (λ_ _ e=>e) (λ_ _ _ e=>e) (λb ps e=>{#[],by rw[e];simp}) (λm hm=>?_) (λb u e=>?_) I.bare;obtain⟨o,es,ep,ho,r⟩:=hm;exact{o,es,ep,k _ o (λz=>(hw _ z).2.1 rfl) ho,r};refine(I.aN b u e).qx (λc v hc q=>k c v (λz=>?_) q) (λ_ q=>q) λ_ _ q=>q;have n:=(hw c z).1;rcases hc with rfl|hc;rw[n]at e;cases e;rw[n]at hc;cases hc
theorem Inv.M_(I:Inv X pins σ H s)(wr:im)(hw:∀b∈wr,ux X pins H b)(k:∀b o,b∉wr->s.heap.get? b=some o->h'.get? b=some o)(hT:s.heap.get? T=none)(new:bj X.prog X.w (upd H T o) h' T o): Inv X pins σ (upd H T o) {s with heap:=h',toks:=t'}:=by
 have fr:H T=none:=by cases q:H T with|none=>rfl|some u=>obtain⟨z,e⟩:=(I.aN T u q).get;rw[hT]at e;cases e
 have ne:∀b u,H b=some u->b≠T:=λb u e z=>by rw[z,fr]at e;cases e
 refine I.step (g':=s.gens) (d':=s.drawn) (ch:=wr) (λb hb=>by obtain⟨_,a,_,c,d,e⟩:=hw b hb;exact⟨c,a,d,e⟩) (λb o _ _ hc e _=>k b o hc e) (λb o _ _ hc e _=>{o.slots,k b o hc e}) (λb ob _ e n=>?_) (λb o hc e=>{o,k b o hc e}) (λb xs e=>by rw[az<|ne b _ e];exact e) (λb ob u e=>by rw[az<|ne b _ e];exact e) (λb ps e=>{#[],by rw[az<|ne b _ e,e];simp}) (λm hm=>?_) (λb u e=>?_) I.bare;have:b≠T:=λz=>by rw[z,hT]at e;cases e
 rw[az this];exact n;obtain⟨o,es,ep,ho,r⟩:=hm;exact{o,es,ep,k _ o (λz=>(hw _ z).2.1 rfl) ho,r};by_cases hb:b=T;subst hb;rw[aE]at e;cases e;exact new;rw[az hb]at e;refine(I.aN b u e).qx (λc v hc q=>k c v (λz=>?_) q) (λc q=>by rw[az<|ne c _ q];exact q) λc xs q=>by rw[az<|ne c _ q];exact q
 have n:=(hw c z).1;rcases hc with rfl|hc;rw[n]at e;cases e;rw[n]at hc;cases hc
end
noncomputable abbrev Na(h:Heap)(l0:Addr):Heap:=(h).push {cls:=.type "tuple_iterator",data:=.fields #[.ref l0,.int 0 0]}
noncomputable abbrev Nb(h:Heap)(l0 l1:Addr):Heap:=(Na h l0).push {cls:=.type "tuple_iterator",data:=.fields #[.ref l1,.int 0 0]}
noncomputable abbrev Nc(h:Heap)(l0 l1:Addr):Heap:=(Nb h l0 l1).push {cls:=.type "tuple",data:=.seq #[.ref h.objs.size,.ref (Na h l0).objs.size]}
noncomputable abbrev Nd(h:Heap)(l0 l1:Addr):Heap:=(Nc h l0 l1).push {cls:=.type "tuple",data:=.seq #[.none,.none]}
noncomputable abbrev Df(h:Heap)(l0 l1:Addr):Heap:=(Nd h l0 l1).push {cls:=.type "zip",data:=.fields #[.none,.bool false,.bool false,.ref (Nb h l0 l1).objs.size,.ref (Nc h l0 l1).objs.size]}
theorem Dg(l0 l1:Addr)(Dc Dd:ii):Meets (Builtin.«zip.__new__» {[.type "zip",.ref l0,.ref l1],[]}) (λ_ R s=>s.heap.IsTuple l0 Dc/\s.heap.IsTuple l1 Dd/\R (.ok<|.ret<|.ref (Nd s.heap l0 l1).objs.size) {s with heap:=Df s.heap l0 l1}):=.of_wp λprog w A R s h=>by obtain⟨hp,g,d,tk,os⟩:=s;obtain⟨t0,t1,h⟩:=h;have aaS:=sub_zip;have L0:Heap.IsTuple (Shared.heap ⟨hp,g,d,tk,os⟩) l0 Dc:=t0;have L1:Heap.IsTuple (Shared.heap {hp.push {cls:=.type "tuple_iterator",data:=.fields #[.ref l0,.int 0 0]},g,d,tk,os}) l1 Dd:=Heap.IsTuple.push (t1) _;wp_walk using wpAny_pyIter_tuple L0,wpAny_pyIter_tuple L1;exact{_,rfl,h}
theorem Dh(t0:s.heap.IsTuple l0 Dc)(t1:s.heap.IsTuple l1 Dd)(h:∀h',ZS2 s.heap.objs.size l0 l1 0 h'->(∀c o,s.heap.get? c=some o->h'.get? c=some o)->Q (.ref<|s.heap.objs.size+4) {s with heap:=h'}):wpAny (model prog w) A (call (.type "zip") [.ref l0,.ref l1]) Q E s:=by
 refine callType_new F.called_zip (by decide) (F.typeCall_zip_2 _ _) (F.newCall_zip_2 _ _) (λobj=>F.args_object_init_3 obj _ _) F.entry_zip_new (Dg l0 l1 Dc Dd) {t0,t1,?_};have z1:(Na s.heap l0).objs.size=s.heap.objs.size+1:=yd ..;have z2:(Nb s.heap l0 l1).objs.size=s.heap.objs.size+2:=by rw[yd,z1]
 have z3:(Nc s.heap l0 l1).objs.size=s.heap.objs.size+3:=by rw[yd,z2]
 have z4:(Nd s.heap l0 l1).objs.size=s.heap.objs.size+4:=by rw[yd,z3]
 have z5:(Df s.heap l0 l1).objs.size=s.heap.objs.size+5:=by rw[yd,z4]
 have g0:(Df s.heap l0 l1).get? (s.heap).objs.size=some _:=za _<|za _<|za _<|za _<|zk _ rfl;have g1:(Df s.heap l0 l1).get? (Na s.heap l0).objs.size=some _:=za _<|za _<|za _<|zk _ rfl;have g2:(Df s.heap l0 l1).get? (Nb s.heap l0 l1).objs.size=some _:=za _<|za _<|zk _ rfl;have g3:(Df s.heap l0 l1).get? (Nc s.heap l0 l1).objs.size=some _:=za _<|zk _ rfl;have g4:(Df s.heap l0 l1).get? (Nd s.heap l0 l1).objs.size=some _:=zk _ rfl;show _/\_;rw[z2,z3,z4]at g4;rw[z3]at g3;rw[z1,z2]at g2;rw[z1]at g1;rw[z4];exact{{_,g4,rfl},h _ {g4,g2,!⟨g3⟩,{_,g0,rfl,rfl},{_,g1,rfl,rfl}} λc o x=>za _<|za _<|za _<|za _<|za _ x}
def Nf(K:Frag):V->List V->Hp->VK->Prop:=λx vs H Q=>∃(a:Addr)(xs:cr)(y z:V)(j:Nat),x=.ref a/\vs=[y]/\jk K H a xs/\gW y=true/\xs.all gW=true/\xs[j]?=some z/\eqV z y=true/\(∀m u,m<j->xs[m]?=some u->eqV u y=false)/\Q (.int j) H
theorem Hi:Ur X "list.index" (Nf X.K):=by
 intro pins s σ H x vs v us Q I rx rv h;obtain⟨a,xs,y,z,j,rfl,rfl,hq,fy,fx,hj,hit,YR,q⟩:=h;cases rx;obtain⟨u,rfl,ru⟩:=rv.one;obtain⟨ay,r,p,hz⟩:=I.list hq;obtain⟨⟨cls,dd,data,sl⟩,ho,hc,n,hd⟩:=p.isList;simp only at hc hd;subst hc hd;have hl:=r.length;have eB:j<xs.length:=(zf.mp hj).1;have fl:∀(m:Nat)(w:V),xs[m]?=some w->gW w=true:=λm w e=>zX.mp fx w<|zp e;have at':∀(m:Nat)(hm:m<ay.toArray.size)(w:V),xs[m]?=some w->Jb y ay.toArray[m]=eqV w y:=λm hm w e=>by obtain⟨u',e',ru'⟩:=r.get e;have:ay.toArray[m]=u':=(by have:=zf.mp e';simpa using this.2);rw[this];exact CW ru'<|fl m w e
 have hs:sizeLine=16777216:=yf;refine call_meets PySem.F.slot_list_index {_,ho,rfl} PySem.F.entry_list_index (PySem.F.args_list_index_2 _ _) (SeqAt.list_indexAt a ay.toArray n dd sl u (Jb y) j (by simp;lia) (by lia) ?_ ?_) {ho,λw hw=>mE ru fy r fx w<|by simpa using hw,{.int j,H,I.tok _,{_,rfl},q}};rw[at' j _ z hj];exact hit;intro m hm hmj;have hmx:m<xs.length:=by lia
 rw[at' m hm _<|ze hmx];exact YR m _ hmj<|ze hmx
def Wc:R2:=λx y H Q=>∃z n,x=.str z/\y=.int n/\MulOk z n/\Q (.str<|PySem.Txt.mul z n) H
theorem Di:iz X (binaryOp .Mult) Wc:=by intro pins s σ H x y v u Q I rx ry h;obtain⟨z,n,rfl,rfl,hm,q⟩:=h;obtain⟨t,rfl⟩:=rx;obtain⟨t',rfl⟩:=ry;exact SB.mul hm λt'' k=>{.str _,H,I.tok k,{_,rfl},q}
def Iy(w:World)(K:Frag)(a:Addr)(kvs:ge):Prop:=(a==sysModules)=false/\∃(o:Obj)(es:Array DictEntry)(ep:Nat),K.lookup a=some o/\o.ExactDict/\o.data=.dict es ep/\Paired (λ(e:DictEntry)(kv:Str×V)=>e.hash=hashStr w kv.1/\(∃t,e.key=.str kv.1 t)/\RelV kv.2 e.val) es.toList kvs/\(kvs.map Prod.fst).Nodup
theorem mJ(z:Str):∀kvs:ge,gb (kvs.map λp=>((.inr p.1:Key),p.2)) (.inr z)=kvs.lookup z
 |[]=>rfl
 | (x,v)::r=>by
  rw[zC,zW];by_cases e:z=x;subst e;rw[rX rfl];simp;have e1:(z==x)=false:=by simpa using e
  rw[rY λq=>e (yL q).symm,e1];exact mJ z r
section
variable{X:Cx}{pins:io}{σ:St}{H:Hp}{s:Shared}{a:Addr}{kvs:ge}
theorem wX(I:Inv X pins σ H s)(d:Iy X.w X.K a kvs):(a==sysModules)=false/\∃vs,KV (kvs.map λp=>((.inr p.1:Key),p.2)) vs/\s.heap.DictOf (aH X.prog X.w) a vs:=by
 obtain⟨ns,o,es,ep,hk,hx,hd,hp,hn⟩:=d;have all:∀(es:List DictEntry)(kvs:ge),Paired (λ(e:DictEntry)(kv:Str×V)=>e.hash=hashStr X.w kv.1/\(∃t,e.key=.str kv.1 t)/\RelV kv.2 e.val) es kvs->∃vs:re,KV (kvs.map λp=>((.inr p.1:Key),p.2)) vs/\Pairs (aH X.prog X.w) es vs/\vs.map (·.1)=kvs.map (λp=>(.inr p.1:Key))/\∀e∈es,∃k,(aH X.prog X.w).is k e.key=true/\e.hash=(aH X.prog X.w).hash k:=by intro es kvs hp;induction hp with|nil=>exact{[],.nil,.nil,rfl,by simp}|@cons e kv YB kvs' h t ih=>obtain⟨vs,k1,k2,k3,k4⟩:=ih;obtain⟨h1,⟨tk,h2⟩,h3⟩:=h;have hi:(aH X.prog X.w).is (.inr kv.1) e.key=true:=(by rw[h2];exact jm _ _ _ _);refine{(.inr kv.1,e.val)::vs,.cons ⟨rfl,h3⟩ k1,.cons hi rfl k2,by rw[zC,zC,k3],λe' he=>?_};rcases zm.mp he with rfl|he;exact{.inr kv.1,hi,h1};exact k4 e' he
 obtain⟨vs,k1,k2,k3,k4⟩:=all _ _ hp;refine{ns,vs,k1,o,es,ep,I.pN a o hk,hx,hd,λe he=>k4 e<|by simpa using he,k2,?_};rw[k3];have:(kvs.map λp=>(.inr p.1:Key))=(kvs.map Prod.fst).map Sum.inr:=by rw[zx];rfl
 rw[this];exact List.Pairwise.map _ (λx y h q=>h<|yL q) hn
theorem JC{w:World}{K:Frag}(hw:X.w=w)(hK:X.K=K):iz X (compareOp .In) (λx y H Q=>∃z a kvs,x=.str z/\y=.ref a/\Iy w K a kvs/\Q (.bl (kvs.lookup z).isSome) H):=by subst hw hK;intro pins s σ H x y v u Q I rx ry h;obtain⟨z,a,kvs,rfl,rfl,d,q⟩:=h;cases ry;obtain⟨ns,vs,rel,dd⟩:=wX I d;refine wpAny_in_of (iV (k:=.inr z) rx) ns dd.mapOf ?_;rw[<-(rel.val<|.inr z).oz,mJ];exact{.bl _,H,I.tok _,rfl,q}
def aaT(w:World)(K:Frag):R2:=λx y H Q=>∃a z kvs v,x=.ref a/\y=.str z/\Iy w K a kvs/\kvs.lookup z=some v/\Q v H
def Wd(w:World)(K:Frag):V->List V->Hp->VK->Prop:=λx vs H Q=>∃a z kvs,x=.ref a/\vs=[.str z]/\Iy w K a kvs/\Q ((kvs.lookup z).getD .av) H
theorem Ng{w:World}{K:Frag}(hw:X.w=w)(hK:X.K=K):Ur X "dict.get" (Wd w K):=by subst hw hK;intro pins s σ H x vs v us Q I rx rv h;obtain⟨a,z,kvs,rfl,rfl,d,q⟩:=h;cases rx;obtain⟨u,rfl,ru⟩:=rv.one;obtain⟨ns,vs,rel,dd⟩:=wX I d;refine call_meetsIn yz dd.typeIs PySem.F.entry_dict_get (PySem.F.args_dict_get_2 _ _) (meets_dict_get (aH X.prog X.w) a (iV (k:=.inr z) ru) ns) {_,dd.mapOf,_,H,I.tok _,?_,q};rw[<-mJ];exact(rel.val<|.inr z).getD rfl
theorem JD{w:World}{K:Frag}{o i:Expr}{pos:Pos}{td ty:TE}(hw:X.w=w)(hK:X.K=K)(ho:PE X o td)(hi:PE X i ty)(hs:Rn i):PE X (.Subscript o i pos) (QT (aaT w K) td ty):=by subst hw hK;intro pins s σ H Q I h;refine MJ PySem.F.slot_dict_getitem.lookup hs<|bb (ho pins s σ H _ I h) λu s1 ⟨x,H1,I1,rx,q1⟩=>bb (hi pins s1 σ H1 _ I1 q1) ?_;rintro iv s2 ⟨y,H2,I2,ry,a,z,kvs,v,ex,ey,d,l,q2⟩;subst ex ey;cases rx;obtain⟨ns,vs,rel,dd⟩:=wX I2 d;obtain⟨w',hw,qC⟩:=fF.some_of (v:=v) (o:=valueAt vs<|.inr z) (by rw[<-l,<-mJ];exact rel.val<|.inr z);exact{dd.typeIs,wpAny_getItem_of (iV (k:=.inr z) ry) dd.mapOf hw {v,H2,I2.tok _,qC,q2}}
theorem JE{w:World}{K:Frag}{o e:Expr}{apos aO:Pos}{td ty:TE}(hw:X.w=w)(hK:X.K=K)(ho:PE X o td)(he:PE X e ty)(m:M1 X o "get" apos e aO):PE X (.Call (.Attribute o "get" apos) [e] [] aO) (λσ H Q=>td σ H λx H1=>∃a kvs,x=.ref a/\Iy w K a kvs/\ty σ H1 λy H2=>∃z,y=.str z/\Q ((kvs.lookup z).getD .av) H2):=by subst hw hK;intro pins s σ H Q I h;refine wpAny_Call_method m.base m.Iu m.line PySem.F.plainAttrs_dict yz PySem.F.type_dict_get<|bb (ho pins s σ H _ I h) ?_;rintro u s1 ⟨x,H1,I1,rx,a,kvs,ex,d,q1⟩;subst ex;obtain rfl:u=Value.ref a:=rx;obtain⟨ns,vs,rel,dd⟩:=wX I1 d;obtain⟨ob,_,_,h1,h2,_⟩:=id dd;refine{dd.typeIs,λb q=>by cases q;exact⟨ob,h1,h2.2.1⟩,?_};rw[m.trees];refine Calls.callWith_builtin rfl<|Calls.evalArgs_plain<|yF<|bb (he pins s1 σ H1 _ I1 q1) λiv s2 ⟨y,H2,I2,ry,z,ey,q2⟩=>Calls.spliced_nil ?_;subst ey;exact Ng rfl rfl pins s2 σ H2 (.ref a) [.str z] _ [iv] Q I2 rfl (.cons ry .nil) ⟨a,z,kvs,rfl,rfl,d,q2⟩
end
theorem JF:bootBuiltins "min"= some (.builtin "min"):=by trivial
def ZS3(n l0 l1 l2:Nat)(i:Nat)(h:Heap):Prop:=IsZip h (n+5) (n+3) (n+4) .none/\mI h (n+3) #[.ref n,.ref<|n+1,.ref<|n+2]/\(∃arr:ii,arr.size=3/\mI h (n+4) arr)/\h.IsTupleIter n l0 i/\h.IsTupleIter (n+1) l1 i/\h.IsTupleIter (n+2) l2 i
noncomputable abbrev Nh(h:Heap)(l0:Addr):Heap:=(h).push {cls:=.type "tuple_iterator",data:=.fields #[.ref l0,.int 0 0]}
noncomputable abbrev Ni(h:Heap)(l0 l1:Addr):Heap:=(Nh h l0).push {cls:=.type "tuple_iterator",data:=.fields #[.ref l1,.int 0 0]}
noncomputable abbrev Nj(h:Heap)(l0 l1 l2:Addr):Heap:=(Ni h l0 l1).push {cls:=.type "tuple_iterator",data:=.fields #[.ref l2,.int 0 0]}
noncomputable abbrev Nk(h:Heap)(l0 l1 l2:Addr):Heap:=(Nj h l0 l1 l2).push {cls:=.type "tuple",data:=.seq #[.ref h.objs.size,.ref (Nh h l0).objs.size,.ref (Ni h l0 l1).objs.size]}
noncomputable abbrev Nl(h:Heap)(l0 l1 l2:Addr):Heap:=(Nk h l0 l1 l2).push {cls:=.type "tuple",data:=.seq #[.none,.none,.none]}
noncomputable abbrev AZ(h:Heap)(l0 l1 l2:Addr):Heap:=(Nl h l0 l1 l2).push {cls:=.type "zip",data:=.fields #[.none,.bool false,.bool false,.ref (Nj h l0 l1 l2).objs.size,.ref (Nk h l0 l1 l2).objs.size]}
theorem Dj(l0 l1 l2:Addr)(Dc Dd Uz:ii):Meets (Builtin.«zip.__new__» {[.type "zip",.ref l0,.ref l1,.ref l2],[]}) (λ_ R s=>s.heap.IsTuple l0 Dc/\s.heap.IsTuple l1 Dd/\s.heap.IsTuple l2 Uz/\R (.ok<|.ret<|.ref (Nl s.heap l0 l1 l2).objs.size) {s with heap:=AZ s.heap l0 l1 l2}):=.of_wp λprog w A R s h=>by obtain⟨hp,g,d,tk,os⟩:=s;obtain⟨t0,t1,t2,h⟩:=h;have aaS:=sub_zip;have L0:Heap.IsTuple (Shared.heap ⟨hp,g,d,tk,os⟩) l0 Dc:=t0;have L1:Heap.IsTuple (Shared.heap {hp.push {cls:=.type "tuple_iterator",data:=.fields #[.ref l0,.int 0 0]},g,d,tk,os}) l1 Dd:=Heap.IsTuple.push (t1) _;have L2:Heap.IsTuple (Shared.heap {(hp.push {cls:=.type "tuple_iterator",data:=.fields #[.ref l0,.int 0 0]}).push {cls:=.type "tuple_iterator",data:=.fields #[.ref l1,.int 0 0]},g,d,tk,os}) l2 Uz:=Heap.IsTuple.push (Heap.IsTuple.push (t2) _) _;wp_walk using wpAny_pyIter_tuple L0,wpAny_pyIter_tuple L1,wpAny_pyIter_tuple L2;exact{_,rfl,h}
theorem Dk(a0 a1 a2:Value):checkTypeCall "zip" {[a0,a1,a2],[]}=pure ():=by kernel_rfl
theorem Dm(a0 a1 a2:Value):checkBuiltinCall "zip.__new__" {[.type "zip",a0,a1,a2],[]}=pure ():=by kernel_rfl
theorem RT(x a0 a1 a2:Value):argsOk "object.__init__" {[x,a0,a1,a2],[]}:=by unfold argsOk;rw[signature?_of (id:="object.__init__") (n:=['_','_','t','i','n','i','_','_']) (o:=['t','c','e','j','b','o']) (by kernel_rfl) F.owner_object];kernel_rfl
theorem Dn(t0:s.heap.IsTuple l0 Dc)(t1:s.heap.IsTuple l1 Dd)(t2:s.heap.IsTuple l2 Uz)(h:∀h',ZS3 s.heap.objs.size l0 l1 l2 0 h'->(∀c o,s.heap.get? c=some o->h'.get? c=some o)->Q (.ref<|s.heap.objs.size+5) {s with heap:=h'}):wpAny (model prog w) A (call (.type "zip") [.ref l0,.ref l1,.ref l2]) Q E s:=by
 refine callType_new F.called_zip (by decide) (Dk _ _ _) (Dm _ _ _) (λobj=>RT obj _ _ _) F.entry_zip_new (Dj l0 l1 l2 Dc Dd Uz) {t0,t1,t2,?_};have z1:(Nh s.heap l0).objs.size=s.heap.objs.size+1:=yd ..;have z2:(Ni s.heap l0 l1).objs.size=s.heap.objs.size+2:=by rw[yd,z1]
 have z3:(Nj s.heap l0 l1 l2).objs.size=s.heap.objs.size+3:=by rw[yd,z2]
 have z4:(Nk s.heap l0 l1 l2).objs.size=s.heap.objs.size+4:=by rw[yd,z3]
 have z5:(Nl s.heap l0 l1 l2).objs.size=s.heap.objs.size+5:=by rw[yd,z4]
 have z6:(AZ s.heap l0 l1 l2).objs.size=s.heap.objs.size+6:=by rw[yd,z5]
 have g0:(AZ s.heap l0 l1 l2).get? (s.heap).objs.size=some _:=za _<|za _<|za _<|za _<|za _<|zk _ rfl;have g1:(AZ s.heap l0 l1 l2).get? (Nh s.heap l0).objs.size=some _:=za _<|za _<|za _<|za _<|zk _ rfl;have g2:(AZ s.heap l0 l1 l2).get? (Ni s.heap l0 l1).objs.size=some _:=za _<|za _<|za _<|zk _ rfl;have g3:(AZ s.heap l0 l1 l2).get? (Nj s.heap l0 l1 l2).objs.size=some _:=za _<|za _<|zk _ rfl;have g4:(AZ s.heap l0 l1 l2).get? (Nk s.heap l0 l1 l2).objs.size=some _:=za _<|zk _ rfl;have g5:(AZ s.heap l0 l1 l2).get? (Nl s.heap l0 l1 l2).objs.size=some _:=zk _ rfl;show _/\_;rw[z3,z4,z5]at g5;rw[z4]at g4;rw[z1,z2,z3]at g3;rw[z1]at g1;rw[z2]at g2;rw[z5];exact{{_,g5,rfl},h _ {g5,g3,!⟨g4⟩,{_,g0,rfl,rfl},{_,g1,rfl,rfl},{_,g2,rfl,rfl}} λc o x=>za _<|za _<|za _<|za _<|za _<|za _ x}
theorem Vals.three(h:Vals [x,y,z] us):∃u v w,us=[u,v,w]/\RelV x u/\RelV y v/\RelV z w:=by cases h with|cons r h=>cases h with|cons q h=>cases h with|cons p h=>cases h;exact{_,_,_,rfl,r,q,p}
section
variable{X:Cx}
def Nm:V->List V->Hp->VK->Prop:=λx vs H Q=>∃z y,x=.str z/\vs=[.str y]/\Q (.bl<|PySem.Txt.startswith z y) H
theorem uE:Ur X "str.startswith" Nm:=by intro pins s σ H x vs v us Q I rx rv h;obtain⟨z,y,rfl,rfl,q⟩:=h;obtain⟨t,rfl⟩:=rx;obtain⟨u,rfl,ru⟩:=rv.one;obtain⟨t',rfl⟩:=ru;exact PySem.SC.startswith {.bl _,H,I,rfl,q}
end
theorem sx:∀l:List α,(List.range l.length).filterMap (λk=>l[k]?)=l:=by
 intro l;have h:∀n,n<=l.length->(List.range n).filterMap (λk=>l[k]?)=l.take n:=by intro n;induction n with|zero=>intro _;rfl|succ n ih=>intro hn;have eB:n<l.length:=(by lia);rw[List.range_succ,List.filterMap_append,ih<|by lia,List.take_add_one,ze eB];simp[eB]
 rw[h _<|zq _,yG]
theorem sy:∀{l:List α},(∀x∈l,f x=g x)->l.filterMap f=l.filterMap g|[],_=>rfl|a::l,h=>by rw[List.filterMap_cons,List.filterMap_cons,h a zj,sy λx hx=>h x<|zg _ hx]
theorem kU(ay:dL):slicePick ay.toArray none none (some (-1))=ay.reverse.toArray:=by
 unfold slicePick sliceBounds sliceRange;have e0:((some (-1:Int)).getD 1) = -1:=rfl;simp only[e0,zt,show ¬((-1:Int)>0) by decide,if_false];have ec:(if ((ay.length:Int)-1) > -1 then (((ay.length:Int)-1) - -1 - -1-1)/(- -1) else 0).toNat=ay.length:=by split;{first|(simp;done)|(simp;lia)};lia
 rw[ec];congr 1;rw[List.filterMap_map];have e2:=sx ay.reverse;rw[zP]at e2;conv=>rhs;rw[<-e2]
 refine sy λk hk=>?_;have hk:k<ay.length:=zS.mp hk;show ay.toArray[((ay.length:Int)-1 + -1*(k:Int)).toNat]?=ay.reverse[k]?;have e3:((ay.length:Int)-1 + -1*(k:Int)).toNat=ay.length-1-k:=by lia
 rw[e3,List.getElem?_reverse hk];simp
def aaU(K:Frag):V->Hp->VK->Prop:=λx H Q=>∃a xs,x=.ref a/\jk K H a xs/\∀p,H p=none->Q (.ref p) (upd H p<|.lst xs.reverse)
theorem RU{X:Cx}{K:Frag}{e st:Expr}{te:TE}{p2 pos:Pos}(hK:X.K=K)(he:PE X e te){We:TO}(uv:PO X (some st) We)(hv:∀σ H (R:Option Int->Hp->Prop),R (some (-1)) H->We σ H R):PE X (.Subscript e (.Slice none none (some st) p2) pos) (λσ H Q=>te σ H λx H1=>aaU K x H1 Q):=by
 subst hK;intro pins s σ H Q I h;refine Subscript_<|bb (he pins s σ H _ I h) ?_;rintro v s1 ⟨x,H1,I1,r1,q1⟩;refine wpAny_Slice ?_;rw[evalPart_none];refine zA ?_;refine zA ?_;refine bb (uv pins s1 σ H1 (λo H2=>o=some (-1)/\H2=H1) I1<|hv _ _ _ ⟨rfl,rfl⟩) ?_;rintro vs s3 ⟨o,H3,I3,ps,eo,eH⟩;subst eo eH;obtain⟨a,xs,rfl,hx,q⟩:=q1;cases r1;have I4:Inv X pins σ H3 {s3 with heap:=s3.heap.push {cls:=.type "slice",data:=.fields #[.none,.none,vs]}}:=I3.kept (t':=s3.toks) λb ob q=>za _ q;obtain⟨ay,r,ht,hz⟩:=I4.list hx;have hlen:=r.length;have hg:wpAny (model X.prog X.w) X.A (getItem (.ref a)<|.ref s3.heap.objs.size) (EP X pins σ Q) X.xe {s3 with heap:=s3.heap.push {cls:=.type "slice",data:=.fields #[.none,.none,vs]}}:=by refine wpAny_getItem_list_slice ht.isList (Heap.IsSliceOf.new ..) .none .none ps (by simp) ?_ (by rw[zt]<;>lia);rw[kU];refine{.ref _,_,I4.laid (t':=s3.toks) (o:=.lst xs.reverse) (λb ob q=>za _ q) (zq _) ?_,rfl,q _<|I4.aN.fresh<|zq _};exact{by rw[zP];exact hz,_,0,r.reverse,zk _ rfl}
 exact tail_any (ops:=[.ref a,.ref s3.heap.objs.size]) ht.isList.typeIs slot_list_getitem.lookup hg<|by with_unfolding_all rfl
end L2
namespace L2
open PySem PySem.Spec PyProof.Rows PySem.SeqAt
end L2
namespace L2
open PySem PySem.Spec PyProof.Rows
theorem wY(l:Addr)(items:ii)(n:Nat)(b:Addr)(sA:ii)(n2:Nat)(sl:Array<|Option Value)(UA:¬(!items.isEmpty&&Builtin.List.listTooLong (items.size+sA.size))=true)(hs1:items.size<=sizeLine)(AF:items.size+sA.size<=sizeLine+1): Meets (Builtin.«list.extend» {[.ref l,.ref b],[]}) (λ_ R s=>s.heap.get? l=some {cls:=.type "list",dict:=none,data:=.seq items n,slots:=#[]}/\s.heap.get? b=some {cls:=.type "tuple",dict:=none,data:=.seq sA n2,slots:=sl}/\R (.ok<|.ret Value.none) {s with heap:=s.heap.update l<|Obj.mapSeq λx=>x++sA,toks:=s.toks}):=.of_wp λprog w A R s h=>by
 obtain⟨hp,g,d,tk,os⟩:=s;obtain⟨hl,hb,h⟩:=h;have f1:=AutoSeq1.idx_int;have f2:=AutoSeq1.sub_tuple_tuple;have f3:=AutoSeq1.sub_list_list;have f4:=AutoSeq1.sub_tuple_list;have f5:=AutoSeq1.sub_list_tuple;have hz':(items++sA).size<=sizeLine+1:=by rw[Array.size_append];exact AF
 wp_walk using (wpAny_updateSeq hl rfl (hz:=hs1) (_hz':=hz')),AutoSeq1.wpAny_loadPart' hl,AutoSeq1.wpAny_loadPart' hb;exact{_,rfl,h}
section
variable{X:Cx}
def JG:V->List V->Hp->VK->Prop:=λx vs H Q=>∃l b xs zs,x=.ref l/\vs=[.ref b]/\H l=some (.lst xs)/\H b=some (.tup zs)/\xs.length+zs.length<=sizeLine/\Q .av (upd H l<|.lst<|xs++zs)
theorem Dq:YK X "list.extend" JG:=by
 intro pins s σ H x vs v us Q I rx rv h;obtain⟨l,b,xs,zs,rfl,rfl,hH,hB,hz,q⟩:=h;cases rx;obtain⟨u,rfl,ru⟩:=rv.one;cases ru;obtain⟨z,ay,n,r,hl,e⟩:=I.G0 hH;obtain⟨z2,wK,r2,⟨c2,d2,dt2,V6⟩,e2,ec,ed,n2,en⟩:=(show bj X.prog X.w H s.heap b (.tup zs) from I.aN b _ hB);dsimp only at ec ed en;subst ec ed en;have Rl:=r2.length;have hsz:ay.toArray.size+wK.toArray.size<=sizeLine:=by rw[zt,zt];lia
 have Wf:¬(!ay.toArray.isEmpty&&Builtin.List.listTooLong (ay.toArray.size+wK.toArray.size))=true:=by rw[Jd hsz,Bool.and_false];exact zd
 refine call_meets F.slot_list_extend {_,e,rfl} F.entry_list_extend (F.args_list_extend_2 _ _) (wY l ay.toArray n b wK.toArray n2 V6 Wf (by rw[zt];lia)<|by lia) {e,e2,?_};refine{.av,_,I.MH (its':=ay++wK) hH e (by simp) (r.append r2) ?_,rfl,q};rw[zD];lia
end
set_option genInjectivity true in
set_option genSizeOfSpec true in
inductive D where
 |av|bl (b:Bool)|int (i:Int)|str (x:Str)|tup (ds:List D)|kW (ds:List D)|kt (ds:List D)|ref (a:Addr)|ty (n:String)
abbrev v0:=List D
abbrev wf:=List (Key×D)
abbrev wl:=List (Str×D)
abbrev wn:=Option D
def KtL(K:Frag)(a:Addr)(xs:cr):Prop:=∃(o:Obj)(ay:ii)(n:Nat),K.lookup a=some o/\o.cls=.type "tuple"/\o.data=.seq ay n/\ay.size<=sizeLine/\Vals xs ay.toList
def Pf(K:Frag)(H:Hp)(a:Addr)(xs:cr):Prop:=(∃o,H a=some (.lM o<|.lst xs))\/∃(o:Obj)(ay:ii)(n:Nat),K.lookup a=some o/\o.cls=.type "list"/\o.dict=none/\o.data=.seq ay n/\ay.size<=sizeLine/\Vals xs ay.toList
theorem Pf.sq{K:Frag}{H:Hp}{a:Addr}{xs:cr}(h:Pf K H a xs):jk K H a xs:=by rcases h with h|h;exact .inl<|.inr h;exact .inr h
structure Kp(K:Frag)(H H':Hp):Prop where
 t:∀a xs,H a=some (.tup xs)->H' a=some (.tup xs)
 r:∀a xs,Pf K H a xs->Pf K H' a xs
 f:∀a o u,H a=some (.lM o u)->H' a=some (.lM o u)
theorem Kp.refl{K:Frag}(H:Hp):Kp K H H:={λ_ _ h=>h,λ_ _ h=>h,λ_ _ _ h=>h}
theorem Kp.trans{K:Frag}{H H1 H2:Hp}(a:Kp K H H1)(b:Kp K H1 H2):Kp K H H2:={λp xs h=>b.t p xs<|a.t p xs h,λp xs h=>b.r p xs<|a.r p xs h,λp o u h=>b.f p o u<|a.f p o u h}
theorem Kp.of{K:Frag}{H H':Hp}(h:∀b o,H b=some o->H' b=some o\/(∀xs,o≠.tup xs)/\∀u v,o≠.lM u v):Kp K H H' where
 t:=λa xs q=>(h _ _ q).resolve_right λz=>z.1 _ rfl
 r:=λa xs q=>by
  rcases q with⟨o,q⟩|q
  ·exact .inl {o,(h _ _ q).resolve_right λz=>z.2 _ _ rfl}
  ·exact .inr q
 f:=λa o u q=>(h _ _ q).resolve_right λz=>z.2 _ _ rfl
theorem Kp.new{K:Frag}{H:Hp}{a:Addr}{o:HO}(h:H a=none):Kp K H (upd H a o):=.of λb u e=>.inl<|by rw[az<|aF e h];exact e
theorem Kp.put{K:Frag}{H:Hp}{a:Addr}{o u:HO}(h:H a=some o)(h1:∀xs,o≠.tup xs)(h2:∀u v,o≠.lM u v):Kp K H (upd H a u):=.of λb v e=>by by_cases q:b=a;subst q;rw[h]at e;cases e;exact .inr ⟨h1,h2⟩;exact .inl<|by rw[az q];exact e
mutual
def Rv(K:Frag)(H:Hp):D->V->Prop|.av,v=>v=.av|.bl b,v=>v=.bl b|.int i,v=>v=.int i|.str z,v=>v=.str z|.tup ds,v=>∃a xs,v=.ref a/\H a=some (.tup xs)/\RvAll K H ds xs|.kW ds,v=>∃a xs,v=.ref a/\Pf K H a xs/\RvAll K H ds xs|.kt ds,v=>∃a xs,v=.ref a/\KtL K a xs/\RvAll K H ds xs|.ref a,v=>v=.ref a|.ty n,v=>v=.ty n
def RvAll(K:Frag)(H:Hp):List D->List V->Prop|[],xs=>xs=[]|d::ds,xs=>∃y ys,xs=y::ys/\Rv K H d y/\RvAll K H ds ys
end
section
variable{K:Frag}{H H':Hp}
theorem jw:Rv K H .av .av:=by simp only[Rv]
theorem bS(b:Bool):Rv K H (.bl b) (.bl b):=by simp only[Rv]
theorem aP(i:Int):Rv K H (.int i) (.int i):=by simp only[Rv]
theorem cA(z:Str):Rv K H (.str z) (.str z):=by simp only[Rv]
theorem gH(a:Addr):Rv K H (.ref a) (.ref a):=by simp only[Rv]
theorem Wh(n:String):Rv K H (.ty n) (.ty n):=by simp only[Rv]
theorem Pg(h:KtL K a xs)(t:RvAll K H ds xs):Rv K H (.kt ds) (.ref a):=by simp only[Rv];exact⟨a,xs,rfl,h,t⟩
theorem oE(h:H a=some (.tup xs))(t:RvAll K H ds xs):Rv K H (.tup ds) (.ref a):=by simp only[Rv];exact⟨a,xs,rfl,h,t⟩
theorem JH(h:Pf K H a xs)(t:RvAll K H ds xs):Rv K H (.kW ds) (.ref a):=by simp only[Rv];exact⟨a,xs,rfl,h,t⟩
theorem Rv.av(h:Rv K H .av v):v=.av:=by simpa only[Rv]using h
theorem Rv.bl(h:Rv K H (.bl b) v):v=.bl b:=by simpa only[Rv]using h
theorem Rv.int(h:Rv K H (.int i) v):v=.int i:=by simpa only[Rv]using h
theorem Rv.str(h:Rv K H (.str z) v):v=.str z:=by simpa only[Rv]using h
theorem Rv.ref(h:Rv K H (.ref a) v):v=.ref a:=by simpa only[Rv]using h
theorem Rv.ty(h:Rv K H (.ty n) v):v=.ty n:=by simpa only[Rv]using h
theorem Rv.kt(h:Rv K H (.kt ds) v):∃a xs,v=.ref a/\KtL K a xs/\RvAll K H ds xs:=by simpa only[Rv]using h
theorem Rv.tup(h:Rv K H (.tup ds) v):∃a xs,v=.ref a/\H a=some (.tup xs)/\RvAll K H ds xs:=by simpa only[Rv]using h
theorem Rv.kW(h:Rv K H (.kW ds) v):∃a xs,v=.ref a/\Pf K H a xs/\RvAll K H ds xs:=by simpa only[Rv]using h
theorem bt:RvAll K H [] []:=by simp only[RvAll]
theorem aT(h:Rv K H d x)(t:RvAll K H ds xs):RvAll K H (d::ds) (x::xs):=by simp only[RvAll];exact⟨x,xs,rfl,h,t⟩
theorem RvAll.nil(h:RvAll K H [] xs):xs=[]:=by simpa only[RvAll]using h
theorem RvAll.cons(h:RvAll K H (d::ds) xs):∃y ys,xs=y::ys/\Rv K H d y/\RvAll K H ds ys:=by simpa only[RvAll]using h
mutual
theorem Rv.ts(s:Kp K H H'):∀(d:D){v:V},Rv K H d v->Rv K H' d v|.av,v,h=>by simpa only[Rv]using h|.bl b,v,h=>by simpa only[Rv]using h|.int i,v,h=>by simpa only[Rv]using h|.str z,v,h=>by simpa only[Rv]using h|.tup ds,v,h=>(by obtain⟨a,xs,rfl,e,t⟩:=h.tup;exact oE (s.t _ _ e)<|RvAll.ts s ds t)|.kW ds,v,h=>(by obtain⟨a,xs,rfl,e,t⟩:=h.kW;exact JH (s.r _ _ e)<|RvAll.ts s ds t)|.kt ds,v,h=>(by obtain⟨a,xs,rfl,e,t⟩:=h.kt;exact Pg e<|RvAll.ts s ds t)|.ref a,v,h=>by simpa only[Rv]using h|.ty n,v,h=>by simpa only[Rv]using h
theorem RvAll.ts(s:Kp K H H'):∀(ds:List D){xs:List V},RvAll K H ds xs->RvAll K H' ds xs|[],xs,h=>by rw[h.nil];exact bt|d::ds,xs,h=>by obtain⟨y,ys,rfl,h1,h2⟩:=h.cons;exact aT (Rv.ts s d h1)<|RvAll.ts s ds h2
end
theorem RvAll.len:∀{ds:List D}{xs:List V},RvAll K H ds xs->xs.length=ds.length|[],xs,h=>by rw[h.nil];rfl|d::ds,xs,h=>by obtain⟨y,ys,rfl,_,h2⟩:=h.cons;rw[zQ,zQ,h2.len]
theorem RvAll.get:∀{ds:List D}{xs:List V}{i:Nat}{d:D},RvAll K H ds xs->ds[i]?=some d->∃v,xs[i]?=some v/\Rv K H d v|[],xs,i,d,h,e=>by simp at e|d0::ds,xs,0,d,h,e=>(by obtain⟨y,ys,rfl,h1,h2⟩:=h.cons;simp at e;subst e;exact⟨y,rfl,h1⟩)|d0::ds,xs,i+1,d,h,e=>by obtain⟨y,ys,rfl,h1,h2⟩:=h.cons;obtain⟨v,e1,e2⟩:=h2.get (i:=i) (by simpa using e);exact{v,by simpa using e1,e2}
theorem RvAll.app:∀{ds es:List D}{xs ys:List V},RvAll K H ds xs->RvAll K H es ys->RvAll K H (ds++es) (xs++ys)|[],es,xs,ys,h,k=>by rw[h.nil];exact k|d::ds,es,xs,ys,h,k=>by obtain⟨y,zs,rfl,h1,h2⟩:=h.cons;exact aT h1<|h2.app k
theorem RvAll.take:∀{ds:List D}{xs:List V}(n:Nat),RvAll K H ds xs->RvAll K H (ds.take n) (xs.take n)|[],xs,n,h=>by rw[h.nil];simp only[List.take_nil];exact bt|d::ds,xs,0,h=>by simp only[List.take_zero];exact bt|d::ds,xs,n+1,h=>by obtain⟨y,zs,rfl,h1,h2⟩:=h.cons;exact aT h1<|h2.take n
theorem RvAll.drop:∀{ds:List D}{xs:List V}(n:Nat),RvAll K H ds xs->RvAll K H (ds.drop n) (xs.drop n)|[],xs,n,h=>by rw[h.nil];simp only[List.drop_nil];exact bt|d::ds,xs,0,h=>h|d::ds,xs,n+1,h=>by obtain⟨y,zs,rfl,h1,h2⟩:=h.cons;exact h2.drop n
theorem RvAll.set:∀{ds:List D}{xs:List V}{d:D}{v:V}(n:Nat),RvAll K H ds xs->Rv K H d v->RvAll K H (ds.set n d) (xs.set n v)|[],xs,d,v,n,h,r=>by rw[h.nil];exact bt|d0::ds,xs,d,v,0,h,r=>(by obtain⟨y,zs,rfl,h1,h2⟩:=h.cons;exact aT r h2)|d0::ds,xs,d,v,n+1,h,r=>by obtain⟨y,zs,rfl,h1,h2⟩:=h.cons;exact aT h1<|h2.set n r
theorem RvAll.erase:∀{ds:List D}{xs:List V}(n:Nat),RvAll K H ds xs->RvAll K H (ds.eraseIdx n) (xs.eraseIdx n)|[],xs,n,h=>by rw[h.nil];exact bt|d::ds,xs,0,h=>(by obtain⟨y,zs,rfl,h1,h2⟩:=h.cons;exact h2)|d::ds,xs,n+1,h=>by obtain⟨y,zs,rfl,h1,h2⟩:=h.cons;exact aT h1<|h2.erase n
theorem RvAll.dropLast:∀{ds:List D}{xs:List V},RvAll K H ds xs->RvAll K H ds.dropLast xs.dropLast|[],xs,h=>by rw[h.nil];exact bt|[d],xs,h=>(by obtain⟨y,zs,rfl,h1,h2⟩:=h.cons;rw[h2.nil];exact bt)|d::e::ds,xs,h=>by obtain⟨y,zs,rfl,h1,h2⟩:=h.cons;obtain⟨y2,zs2,rfl,h3,h4⟩:=id h2.cons;exact aT h1<|RvAll.dropLast h2
theorem RvAll.rev:∀{ds:List D}{xs:List V},RvAll K H ds xs->RvAll K H ds.reverse xs.reverse|[],xs,h=>by rw[h.nil];exact bt|d::ds,xs,h=>by obtain⟨y,zs,rfl,h1,h2⟩:=h.cons;rw[List.reverse_cons,List.reverse_cons];exact h2.rev.app<|aT h1 bt
theorem RvAll.bools:∀{bs:ut}{xs:List V},RvAll K H (bs.map D.bl) xs->xs=bs.map V.bl|[],xs,h=>h.nil|b::bs,xs,h=>by obtain⟨y,ys,rfl,h1,h2⟩:=h.cons;rw[h1.bl,h2.bools];rfl
theorem RvAll.ints:∀{bs:rp}{xs:List V},RvAll K H (bs.map D.int) xs->xs=bs.map V.int|[],xs,h=>h.nil|b::bs,xs,h=>by obtain⟨y,ys,rfl,h1,h2⟩:=h.cons;rw[h1.int,h2.ints];rfl
theorem RvAll.strs:∀{bs:j4}{xs:List V},RvAll K H (bs.map D.str) xs->xs=bs.map V.str|[],xs,h=>h.nil|b::bs,xs,h=>by obtain⟨y,ys,rfl,h1,h2⟩:=h.cons;rw[h1.str,h2.strs];rfl
theorem Fe:∀(bs:rp),RvAll K H (bs.map D.int) (bs.map V.int)|[]=>bt|b::bs=>aT (aP b)<|Fe bs
theorem wZ:∀(bs:j4),RvAll K H (bs.map D.str) (bs.map V.str)|[]=>bt|b::bs=>aT (cA b)<|wZ bs
def bM{κ:Type}(K:Frag)(H:Hp):List (κ×D)->List (κ×V)->Prop:=Paired λp q=>p.1=q.1/\Rv K H p.2 q.2
theorem bM.ts(s:Kp K H H'):∀{ks:List (κ×D)}{vs:List (κ×V)},bM K H ks vs->bM K H' ks vs|_,_,.nil=>.nil|_,_,.cons r t=>.cons {r.1,Rv.ts s _ r.2}<|bM.ts s t
theorem bM.look(h:bM K H ks vs)(f:Str):(∀d,ks.lookup f=some d->∃v,vs.lookup f=some v/\Rv K H d v)/\(ks.lookup f=none->vs.lookup f=none):=by induction h with|nil=>(exact{λd e=>(by cases e),λ_=>rfl})|@cons a b l m r t ih=>obtain⟨k,d⟩:=a;obtain⟨k',v⟩:=b;obtain⟨rfl,r⟩:=r;simp only[zW];cases q:f==k with|true=>(exact{λd' e=>{v,rfl,(by cases e;exact r)},λe=>(by cases e)})|false=>exact ih
end
set_option genInjectivity true in
set_option genSizeOfSpec true in
inductive Ce where
 |lst (ds:List D)|bY (kvs:List<|Key×D)|ins (c:Addr) (fs:List<|Str×D)|well|exc (c:Addr)|tab (q:Str)
def Ff(H:Hp)(q:Str)(ps:ii):Prop:=TriplesOk ps.toList/\∀pos cv,codeAmong pos ps.toList=some cv->∃c o vs t,cv=.ref c/\H c=some (.lM o<|.own 0)/\o.data=.fields vs/\vs[1]?=some (.str q t)
abbrev aq:=Addr->Option Ce
noncomputable def aq.set(S:aq)(a:Addr)(c:Ce):aq:=λb=>if b=a then some c else S b
theorem aa{S:aq}{a:Addr}{c:Ce} : S.set a c a=some c:=by unfold aq.set;rw[if_pos rfl]
theorem ae{S:aq}{a b:Addr}{c:Ce}(h:b≠a):S.set a c b=S b:=by unfold aq.set;rw[if_neg h]
theorem aQ{S:aq}{a:Addr}{c e:Ce} : (S.set a c).set a e=S.set a e:=by funext b;unfold aq.set;split<;>rfl
theorem gU{S:aq}{a b:Addr}{c:Ce}(h:S a=some c)(h':S b=none):a≠b:=by intro e;subst e;rw[h]at h';cases h'
def Rc(K:Frag)(H:Hp)(a:Addr):Ce->Prop|.lst ds=>∃xs,H a=some (.lst xs)/\RvAll K H ds xs|.bY kvs=>∃vs,H a=some (.dK vs)/\bM K H kvs vs|.ins c fs=>∃dx vs,H a=some (.ins c dx vs)/\bM K H fs vs|.well=>∃x y z:Int,H a=some (.lst [.int x,.int y,.int z])|.exc c=>H a=some (aaL a<|.ref c)|.tab q=>∃ps,H a=some (.qW ps)/\Ff H q ps
def Rs(K:Frag)(S:aq)(H:Hp):Prop:=∀a c,S a=some c->Rc K H a c
section
variable{K:Frag}{H H':Hp}{S:aq}{a b:Addr}{c:Ce}
theorem Rc.has(h:Rc K H a c):∃o,H a=some o/\(∀xs,o≠.tup xs)/\∀u v,o≠.lM u v:=by cases c with|lst ds=>(obtain⟨xs,e,_⟩:=h;exact{_,e,λ_=>nofun,λ_ _=>nofun})|bY ds=>(obtain⟨xs,e,_⟩:=h;exact{_,e,λ_=>nofun,λ_ _=>nofun})|ins c fs=>(obtain⟨dx,vs,e,_⟩:=h;exact{_,e,λ_=>nofun,λ_ _=>nofun})|well=>(obtain⟨x,y,z,e⟩:=h;exact{_,e,λ_=>nofun,λ_ _=>nofun})|exc c=>exact{_,h,λ_=>nofun,λ_ _=>nofun}|tab q=>obtain⟨ps,e,_⟩:=h;exact{_,e,λ_=>nofun,λ_ _=>nofun}
theorem Rc.keep(h:Rc K H a c)(e:∀o,H a=some o->H' a=some o)(s:Kp K H H'):Rc K H' a c:=by cases c with|lst ds=>(obtain⟨xs,e1,r⟩:=h;exact{xs,e _ e1,RvAll.ts s _ r})|bY ds=>(obtain⟨xs,e1,r⟩:=h;exact{xs,e _ e1,r.ts s})|ins c fs=>(obtain⟨dx,vs,e1,r⟩:=h;exact{dx,vs,e _ e1,r.ts s})|well=>(obtain⟨x,y,z,e1⟩:=h;exact{x,y,z,e _ e1})|exc c=>exact e _ h|tab q=>obtain⟨ps,e1,r,r2⟩:=h;exact{ps,e _ e1,r,λpos cv z=>by obtain⟨c,o,vs,t,z1,z2,z3⟩:=r2 pos cv z;exact{c,o,vs,t,z1,s.f _ _ _ z2,z3}}
theorem Rs.fresh(h:Rs K S H)(e:H a=none):S a=none:=by cases q:S a with|none=>rfl|some c=>obtain⟨o,e1,_⟩:=(h a c q).has;rw[e]at e1;cases e1
theorem Rs.new(h:Rs K S H)(e:H a=none){o:HO}(r:Rc K (upd H a o) a c):Rs K (S.set a c) (upd H a o):=λb x hb=>by by_cases q:b=a;subst q;rw[aa]at hb;cases hb;exact r;rw[ae q]at hb;exact(h b x hb).keep (λo e1=>by rw[az q];exact e1)<|Kp.new e
theorem Rs.grow(h:Rs K S H)(e:H a=none):Rs K S (upd H a o):=λb x hb=>by obtain⟨u,e1,_⟩:=(h b x hb).has;have q:b≠a:=aF e1 e;exact(h b x hb).keep (λo e1=>by rw[az q];exact e1)<|Kp.new e
theorem Rs.gI(h:Rs K S H)(ha:S a=some e):Kp K H (upd H a o):=by obtain⟨u,e1,n1,n2⟩:=(h a e ha).has;exact Kp.put e1 n1 n2
theorem Rs.put(h:Rs K S H){e:Ce}(ha:S a=some e){o:HO}(r:Rc K (upd H a o) a c):Rs K (S.set a c) (upd H a o):=λb x hb=>by by_cases q:b=a;subst q;rw[aa]at hb;cases hb;exact r;rw[ae q]at hb;exact(h b x hb).keep (λo e1=>by rw[az q];exact e1)<|h.gI ha
theorem Rs.lst(h:Rs K S H)(e:S a=some (.lst ds)):∃xs,H a=some (.lst xs)/\RvAll K H ds xs:=h a _ e
theorem Rs.bY(h:Rs K S H)(e:S a=some (.bY ds)):∃xs,H a=some (.dK xs)/\bM K H ds xs:=h a _ e
theorem Rs.ins{c:Addr}{fs:List<|Str×D}(h:Rs K S H)(e:S a=some (.ins c fs)):∃dx vs,H a=some (.ins c dx vs)/\bM K H fs vs:=h a _ e
end
abbrev KD:=D->aq->Prop
abbrev KX:=Addr->aq->Prop
abbrev SD:=List<|Option D
def iu(K:Frag)(H:Hp):SD->St->Prop:=Paired λ(o:Option D)(u:Option V)=>∀d,o=some d->∃v,u=some v/\Rv K H d v
section
variable{K:Frag}{H H':Hp}
theorem iu.ts(s:Kp K H H'):∀{σ:SD}{τ:St},iu K H σ τ->iu K H' σ τ|_,_,.nil=>.nil|_,_,.cons r t=>.cons (λd e=>by obtain⟨v,e1,r1⟩:=r d e;exact{v,e1,Rv.ts s _ r1})<|iu.ts s t
theorem iu.get:∀{σ:SD}{τ:St}{i:Nat}{d:D},iu K H σ τ->σ[i]?=some (some d)->∃v,τ[i]?=some (some v)/\Rv K H d v|_,_,i,d,.nil,e=>by simp at e|_,_,0,d,.cons r t,e=>(by simp at e;obtain⟨v,e1,r1⟩:=r d e;exact{v,by simp[e1],r1})|_,_,i+1,d,.cons r t,e=>by obtain⟨v,e1,r1⟩:=iu.get (i:=i) t (by simpa using e);exact{v,by simpa using e1,r1}
theorem iu.set:∀{σ:SD}{τ:St}(i:Nat){d:D}{v:V},iu K H σ τ->Rv K H d v->iu K H (σ.set i<|some d) (τ.set i<|some v)|_,_,i,d,v,.nil,r=>.nil|_,_,0,d,v,.cons r t,q=>(.cons (λd' e=>by cases e;exact⟨v,rfl,q⟩) t)|_,_,i+1,d,v,.cons r t,q=>.cons r<|iu.set i t q
theorem sC:∀(n:Nat)(τ:St),τ.length=n->iu K H (List.replicate n none) τ|0,[],_=>.nil|n+1,_::τ,h=>.cons (λd e=>by cases e)<|sC n τ<|by simpa using h
theorem sD:∀{ds:List D}{vs:List V},RvAll K H ds vs->iu K H (ds.map some) (vs.map some)|[],vs,h=>by rw[h.nil];exact .nil|d::ds,vs,h=>by obtain⟨y,ys,rfl,h1,h2⟩:=h.cons;exact .cons (λd' e=>by cases e;exact⟨y,rfl,h1⟩)<|sD h2
theorem iu.app:∀{σ aG:SD}{τ UB:St},iu K H σ τ->iu K H aG UB->iu K H (σ++aG) (τ++UB)|_,_,_,_,.nil,h=>h|_,_,_,_,.cons r t,h=>.cons r<|iu.app t h
end
structure Rdy(Y:Cx)(E:St->XK)(b:Bool):Prop where
 call:∀p2 τ H s e s',Inv Y p2 τ H s->fG Y.prog Y.w Y.mg Y.stack H s (E τ) e s'->Y.xe e s'
 own:b=true->∀p2 τ H s h' a cls args,Inv Y p2 τ H s->Heap.MadeExcOf s.heap h' a cls args->E τ cls none H->Y.xe (.ref a) {s with heap:=h'}
 loop:b=true->PassesOwn (model Y.prog Y.w) Y.A Y.env Y.xe
structure Ev(X:Cx)(b:Bool) where
 pn:List (Addr×Obj)
 xe:Value->Shared->Prop
 E:St->XK
 ok:Rdy {X with pn:=pn,xe:=xe} E b
noncomputable abbrev Ev.cx{X:Cx}{b:Bool}(y:Ev X b):Cx:={X with pn:=y.pn,xe:=y.xe}
def Cn(K:Frag)(H:Hp)(R:KD)(Q:VK):Prop:=∀d S v H',R d S->Rv K H' d v->Rs K S H'->Kp K H H'->Q v H'
def Fh(K:Frag)(H:Hp)(Z:KX)(e:XK):Prop:=∀C S H',Z C S->Rs K S H'->Kp K H H'->e (.ref C) none H'
theorem Cn.kp{K:Frag}{H H1:Hp}{R:KD}{Q:VK}(h:Cn K H R Q)(k:Kp K H H1):Cn K H1 R Q:=λd S v H' r v1 s1 k1=>h d S v H' r v1 s1<|k.trans k1
theorem Fh.kp{K:Frag}{H H1:Hp}{Z:KX}{e:XK}(h:Fh K H Z e)(k:Kp K H H1):Fh K H1 Z e:=λC S H' r s1 k1=>h C S H' r s1<|k.trans k1
abbrev TD:=SD->aq->KD->KX->Prop
def T(K:Frag)(E:St->XK)(t:TD):TE:=λτ H Q=>∃σ S R Z,iu K H σ τ/\Rs K S H/\t σ S R Z/\Cn K H R Q/\Fh K H Z (E τ)
structure DE(K:Frag)(X:Cx)(e:Expr)(t:TD):Prop where
 of:∀{b:Bool}(y:Ev X b),PE y.cx e<|T K y.E t
abbrev mw:=SD->aq->(Bool->aq->Prop)->KX->Prop
def YS(K:Frag)(H:Hp)(R:Bool->aq->Prop)(Q:Bool->Hp->Prop):Prop:=∀b S H',R b S->Rs K S H'->Kp K H H'->Q b H'
theorem YS.kp{K:Frag}{H H1:Hp}{R:Bool->aq->Prop}{Q:Bool->Hp->Prop}(h:YS K H R Q)(k:Kp K H H1):YS K H1 R Q:=λd S H' r s1 k1=>h d S H' r s1<|k.trans k1
def Tt(K:Frag)(E:St->XK)(t:mw):TT:=λτ H Q=>∃σ S R Z,iu K H σ τ/\Rs K S H/\t σ S R Z/\YS K H R Q/\Fh K H Z (E τ)
structure DT(K:Frag)(X:Cx)(e:Expr)(t:mw):Prop where
 of:∀{b:Bool}(y:Ev X b),PT y.cx e<|Tt K y.E t
abbrev je:=SD->aq->(List D->aq->Prop)->KX->Prop
def CnA(K:Frag)(H:Hp)(R:List D->aq->Prop)(Q:List V->Hp->Prop):Prop:=∀ds S vs H',R ds S->RvAll K H' ds vs->Rs K S H'->Kp K H H'->Q vs H'
def Ta(K:Frag)(E:St->XK)(t:je):TA:=λτ H Q=>∃σ S R Z,iu K H σ τ/\Rs K S H/\t σ S R Z/\CnA K H R Q/\Fh K H Z (E τ)
structure DA(K:Frag)(X:Cx)(es:li)(t:je):Prop where
 of:∀{b:Bool}(y:Ev X b),PA y.cx es<|Ta K y.E t
theorem PE.mono{t t':TE}(h:PE X e t)(i:∀τ H Q,t' τ H Q->t τ H Q):PE X e t':=λpins s τ H Q I q=>h pins s τ H Q I<|i τ H Q q
theorem PT.mono{t t':TT}(h:PT X e t)(i:∀τ H Q,t' τ H Q->t τ H Q):PT X e t':=λpins s τ H Q I q=>h pins s τ H Q I<|i τ H Q q
theorem PA.mono{t t':TA}(h:PA X e t)(i:∀τ H Q,t' τ H Q->t τ H Q):PA X e t':=λpos pins s τ H Q I q=>h pos pins s τ H Q I<|i τ H Q q
section
variable{K:Frag}{X:Cx}
inductive Wi(i:Nat)(σ:SD)(S:aq)(R:KD):Prop where
 |mk (d:D)(h:σ[i]?=some (some d))(r:R d S)
def Wj(i:Nat):TD:=λσ S R _=>Wi i σ S R
inductive UC(x:D)(S:aq)(R:Bool->aq->Prop):Prop where
 |mk (b:Bool)(h:x=.bl b)(r:R b S)
def dC(d:D):TD:=λ_ S R _=>R d S
theorem dv(i:Nat)(hN:autoParam (X.N[i]?=some x) qQJ)(hv:Qv X.env.scope x:=by first|exact Or.inl rfl|exact Or.inr (Or.inl rfl)|exact Or.inr (Or.inr rfl))(hd:autoParam ((x==("__debug__": Str))=false) qQZ)(uh:autoParam ((x==("__classdict__": Str))=false) qQZ):DE K X (.Name x pos) (Wj i):=⟨λy=>(QA (X:=y.cx) hN hv hd uh).mono <| by rintro τ H Q ⟨σ,S,R,Z,aC,hS,⟨d,e,r⟩,hR,_⟩;exact by obtain⟨v,e1,rv⟩:=aC.get e;exact{v,e1,hR d S v H r rv hS<|Kp.refl _}⟩
theorem DE.const(h:∀Y:Cx,Y.env=X.env->Y.mg=X.mg->PE Y e (tC v))(r:∀H,Rv K H d v):DE K X e (dC d):=⟨λy=>(h y.cx rfl rfl).mono <| by rintro τ H Q ⟨σ,S,R,Z,aC,hS,q,hR,_⟩;exact hR d S v H q (r H) hS<|Kp.refl _⟩
theorem di:DE K X (.Constant (.int i) j pos) (dC<|.int i):=.const (λ_ _ _=>IJ) λ_=>aP i
theorem ds:DE K X (.Constant (.str i) j pos) (dC<|.str i):=.const (λ_ _ _=>QC) λ_=>cA i
theorem db:DE K X (.Constant (.bool i) j pos) (dC<|.bl i):=.const (λ_ _ _=>OV) λ_=>bS i
theorem dn:DE K X (.Constant .none j pos) (dC .av):=.const (λ_ _ _=>QB) λ_=>jw
theorem dg(hm:X.mg x=some u)(r:RelV v u)(rd:∀H,Rv K H d v)(hg:autoParam (Gl X x) qQJ)(hd:autoParam ((x==("__debug__": Str))=false) qQZ):DE K X (.Name x pos) (dC d):=.const (λY e1 e2=>EV (X:=Y) (u:=u) (show Y.env.kindOf x=_ by rw[e1];exact hg) (by rw[e2];exact hm) r hd) rd
theorem ui(hm:X.mg x=none)(hv:bootBuiltins x=some (.type n))(hg:autoParam (Gl X x) qQJ)(hn:autoParam (x≠"__name__") qQZ)(hd:autoParam ((x==("__debug__": Str))=false) qQZ):DE K X (.Name x pos) (dC<|.ty n):=.const (λY e1 e2=>Mm (X:=Y) (v:=.ty n) (show Y.env.kindOf x=_ by rw[e1];exact hg) (by rw[e2];exact hm) hv rfl hn hd) λ_=>Wh n
def Nn:je:=λ_ S R _=>R [] S
def Ph(t:TD)(u:je):je:=λσ S R Z=>t σ S (λd S1=>u σ S1 (λds S2=>R (d::ds) S2) Z) Z
theorem an:DA K X [] Nn:=⟨λy=>(CQ (X:=y.cx)).mono <| by rintro τ H Q ⟨σ,S,R,Z,aC,hS,q,hR,_⟩;exact hR [] S [] H q bt hS<|Kp.refl _⟩
theorem ac{t:TD}(h:DE K X e t)(hr:DA K X es u)(hp:autoParam (isPlain e=true) qQJ):DA K X (e::es) (Ph t u):=
 ⟨λy=>(pa2 (h.of y) (hr.of y) hp).mono <| by rintro τ H Q ⟨σ,S,R,Z,aC,hS,q,hR,hZ⟩;exact
  ⟨σ,S,_,Z,aC,hS,q,λd S1 x H1 r1 v1 s1 k1=>⟨σ,S1,_,Z,aC.ts k1,s1,r1,λds S2 xs H2 r2 v2 s2 k2=>hR (d::ds) S2 (x::xs) H2 r2 (aT (Rv.ts k2 _ v1) v2) s2<|k1.trans k2,hZ.kp k1⟩,hZ⟩⟩
abbrev w4:=D->D->aq->KD->Prop
theorem al{x:Str}{pos:Pos}(i:Nat)(hr:DA K X es u)(hN:autoParam (X.N[i]?=some x) qQJ)(hv:Qv X.env.scope x:=by first|exact Or.inl rfl|exact Or.inr (Or.inl rfl)|exact Or.inr (Or.inr rfl))(hd:autoParam ((x==("__debug__": Str))=false) qQZ)(uh:autoParam ((x==("__classdict__": Str))=false) qQZ):DA K X (.Name x pos::es) (Ph (Wj i) u):=ac (dv i hN hv hd uh) hr rfl
def Lr(K:Frag)(r:w4):R2:=λx y H Q=>∃d e S R,Rv K H d x/\Rv K H e y/\Rs K S H/\r d e S R/\Cn K H R Q
def qF(K:Frag)(f:Value->Value->Sem Value)(r:w4):Prop:=∀X:Cx,X.K=K->X.A.units+64<cLine->iz X f (Lr K r)
def RV(r:w4)(ta tb:TD):TD:=λσ S R Z=>ta σ S (λx S1=>tb σ S1 (λy S2=>r x y S2 R) Z) Z
theorem T.op(h:T K E (RV r ta tb) τ H Q):QT (Lr K r) (T K E ta) (T K E tb) τ H Q:=by obtain⟨σ,S,R,Z,aC,hS,q,hR,hZ⟩:=h;exact{σ,S,_,Z,aC,hS,q,λd S1 x H1 r1 v1 s1 k1=>{σ,S1,_,Z,aC.ts k1,s1,r1,λe S2 y H2 r2 v2 s2 k2=>{d,e,S2,R,Rv.ts k2 _ v1,v2,s2,r2,hR.kp<|k1.trans k2},hZ.kp k1},hZ}
theorem bo(ho:qF K (binaryOp op) r)(hu:X.A.units+64<cLine)(ha:DE K X a ta)(hb:DE K X b tb)(hK:autoParam (X.K=K) qQJ):DE K X (.BinOp a op b pos) (RV r ta tb):=⟨λy=>(Vq (ho y.cx hK hu) (ha.of y)<|hb.of y).mono λ_ _ _ h=>h.op⟩
theorem bd(ho:qF K (binaryOp op) r)(ha:DE K X a ta)(hb:DE K X b tb)(hu:X.A.units+64<cLine:=by assumption)(hK:autoParam (X.K=K) qQJ):DE K X (.BinOp a op b pos) (RV r ta tb):=bo ho hu ha hb hK
theorem cm(ho:qF K (compareOp op) r)(hu:X.A.units+64<cLine)(ha:DE K X a ta)(hb:DE K X b tb)(hm:autoParam (behindInMarks op b=false) qQ2)(hK:autoParam (X.K=K) qQJ):DE K X (.Compare a [op] [b] pos) (RV r ta tb):=⟨λy=>(E1 (ho y.cx hK hu) (ha.of y) (hb.of y) hm).mono λ_ _ _ h=>h.op⟩
theorem be(ho:qF K (compareOp op) r)(ha:DE K X a ta)(hb:DE K X b tb)(hu:X.A.units+64<cLine:=by assumption)(hm:autoParam (behindInMarks op b=false) qQ2)(hK:autoParam (X.K=K) qQJ):DE K X (.Compare a [op] [b] pos) (RV r ta tb):=cm ho hu ha hb hm hK
def dB(t:TD):mw:=λσ S R Z=>t σ S (λx S1=>UC x S1 R) Z
theorem Tt.b{t:TD}(h:Tt K E (dB t) τ H Q):T K E t τ H λx H'=>∃k,x=.bl k/\Q k H':=by obtain⟨σ,S,R,Z,aC,hS,q,hR,hZ⟩:=h;exact{σ,S,_,Z,aC,hS,q,by rintro d S1 x H1 ⟨b,e,r1⟩ v1 s1 k1;exact by subst e;exact{b,v1.bl,hR b S1 H1 r1 s1 k1},hZ}
theorem Tt.bop(h:Tt K E (dB<|RV r ta tb) τ H Q):IW (QT (Lr K r) (T K E ta)<|T K E tb) τ H Q:=h.b.op
theorem bp(ho:qF K (compareOp op) r)(hu:X.A.units+64<cLine)(ha:DE K X a ta)(hb:DE K X b tb)(hm:autoParam (behindInMarks op b=false) qQ2)(hK:autoParam (X.K=K) qQJ):DT K X (.Compare a [op] [b] pos) (dB<|RV r ta tb):=⟨λy=>(MA (ho y.cx hK hu) (ha.of y) (hb.of y) hm).mono λ_ _ _ h=>h.bop⟩
theorem bi(ho:qF K (compareOp op) r)(ha:DE K X a ta)(hb:DE K X b tb)(hu:X.A.units+64<cLine:=by assumption)(hm:autoParam (behindInMarks op b=false) qQ2)(hK:autoParam (X.K=K) qQJ):DT K X (.Compare a [op] [b] pos) (dB<|RV r ta tb):=bp ho hu ha hb hm hK
theorem tv{t:TD}(h:DE K X e t)(he:autoParam (∀whole,isTrue e X.env whole=(do let v <-whole;standAt e.pos;holding [v] (truthy v))) qQ0):DT K X e (dB t):=⟨λy=>(QD (X:=y.cx) (h.of y) he).mono λ_ _ _ h=>h.b⟩
def Ds(r r':w4)(ta tb tc:TD):TD:=λσ S R Z=>ta σ S (λx S1=>tb σ S1 (λy S2=>r x y S2 λz S3=>UC z S3 λk S3=>if k=true then tc σ S3 (λw S4=>r' y w S4 R) Z else R (.bl false) S3) Z) Z
theorem T.chain(h:T K E (Ds r r' ta tb tc) τ H Q):CI (Lr K r) (Lr K r') (T K E ta) (T K E tb) (T K E tc) τ H Q:=by obtain⟨σ,S,R,Z,aC,hS,q,hR,hZ⟩:=h;refine{σ,S,_,Z,aC,hS,q,λd S1 x H1 r1 v1 s1 k1=>{σ,S1,_,Z,aC.ts k1,s1,r1,λe S2 y H2 r2 v2 s2 k2=>{d,e,S2,_,Rv.ts k2 _ v1,v2,s2,r2,λz S3 v H3 r3 v3 s3 k3=>?_},hZ.kp k1},hZ};obtain⟨k,rfl,r3⟩:=r3;refine{k,v3.bl,?_};cases k with|true=>rw[if_pos rfl]at r3⊢;exact{σ,S3,_,Z,((aC.ts k1).ts k2).ts k3,s3,r3,λw S4 wv H4 r4 v4 s4 k4=>{e,w,S4,R,Rv.ts (k3.trans k4) _ v2,v4,s4,r4,hR.kp<|((k1.trans k2).trans k3).trans k4},hZ.kp<|(k1.trans k2).trans k3}|false=>rw[if_neg zd]at r3⊢;exact hR _ S3 _ H3 r3 (bS false) s3<|(k1.trans k2).trans k3
theorem cc(ho:qF K (compareOp op) r)(CF:qF K (compareOp GQ) r')(hu:X.A.units+64<cLine)(ha:DE K X a ta)(hb:DE K X b tb)(hc:DE K X c tc)(hm:autoParam (lastMarks [op,GQ] [b,c]=false) qQ2)(hK:autoParam (X.K=K) qQJ):DE K X (.Compare a [op,GQ] [b,c] pos) (Ds r r' ta tb tc):=⟨λy=>(IX (ho y.cx hK hu) (CF y.cx hK hu) (ha.of y) (hb.of y) (hc.of y) hm).mono λ_ _ _ h=>h.chain⟩
theorem YT(ho:qF K (compareOp op) r)(CF:qF K (compareOp GQ) r')(hu:X.A.units+64<cLine)(ha:DE K X a ta)(hb:DE K X b tb)(hc:DE K X c tc)(hm:autoParam (lastMarks [op,GQ] [b,c]=false) qQ2)(hK:autoParam (X.K=K) qQJ):DT K X (.Compare a [op,GQ] [b,c] pos) (dB<|Ds r r' ta tb tc):=⟨λy=>(IY (ho y.cx hK hu) (CF y.cx hK hu) (ha.of y) (hb.of y) (hc.of y) hm).mono λ_ _ _ h=>h.b.chain⟩
def Wl(ta tb:TD):TD:=λσ S R Z=>ta σ S (λx S1=>UC x S1 λc S1=>if c=true then tb σ S1 R Z else R (.bl false) S1) Z
def aaX(ta tb:TD):TD:=λσ S R Z=>ta σ S (λx S1=>UC x S1 λc S1=>if c=true then R (.bl true) S1 else tb σ S1 R Z) Z
def Wm(ta:TD):TD:=λσ S R Z=>ta σ S (λx S1=>UC x S1 λc S1=>R (.bl<|!c) S1) Z
theorem L8{t:TD}(h:DE K X a t):DE K X (.BoolOp op [a] pos) t:=⟨λy=>QF<|h.of y⟩
theorem uF{a b:Expr}{rest:li}{ta tb:TD}{pos:Pos}(ha:DE K X a ta)(hb:DE K X (.BoolOp .And (b::rest) pos) tb):DE K X (.BoolOp .And (a::b::rest) pos) (Wl ta tb):=
 ⟨λy=>(QG (ha.of y)<|hb.of y).mono <| by rintro τ H Q ⟨σ,S,R,Z,aC,hS,q,hR,hZ⟩;exact
  ⟨σ,S,_,Z,aC,hS,q,by
   rintro d S1 x H1 ⟨c,e,r1⟩ v1 s1 k1
   subst e
   refine{c,v1.bl,?_}
   cases c with
   |true=>rw[if_pos rfl]at r1⊢;exact{σ,S1,R,Z,aC.ts k1,s1,r1,hR.kp k1,hZ.kp k1}
   |false=>rw[if_neg zd]at r1⊢;exact hR _ S1 _ H1 r1 (bS false) s1 k1,hZ⟩⟩
theorem eor{a b:Expr}{rest:li}{ta tb:TD}{pos:Pos}(ha:DE K X a ta)(hb:DE K X (.BoolOp .Or (b::rest) pos) tb):DE K X (.BoolOp .Or (a::b::rest) pos) (aaX ta tb):=
 ⟨λy=>(Vf (ha.of y)<|hb.of y).mono <| by rintro τ H Q ⟨σ,S,R,Z,aC,hS,q,hR,hZ⟩;exact
  ⟨σ,S,_,Z,aC,hS,q,by
   rintro d S1 x H1 ⟨c,e,r1⟩ v1 s1 k1
   subst e
   refine{c,v1.bl,?_}
   cases c with
   |false=>rw[if_neg zd]at r1⊢;exact{σ,S1,R,Z,aC.ts k1,s1,r1,hR.kp k1,hZ.kp k1}
   |true=>rw[if_pos rfl]at r1⊢;exact hR _ S1 _ H1 r1 (bS true) s1 k1,hZ⟩⟩
theorem RW(ha:DE K X a ta):DE K X (.UnaryOp .Not a pos) (Wm ta):=
 ⟨λy=>(QH<|ha.of y).mono <| by rintro τ H Q ⟨σ,S,R,Z,aC,hS,q,hR,hZ⟩;exact
  ⟨σ,S,_,Z,aC,hS,q,by rintro d S1 x H1 ⟨c,e,r1⟩ v1 s1 k1;exact by subst e;exact⟨c,v1.bl,hR _ S1 _ H1 r1 (bS _) s1 k1⟩,hZ⟩⟩
def aaY(t:mw):mw:=λσ S R Z=>t σ S (λc S1=>R (!c) S1) Z
def aaZ(t u:mw):mw:=λσ S R Z=>t σ S (λc S1=>if c=true then u σ S1 R Z else R false S1) Z
def dOr(t u:mw):mw:=λσ S R Z=>t σ S (λc S1=>if c=true then R true S1 else u σ S1 R Z) Z
theorem cB{t:mw}(ha:DT K X a t):DT K X (.UnaryOp .Not a pos) (aaY t):=⟨λy=>(QE<|ha.of y).mono <| by rintro τ H Q ⟨σ,S,R,Z,aC,hS,q,hR,hZ⟩;exact{σ,S,_,Z,aC,hS,q,λc S1 H1 r1 s1 k1=>hR _ S1 H1 r1 s1 k1,hZ}⟩
structure DW(K:Frag)(X:Cx)(e:Expr)(t:mw):Prop where
 of:∀{b:Bool}(y:Ev X b),PW y.cx e<|Tt K y.E t
theorem PW.mono{t t':TT}(h:PW X e t)(i:∀τ H Q,t' τ H Q->t τ H Q):PW X e t':=λwh pins s τ H Q I q=>h wh pins s τ H Q I<|i τ H Q q
theorem twd{t:mw}(h:DW K X e t):DT K X e t:=⟨λy=>(h.of y).pt⟩
theorem tw1{t:mw}(h:DT K X a t):DW K X (.BoolOp op [a] pos) t:=⟨λy=>by cases op with|And=>exact pw_and1 (h.of y)|Or=>exact pw_or1<|h.of y⟩
theorem twand{a b:Expr}{rest:li}{t u:mw}{pos:Pos}(ha:DT K X a t)(hb:DW K X (.BoolOp .And (b::rest) pos) u):DW K X (.BoolOp .And (a::b::rest) pos) (aaZ t u):=
 ⟨λy=>(pw_and (ha.of y)<|hb.of y).mono <| by rintro τ H Q ⟨σ,S,R,Z,aC,hS,q,hR,hZ⟩;exact
  ⟨σ,S,_,Z,aC,hS,q,λc S1 H1 r1 s1 k1=>by
   cases c with
   |true=>rw[if_pos rfl]at r1⊢;exact{σ,S1,R,Z,aC.ts k1,s1,r1,hR.kp k1,hZ.kp k1}
   |false=>rw[if_neg zd]at r1⊢;exact hR _ S1 H1 r1 s1 k1,hZ⟩⟩
theorem twor{a b:Expr}{rest:li}{t u:mw}{pos:Pos}(ha:DT K X a t)(hb:DW K X (.BoolOp .Or (b::rest) pos) u):DW K X (.BoolOp .Or (a::b::rest) pos) (dOr t u):=
 ⟨λy=>(pw_or (ha.of y)<|hb.of y).mono <| by rintro τ H Q ⟨σ,S,R,Z,aC,hS,q,hR,hZ⟩;exact
  ⟨σ,S,_,Z,aC,hS,q,λc S1 H1 r1 s1 k1=>by
   cases c with
   |false=>rw[if_neg zd]at r1⊢;exact{σ,S1,R,Z,aC.ts k1,s1,r1,hR.kp k1,hZ.kp k1}
   |true=>rw[if_pos rfl]at r1⊢;exact hR _ S1 H1 r1 s1 k1,hZ⟩⟩
def aa0(t:mw)(ta tb:TD):TD:=λσ S R Z=>t σ S (λc S1=>if c=true then ta σ S1 R Z else tb σ S1 R Z) Z
theorem RX{t:mw}(hc:DT K X c t)(ha:DE K X a ta)(hb:DE K X b tb):DE K X (.IfExp c a b pos) (aa0 t ta tb):=
 ⟨λy=>(IK (hc.of y) (ha.of y)<|hb.of y).mono <| by rintro τ H Q ⟨σ,S,R,Z,aC,hS,q,hR,hZ⟩;exact
  ⟨σ,S,_,Z,aC,hS,q,λc S1 H1 r1 s1 k1=>by
   cases c with
   |true=>rw[if_pos rfl]at r1⊢;exact{σ,S1,R,Z,aC.ts k1,s1,r1,hR.kp k1,hZ.kp k1}
   |false=>rw[if_neg zd]at r1⊢;exact{σ,S1,R,Z,aC.ts k1,s1,r1,hR.kp k1,hZ.kp k1},hZ⟩⟩
def aa1(t:je):TD:=λσ S R Z=>t σ S (λds S1=>ds.length<=sizeLine/\∀p,S1 p=none->R (.ref p) (S1.set p<|.lst ds)) Z
def aa2(t:je):TD:=λσ S R Z=>t σ S (λds S1=>ds.length<=sizeLine/\R (.tup ds) S1) Z
theorem cJ{t:je}(h:DA K X es t):DE K X (.List es pos) (aa1 t):=
 ⟨λy=>(Q5<|h.of y).mono <| by rintro τ H Q ⟨σ,S,R,Z,aC,hS,q,hR,hZ⟩;exact
  ⟨σ,S,_,Z,aC,hS,q,by rintro ds S1 xs H1 ⟨hl,r1⟩ v1 s1 k1;exact⟨by rw[v1.len];exact hl,λp hp=>hR _ _ _ _ (r1 p<|s1.fresh hp) (gH p) (s1.new hp ⟨xs,aE,RvAll.ts (.new hp) _ v1⟩)<|k1.trans<|.new hp⟩,hZ⟩⟩
theorem bX{t:je}(h:DA K X es t):DE K X (.Tuple es x1 pos) (aa2 t):=
 ⟨λy=>(Q4<|h.of y).mono <| by rintro τ H Q ⟨σ,S,R,Z,aC,hS,q,hR,hZ⟩;exact
  ⟨σ,S,_,Z,aC,hS,q,by rintro ds S1 xs H1 ⟨hl,r1⟩ v1 s1 k1;exact⟨by rw[v1.len];exact hl,λp hp=>hR _ _ _ _ r1 (oE aE<|RvAll.ts (.new hp) _ v1) (s1.grow hp)<|k1.trans<|.new hp⟩,hZ⟩⟩
def aa3:TD:=λ_ S R _=>∀p,S p=none->R (.ref p) (S.set p<|.bY [])
theorem Wn:DE K X (.Dict [] [] pos) aa3:=⟨λy=>(Jj (X:=y.cx)).mono <| by rintro τ H Q ⟨σ,S,R,Z,aC,hS,q,hR,hZ⟩ p hp;exact hR _ _ _ _ (q p<|hS.fresh hp) (gH p) (hS.new hp {[],aE,.nil})<|.new hp⟩
def Lc(K:Frag)(r:List D->aq->KD->Prop):List V->Hp->VK->Prop:=λxs H Q=>∃ds S R,RvAll K H ds xs/\Rs K S H/\r ds S R/\Cn K H R Q
def iZ(K:Frag)(f:Value)(r:List D->aq->KD->Prop):Prop:=∀X:Cx,X.K=K->X.calm=true->fh X f (Lc K r)
def YU(r:List D->aq->KD->Prop)(t:je):TD:=λσ S R Z=>t σ S (λds S1=>r ds S1 R) Z
theorem T.cb{t:je}(h:T K E (YU r t) τ H Q):tCB (Lc K r) (Ta K E t) τ H Q:=by obtain⟨σ,S,R,Z,aC,hS,q,hR,hZ⟩:=h;exact{σ,S,_,Z,aC,hS,q,λds S1 xs H1 r1 v1 s1 k1=>{ds,S1,R,v1,s1,r1,hR.kp k1},hZ}
theorem cb{x:Str}{id:String}{r:List D->aq->KD->Prop}{e:Expr}{es:li}{t:je}{p pos:Pos}(hc:iZ K (.builtin id) r)(hm:X.mg x=none)(hv:bootBuiltins x=some (.builtin id))(ha:DA K X (e::es) t)(hg:autoParam (Gl X x) qQJ)(hn:autoParam (x≠"__name__") qQZ)(qB:autoParam ((x==("__debug__": Str))=false) qQZ)(he:autoParam (starEach (e::es) X.env=(false,eval e X.env)::starEach es X.env) qQJ)(dy:autoParam ((backTo pos<|starEach es X.env).any (·.1)=false) qQJ)(hK:autoParam (X.K=K) qQJ)(hC:autoParam (X.calm=true) qQJ): DE K X (.Call (.Name x p) (e::es) [] pos) (YU r t):=⟨λy=>(AI (X:=y.cx) (hc _ hK hC) hg hm hv (ha.of y) hn qB he dy).mono λ_ _ _ h=>h.cb⟩
theorem ct{x:Str}{id:String}{r:List D->aq->KD->Prop}{e:Expr}{es:li}{t:je}{p pos:Pos}(hc:iZ K (.type id) r)(hm:X.mg x=none)(hv:bootBuiltins x=some (.type id))(ha:DA K X (e::es) t)(hg:autoParam (Gl X x) qQJ)(hn:autoParam (x≠"__name__") qQZ)(qB:autoParam ((x==("__debug__": Str))=false) qQZ)(he:autoParam (starEach (e::es) X.env=(false,eval e X.env)::starEach es X.env) qQJ)(dy:autoParam ((backTo pos<|starEach es X.env).any (·.1)=false) qQJ)(hK:autoParam (X.K=K) qQJ)(hC:autoParam (X.calm=true) qQJ): DE K X (.Call (.Name x p) (e::es) [] pos) (YU r t):=⟨λy=>(vo (X:=y.cx) (hc _ hK hC) hg hm hv (ha.of y) hn qB he dy).mono λ_ _ _ h=>h.cb⟩
end
section
variable{K:Frag}
theorem Cn.now(h:Cn K H R Q)(hS:Rs K S H)(r:R d S)(rv:Rv K H d v):Q v H:=h d S v H r rv hS<|.refl _
theorem Cn.new{H:Hp}{R:KD}{Q:VK}{S:aq}{p:Addr}{ds:List D}{xs:List V}(h:Cn K H R Q)(hS:Rs K S H)(hp:H p=none)(r:S p=none->R (.ref p) (S.set p<|.lst ds))(rv:RvAll K H ds xs):Q (.ref p) (upd H p<|.lst xs):=h _ _ _ _ (r<|hS.fresh hp) (gH p) (hS.new hp {xs,aE,RvAll.ts (.new hp) _ rv})<|.new hp
theorem Cn.aa4{H:Hp}{R:KD}{Q:VK}{S:aq}{p:Addr}{ds:List D}{xs:List V}(h:Cn K H R Q)(hS:Rs K S H)(hp:H p=none)(r:R (.tup ds) S)(rv:RvAll K H ds xs):Q (.ref p) (upd H p<|.tup xs):=h _ _ _ _ r (oE aE<|RvAll.ts (.new hp) _ rv) (hS.grow hp)<|.new hp
theorem Cn.put{H:Hp}{R:KD}{Q:VK}{S:aq}{p:Addr}{ds es:List D}{xs:List V}{d:D}{v:V}(h:Cn K H R Q)(hS:Rs K S H)(hp:S p=some (.lst es))(r:R d<|S.set p<|.lst ds)(rd:Rv K H d v)(rv:RvAll K H ds xs):Q v (upd H p<|.lst xs):=h _ _ _ _ r (Rv.ts (hS.gI hp) _ rd) (hS.put hp {xs,aE,RvAll.ts (hS.gI hp) _ rv})<|hS.gI hp
def vI(S:aq):D->List D->Prop|.ref a,ds=>S a=some (.lst ds)|.kW es,ds=>es=ds|_,_=>False
theorem vI.at{H:Hp}{S:aq}{d:D}{ds:List D}{v:V}(h:vI S d ds)(hS:Rs K S H)(r:Rv K H d v):∃a xs,v=.ref a/\jk K H a xs/\RvAll K H ds xs:=by cases d with|ref a=>(obtain⟨xs,e,q⟩:=hS.lst h;exact{a,xs,r.ref,.of e,q})|kW es=>(have h:es=ds:=h;subst h;obtain⟨a,xs,e,q,t⟩:=r.kW;exact⟨a,xs,e,q.sq,t⟩)|_=>exact h.elim
def aa5:w4:=λx y S R=>match x,y with|.int i,.int j=>R (.int<|i-j) S|_,_=>False
theorem pT:qF K (binaryOp .Sub) aa5:=by rintro X hK hu pins s σ H x y v u Q I rx ry ⟨d,e,S,R,r1,r2,hS,h,hR⟩;cases d<;>cases e<;>first|exact False.elim h|exact QW pins s σ H x y v u Q I rx ry {_,_,r1.int,r2.int,hR.now hS h<|aP _}
def aa6:w4:=λx y S R=>match x,y with|.int i,.int j=>Mx i j/\R (.int<|i*j) S|.str z,.int n=>MulOk z n/\R (.str<|PySem.Txt.mul z n) S|_,_=>False
theorem pU:qF K (binaryOp .Mult) aa6:=by rintro X hK hu pins s σ H x y v u Q I rx ry ⟨d,e,S,R,r1,r2,hS,h,hR⟩;cases d<;>cases e<;>first|exact False.elim h|exact QX pins s σ H x y v u Q I rx ry {_,_,r1.int,r2.int,h.1,hR.now hS h.2<|aP _}|exact Di pins s σ H x y v u Q I rx ry {_,_,r1.str,r2.int,h.1,hR.now hS h.2<|cA _}
def aa7:w4:=λx y S R=>match x,y with|.int i,.int j=>0<j/\R (.int<|i%j) S|_,_=>False
theorem ba:qF K (binaryOp .Mod) aa7:=by rintro X hK hu pins s σ H x y v u Q I rx ry ⟨d,e,S,R,r1,r2,hS,h,hR⟩;cases d<;>cases e<;>first|exact False.elim h|exact QY pins s σ H x y v u Q I rx ry {_,_,r1.int,r2.int,h.1,hR.now hS h.2<|aP _}
def Wo:w4:=λx y S R=>match x,y with|.int i,.int j=>O_ i j/\R (.int<|i/j) S|_,_=>False
theorem bH:qF K (binaryOp .FloorDiv) Wo:=by rintro X hK hu pins s σ H x y v u Q I rx ry ⟨d,e,S,R,r1,r2,hS,h,hR⟩;cases d<;>cases e<;>first|exact False.elim h|exact Jp pins s σ H x y v u Q I rx ry {_,_,r1.int,r2.int,h.1,hR.now hS h.2<|aP _}
def aa8:w4:=λx y S R=>match x,y with|.int i,.int j=>Vs i j/\R (.int<|i^j.toNat) S|_,_=>False
theorem mK:qF K (binaryOp .Pow) aa8:=by rintro X hK hu pins s σ H x y v u Q I rx ry ⟨d,e,S,R,r1,r2,hS,h,hR⟩;cases d<;>cases e<;>first|exact False.elim h|exact QZ pins s σ H x y v u Q I rx ry {_,_,r1.int,r2.int,h.1,hR.now hS h.2<|aP _}
def JI(f:Int->Int->Bool)(g:Str->Str->Bool):w4:=λx y S R=>match x,y with|.int i,.int j=>R (.bl<|f i j) S|.str i,.str j=>R (.bl<|g i j) S|_,_=>False
theorem Fi(h1:∀X:Cx,iz X (compareOp op)<|Mv λi j=>.bl<|f i j)(h2:∀X:Cx,iz X (compareOp op) λx y H Q=>∃i j,x=.str i/\y=.str j/\Q (.bl<|g i j) H):qF K (compareOp op) (JI f g):=by rintro X hK hu pins s σ H x y v u Q I rx ry ⟨d,e,S,R,r1,r2,hS,h,hR⟩;cases d<;>cases e<;>first|exact False.elim h|exact h1 X pins s σ H x y v u Q I rx ry {_,_,r1.int,r2.int,hR.now hS h<|bS _}|exact h2 X pins s σ H x y v u Q I rx ry {_,_,r1.str,r2.str,hR.now hS h<|bS _}
theorem w5:qF K (compareOp .Lt) (JI (λi j=>decide<|i<j) λi j=>vB i j):=Fi (λ_=>Vu) λ_=>GO
theorem jx:qF K (compareOp .LtE) (JI (λi j=>decide<|i<=j) λi j=>Iv i j):=Fi (λ_=>Vv) λ_=>G9
theorem qG:qF K (compareOp .Gt) (JI (λi j=>decide<|j<i) λi j=>vB j i):=Fi (λ_=>Vx) λ_=>Ha
theorem aa9:qF K (compareOp .GtE) (JI (λi j=>decide<|j<=i) λi j=>Iv j i):=Fi (λ_=>Vy) λ_=>G_
noncomputable def ah:D->Bool|.av=>true|_=>false
theorem A1(r:Rv K H d v):decide (v=.av)=ah d:=by cases d with|av=>rw[r.av];rfl|bl b=>rw[r.bl];rfl|int b=>rw[r.int];rfl|str b=>rw[r.str];rfl|ref b=>rw[r.ref];rfl|ty b=>rw[r.ty];rfl|tup b=>(obtain⟨a,xs,rfl,_⟩:=r.tup;rfl)|kW b=>(obtain⟨a,xs,rfl,_⟩:=r.kW;rfl)|kt b=>obtain⟨a,xs,rfl,_⟩:=r.kt;rfl
def isD:w4:=λx y S R=>match y with|.av=>R (.bl<|ah x) S|_=>False
def Wq:w4:=λx y S R=>match y with|.av=>R (.bl<|!ah x) S|_=>False
theorem kF:qF K (compareOp .Is) isD:=by rintro X hK hu pins s σ H x y v u Q I rx ry ⟨d,e,S,R,r1,r2,hS,h,hR⟩;cases e<;>first|exact False.elim h|exact Q0 pins s σ H x y v u Q I rx ry {r2.av,by rw[A1 r1];exact hR.now hS h<|bS _}
theorem lQ:qF K (compareOp .IsNot) Wq:=by rintro X hK hu pins s σ H x y v u Q I rx ry ⟨d,e,S,R,r1,r2,hS,h,hR⟩;cases e<;>first|exact False.elim h|exact Mz pins s σ H x y v u Q I rx ry {r2.av,by rw[A1 r1];exact hR.now hS h<|bS _}
mutual
def Dp(S:aq):D->PyData->Prop|.av,p=>p=.none|.bl b,p=>p=.bool b|.int i,p=>p=.int i|.str z,p=>p=.str z|.tup ds,p=>∃ps,p=.tuple ps/\DpAll S ds ps|.kW ds,p=>∃ps,p=.list ps/\DpAll S ds ps|.kt _,_=>False|.ref _,_=>False|.ty _,_=>False
def DpAll(S:aq):List D->List PyData->Prop|[],ps=>ps=[]|d::ds,ps=>∃q qs,ps=q::qs/\Dp S d q/\DpAll S ds qs
end
mutual
theorem Dp.dt:∀(d:D){p:PyData}{v:V},Dp S d p->Rv K H d v->Dt K H p v|.av,p,v,h,r=>by simp only[Dp]at h;subst h;simp only[Dt];exact r.av|.bl b,p,v,h,r=>by simp only[Dp]at h;subst h;simp only[Dt];exact r.bl|.int b,p,v,h,r=>by simp only[Dp]at h;subst h;simp only[Dt];exact r.int|.str b,p,v,h,r=>by simp only[Dp]at h;subst h;simp only[Dt];exact r.str|.tup ds,p,v,h,r=>(by simp only[Dp]at h;obtain⟨ps,rfl,h⟩:=h;obtain⟨a,xs,rfl,q,t⟩:=r.tup;simp only[Dt];exact{a,xs,rfl,.of q,DpAll.dt ds h t})|.kW ds,p,v,h,r=>(by simp only[Dp]at h;obtain⟨ps,rfl,h⟩:=h;obtain⟨a,xs,rfl,q,t⟩:=r.kW;simp only[Dt];exact{a,xs,rfl,q.sq,DpAll.dt ds h t})|.kt a,p,v,h,r=>by simp only[Dp]at h|.ref a,p,v,h,r=>by simp only[Dp]at h|.ty a,p,v,h,r=>by simp only[Dp]at h
theorem DpAll.dt:∀(ds:List D){ps:u8}{vs:List V},DpAll S ds ps->RvAll K H ds vs->DtAll K H ps vs|[],ps,vs,h,r=>by simp only[DpAll]at h;subst h;rw[r.nil];simp only[DtAll]|d::ds,ps,vs,h,r=>by simp only[DpAll]at h;obtain⟨q,qs,rfl,h1,h2⟩:=h;obtain⟨y,ys,rfl,r1,r2⟩:=r.cons;simp only[DtAll];exact{y,ys,rfl,Dp.dt d h1 r1,DpAll.dt ds h2 r2}
end
def Dl(S:aq):D->PyData->Prop|.ref a,p=>∃ds ps,S a=some (.lst ds)/\p=.list ps/\DpAll S ds ps|d,p=>Dp S d p
theorem Dl.dt(h:Dl S d p)(hS:Rs K S H)(r:Rv K H d v):Dt K H p v:=by cases d with|ref a=>(obtain⟨ds,ps,e,rfl,h⟩:=h;obtain⟨xs,e1,t⟩:=hS.lst e;rw[r.ref];simp only[Dt];exact{a,xs,rfl,.of e1,DpAll.dt ds h t})|_=>exact Dp.dt _ h r
def Iz(neg:Bool):w4:=λx y S R=>match x,y with|.int i,.int j=>(R (.bl<|if neg then !decide (i=j) else decide (i=j)) S)|.str i,.str j=>(R (.bl<|if neg then !decide (i=j) else decide (i=j)) S)|x,y=>∃p q,Dl S x p/\Dl S y q/\p.canLay0=true/\q.canLay0=true/\(p.depth<=64\/q.depth<=64)/\R (.bl<|if neg then !PyData.eqv p q else PyData.eqv p q) S
theorem JJ(h:Iz neg x y S R):(∃i j,x=.int i/\y=.int j/\R (.bl<|if neg then !decide (i=j) else decide (i=j)) S)\/(∃i j,x=.str i/\y=.str j/\R (.bl<|if neg then !decide (i=j) else decide (i=j)) S)\/∃p q,Dl S x p/\Dl S y q/\p.canLay0=true/\q.canLay0=true/\(p.depth<=64\/q.depth<=64)/\R (.bl<|if neg then !PyData.eqv p q else PyData.eqv p q) S:=by cases x<;>cases y<;>first|exact .inl {_,_,rfl,rfl,h}|exact .inr (.inl {_,_,rfl,rfl,h})|exact .inr (.inr h)
theorem bf:qF K (compareOp .Eq) (Iz false):=by
 rintro X hK hu pins s σ H x y v u Q I rx ry ⟨d,e,S,R,r1,r2,hS,h,hR⟩;subst hK;rcases JJ h with⟨i,j,rfl,rfl,h⟩|⟨i,j,rfl,rfl,h⟩|⟨p,q,h1,h2,c1,c2,dp,h⟩;cases r1.int;cases r2.int;refine O3 pins s σ H _ _ v u Q I rx ry {rfl,?_};have e:decide (V.int i=V.int j)=decide (i=j):=by simp
 rw[e];exact hR.now hS h<|bS _;cases r1.str;cases r2.str;refine O3 pins s σ H _ _ v u Q I rx ry {rfl,?_};have e:decide (V.str i=V.str j)=decide (i=j):=by simp
 rw[e];exact hR.now hS h<|bS _;exact Jw hu pins s σ H x y v u Q I rx ry {p,q,h1.dt hS r1,h2.dt hS r2,c1,c2,dp,hR.now hS h<|bS _}
theorem lR:qF K (compareOp .NotEq) (Iz true):=by
 rintro X hK hu pins s σ H x y v u Q I rx ry ⟨d,e,S,R,r1,r2,hS,h,hR⟩;subst hK;rcases JJ h with⟨i,j,rfl,rfl,h⟩|⟨i,j,rfl,rfl,h⟩|⟨p,q,h1,h2,c1,c2,dp,h⟩;cases r1.int;cases r2.int;refine O4 pins s σ H _ _ v u Q I rx ry {rfl,?_};have e:decide (V.int i=V.int j)=decide (i=j):=by simp
 rw[e];exact hR.now hS h<|bS _;cases r1.str;cases r2.str;refine O4 pins s σ H _ _ v u Q I rx ry {rfl,?_};have e:decide (V.str i=V.str j)=decide (i=j):=by simp
 rw[e];exact hR.now hS h<|bS _;exact Jx hu pins s σ H x y v u Q I rx ry {p,q,h1.dt hS r1,h2.dt hS r2,c1,c2,dp,hR.now hS h<|bS _}
noncomputable def bP(kvs:List<|Key×D)(k:Key):Option D:=(kvs.find? λkv=>decide<|kv.1=k).map (·.2)
noncomputable def dput(kvs:List<|Key×D)(k:Key)(v:D):List (Key×D):=if (kvs.any λkv=>decide<|kv.1=k)=true then kvs.map (λkv=>if kv.1=k then (kv.1,v) else kv) else kvs++[(k,v)]
noncomputable def A2(kvs:List<|Key×D)(k:Key):List (Key×D):=kvs.filter λkv=>decide<|kv.1≠k
theorem bM.val(h:bM K H ks vs)(k:Key):(∀d,bP ks k=some d->∃v,gb vs k=some v/\Rv K H d v)/\(bP ks k=none->gb vs k=none):=by induction h with|nil=>(exact{λd e=>(by cases e),λ_=>rfl})|@cons a b l m r t ih=>obtain⟨k',d⟩:=a;obtain⟨k'',v⟩:=b;obtain⟨e0,r⟩:=r;dsimp only at e0;subst e0;unfold bP gb;simp only[yc];by_cases q:k'=k;rw[zr q];exact{λd' e=>{v,rfl,(by cases e;exact r)},λe=>(by cases e)};rw[zo q];exact ih
theorem bM.any(h:bM K H ks vs)(k:Key):(ks.any λkv=>decide<|kv.1=k)=(vs.any λkv=>decide<|kv.1=k):=by induction h with|nil=>rfl|cons r t ih=>rw[yT,yT,ih,r.1]
theorem bM.len(h:bM K H ks vs):vs.length=ks.length:=(yS h).symm
theorem bM.app:∀{ks ls:List (κ×D)}{vs ws:List (κ×V)},bM K H ks vs->bM K H ls ws->bM K H (ks++ls) (vs++ws)|_,_,_,_,.nil,h=>h|_,_,_,_,.cons r t,h=>.cons r<|bM.app t h
theorem bM.Rm(h:bM K H ks vs)(k:Key)(rd:Rv K H d v):bM K H (ks.map λkv=>if kv.1=k then (kv.1,d) else kv) (vs.map λkv=>if kv.1=k then (kv.1,v) else kv):=by induction h with|nil=>exact .nil|@cons a b l m r t ih=>refine .cons ?_ ih;dsimp only;by_cases q:b.1=k;rw[if_pos q,if_pos<|r.1.trans q];exact⟨r.1,rd⟩;rw[if_neg q,if_neg λz=>q<|r.1.symm.trans z];exact r
theorem bM.put(h:bM K H ks vs)(k:Key)(rd:Rv K H d v):bM K H (dput ks k d) (putK vs k v):=by unfold dput putK;rw[h.any k];split;exact h.Rm k rd;exact h.app<|.cons ⟨rfl,rd⟩ .nil
theorem bM.drop(h:bM K H ks vs)(k:Key):bM K H (A2 ks k) (pQ vs k):=by unfold A2 pQ;induction h with|nil=>exact .nil|@cons a b l m r t ih=>rw[List.filter_cons,List.filter_cons,r.1];by_cases q:b.1=k;rw[if_neg<|by simp[q],if_neg<|by simp[q]];exact ih;rw[if_pos<|by simp[q],if_pos<|by simp[q]];exact .cons r ih
noncomputable def Du:D->Option Key|.int i=>some (.inl i)|.str z=>some (.inr z)|_=>none
theorem oF(h:Du d=some k)(r:Rv K H d v):v=kV k:=by cases d with|int i=>(cases h;exact r.int)|str i=>(cases h;exact r.str)|_=>cases h
noncomputable def jy:D->Bool|.av=>true|.bl _=>true|.int _=>true|.str _=>true|_=>false
noncomputable def kG:D->V|.av=>.av|.bl b=>.bl b|.int i=>.int i|.str z=>.str z|.ref a=>.ref a|.ty n=>.ty n|_=>.av
theorem sE(h:jy d=true)(r:Rv K H d v):v=kG d/\gW v=true:=by cases d with|av=>(cases r.av;exact⟨rfl,rfl⟩)|bl b=>(cases r.bl;exact⟨rfl,rfl⟩)|int b=>(cases r.int;exact⟨rfl,rfl⟩)|str b=>(cases r.str;exact⟨rfl,rfl⟩)|_=>cases h
theorem mL:∀{ds:List D}{vs:List V},ds.all jy=true->RvAll K H ds vs->vs=ds.map kG/\vs.all gW=true|[],vs,_,r=>by rw[r.nil];exact⟨rfl,rfl⟩|d::ds,vs,h,r=>by obtain⟨y,ys,rfl,r1,r2⟩:=r.cons;rw[List.all_cons,zH]at h;obtain⟨e1,f1⟩:=sE h.1 r1;obtain⟨e2,f2⟩:=mL h.2 r2;refine{by rw[e1,e2];rfl,?_};rw[List.all_cons,f1,f2];rfl
def inD(neg:Bool):w4:=λx y S R=>match y with|.str j=>(∃i,x=.str i/\R (.bl<|if neg then !(!(Builtin.Str.occurrences j i 0 j.length 1).isEmpty) else !(Builtin.Str.occurrences j i 0 j.length 1).isEmpty) S)|.kt ds=>(jy x=true/\ds.all jy=true/\R (.bl<|if neg then !GZ (kG x) (ds.map kG) else GZ (kG x) (ds.map kG)) S)|.tup ds=>(jy x=true/\ds.all jy=true/\R (.bl<|if neg then !GZ (kG x) (ds.map kG) else GZ (kG x) (ds.map kG)) S)|.ref a=>((∃ds,S a=some (.lst ds)/\jy x=true/\ds.all jy=true/\R (.bl<|if neg then !GZ (kG x) (ds.map kG) else GZ (kG x) (ds.map kG)) S)\/∃kvs k,S a=some (.bY kvs)/\Du x=some k/\R (.bl<|if neg then !(bP kvs k).isSome else (bP kvs k).isSome) S)|_=>False
theorem w6(hS:Rs K S H)(e:S a=some (.bY kvs)):∃o,qD H a (kV k) o/\o.isSome=(bP kvs k).isSome/\∀d,bP kvs k=some d->∃v,o=some v/\Rv K H d v:=by obtain⟨vs,e1,t⟩:=hS.bY e;refine{_,qD.k e1,?_,λd h=>(t.val k).1 d h};cases q:bP kvs k with|none=>rw[(t.val k).2 q];rfl|some d=>obtain⟨v,e2,_⟩:=(t.val k).1 d q;rw[e2];rfl
theorem Dz:qF K (compareOp .In) (inD false):=by rintro X hK hu pins s σ H x y v u Q I rx ry ⟨d,e,S,R,r1,r2,hS,h,hR⟩;subst hK;cases e with|str j=>(obtain⟨i,rfl,h⟩:=h;exact GP pins s σ H x y v u Q I rx ry {i,j,r1.str,r2.str,hR.now hS h<|bS _})|tup ds=>(obtain⟨f1,f2,h⟩:=h;obtain⟨a,xs,rfl,q,t⟩:=r2.tup;obtain⟨e1,g1⟩:=sE f1 r1;obtain⟨e2,g2⟩:=mL f2 t;subst e1 e2;exact oy pins s σ H _ _ v u Q I rx ry {a,_,rfl,.inr<|.of q,g1,g2,hR.now hS h<|bS _})|kt ds=>(obtain⟨f1,f2,h⟩:=h;obtain⟨a,xs,rfl,q,t⟩:=r2.kt;obtain⟨e1,g1⟩:=sE f1 r1;obtain⟨e2,g2⟩:=mL f2 t;subst e1 e2;exact oy pins s σ H _ _ v u Q I rx ry {a,_,rfl,.inr<|.inr q,g1,g2,hR.now hS h<|bS _})|ref a=>(cases r2.ref;rcases h with⟨ds,e,f1,f2,h⟩|⟨kvs,k,e,hk,h⟩;obtain⟨xs,e1,t⟩:=hS.lst e;obtain⟨e2,g1⟩:=sE f1 r1;obtain⟨e3,g2⟩:=mL f2 t;subst e2 e3;exact oy pins s σ H _ _ v u Q I rx ry {a,_,rfl,.inl<|.of e1,g1,g2,hR.now hS h<|bS _};cases oF hk r1;cases ry;obtain⟨o,g,e1,_⟩:=w6 (k:=k) hS e;refine aau (by lia) I g rx λs' I'=>{.bl o.isSome,H,I',rfl,?_};rw[e1];exact hR.now hS h<|bS _)|_=>exact h.elim
def IxD(K:Frag)(r:w4):Prop:=∀X:Cx,X.K=K->X.A.units+64<cLine->VE X (Lr K r)
inductive YV(ds:List D)(i:Int)(S:aq)(R:KD):Prop where
 |mk (d:D)(h:kD ds i=some d)(r:R d S)
inductive YW(a:Addr)(i:Int)(S:aq)(R:KD):Prop where
 |mk (ds:List D)(d:D)(e:S a=some (.lst ds))(h:kD ds i=some d)(r:R d S)
def ixD:w4:=λx y S R=>match x,y with|.tup ds,.int i=>YV ds i S R|.kt ds,.int i=>YV ds i S R|.kW ds,.int i=>YV ds i S R|.str z,.int i=>∃c,z.length<=sizeLine/\kD z.cps.toList i=some c/\R (.str ⟨#[c]⟩) S|.ref a,.int i=>YW a i S R|.ref a,.str z=>∃kvs d,S a=some (.bY kvs)/\bP kvs (.inr z)=some d/\R d S|_,_=>False
theorem RvAll.at{H:Hp}{ds:List D}{xs:List V}{i:Int}{d:D}(h:RvAll K H ds xs)(e:kD ds i=some d):∃v,kD xs i=some v/\Rv K H d v:=by unfold kD at e⊢;rw[h.len];cases q:I_ ds.length i with|none=>(rw[q]at e;cases e)|some j=>rw[q]at e;exact h.get e
theorem aba:IxD K ixD:=by rintro X hK hu value slice pins s σ H x y v u Q I rx ry ⟨d,e,S,R,r1,r2,hS,h,hR⟩ hs;subst hK;cases d with|tup ds=>(cases e with|int i=>(obtain⟨d,e,h⟩:=h;obtain⟨a,xs,rfl,q,t⟩:=r1.tup;obtain⟨z,e1,r⟩:=t.at e;exact Ja value slice pins s σ H _ _ v u Q I rx ry {a,xs,i,z,rfl,r2.int,.of q,e1,hR.now hS h r} hs)|_=>exact h.elim)|kt ds=>(cases e with|int i=>(obtain⟨d,e,h⟩:=h;obtain⟨a,xs,rfl,q,t⟩:=r1.kt;obtain⟨z,e1,r⟩:=t.at e;exact Ja value slice pins s σ H _ _ v u Q I rx ry {a,xs,i,z,rfl,r2.int,.inr q,e1,hR.now hS h r} hs)|_=>exact h.elim)|kW ds=>(cases e with|int i=>(obtain⟨d,e,h⟩:=h;obtain⟨a,xs,rfl,q,t⟩:=r1.kW;obtain⟨z,e1,r⟩:=t.at e;exact E8 value slice pins s σ H _ _ v u Q I rx ry {a,xs,i,z,rfl,r2.int,q.sq,e1,hR.now hS h r} hs)|_=>exact h.elim)|str w=>(cases e with|int i=>(obtain⟨c,e0,e,h⟩:=h;exact Q8 value slice pins s σ H _ _ v u Q I rx ry {w,i,c,r1.str,r2.int,e0,e,hR.now hS h<|cA _} hs)|_=>exact h.elim)|ref a=>(cases e with|int i=>(obtain⟨ds,d,e,e1,h⟩:=h;obtain⟨xs,e2,t⟩:=hS.lst e;obtain⟨z,e3,r⟩:=t.at e1;exact E8 value slice pins s σ H _ _ v u Q I rx ry {a,xs,i,z,r1.ref,r2.int,.of e2,e3,hR.now hS h r} hs)|str w=>(obtain⟨kvs,d,e,e1,h⟩:=h;cases r1.ref;cases r2.str;cases rx;obtain⟨o,g,_,e2⟩:=w6 (k:=.inr w) hS e;obtain⟨z,rfl,r⟩:=e2 d e1;exact tail_any (AL I g) PySem.F.slot_dict_getitem.lookup (G4 (by lia) I g ry λw' s' I' qC=>{z,H,I',qC,hR.now hS h r}) hs)|_=>exact h.elim)|_=>exact h.elim
theorem ix(hu:X.A.units+64<cLine)(ha:DE K X a ta)(hb:DE K X b tb)(hs:autoParam (E7 b) qJ1)(hK:autoParam (X.K=K) qQJ):DE K X (.Subscript a b pos) (RV ixD ta tb):=⟨λy=>(VF (aba y.cx hK hu) (ha.of y) (hb.of y) hs).mono λ_ _ _ h=>h.op⟩
theorem bn(ha:DE K X a ta)(hb:DE K X b tb)(hu:X.A.units+64<cLine:=by assumption)(hs:autoParam (E7 b) qJ1)(hK:autoParam (X.K=K) qQJ):DE K X (.Subscript a b pos) (RV ixD ta tb):=ix  hu ha hb hs hK
end
section
variable{K:Frag}{X:Cx}
abbrev Pj:=SD->aq->(Option Int->aq->Prop)->KX->Prop
def To(K:Frag)(E:St->XK)(t:Pj):TO:=λτ H Q=>∃σ S R Z,iu K H σ τ/\Rs K S H/\t σ S R Z/\(∀o S' H',R o S'->Rs K S' H'->Kp K H H'->Q o H')/\Fh K H Z (E τ)
structure DO(K:Frag)(X:Cx)(e:Option Expr)(t:Pj):Prop where
 of:∀{b:Bool}(y:Ev X b),PO y.cx e<|To K y.E t
theorem PO.mono{t t':TO}(h:PO X e t)(i:∀τ H Q,t' τ H Q->t τ H Q):PO X e t':=λpins s τ H Q I q=>h pins s τ H Q I<|i τ H Q q
def Wr:Pj:=λ_ S R _=>R none S
inductive Ws(d:D)(S:aq)(R:Option Int->aq->Prop):Prop where
 |mk (i:Int)(h:d=.int i)(r:R (some i) S)
def Wt(t:TD):Pj:=λσ S R Z=>t σ S (λd S1=>Ws d S1 R) Z
theorem o0:DO K X none Wr:=⟨λy=>(MG (X:=y.cx)).mono <| by rintro τ H Q ⟨σ,S,R,Z,aC,hS,q,hR,hZ⟩;exact hR _ S H q hS<|.refl _⟩
theorem o1{t:TD}(h:DE K X e t):DO K X (some e) (Wt t):=⟨λy=>(E3<|h.of y).mono <| by rintro τ H Q ⟨σ,S,R,Z,aC,hS,q,hR,hZ⟩;exact{σ,S,_,Z,aC,hS,q,by rintro d S1 x H1 ⟨i,e,r1⟩ v1 s1 k1;exact by subst e;exact{i,v1.int,hR _ S1 H1 r1 s1 k1},hZ}⟩
noncomputable def cn{α:Type}(xs:List α)(lo hi:pp):List α:=(xs.drop<|HT.sIx xs.length 0 lo).take<|HT.sIx xs.length xs.length hi-HT.sIx xs.length 0 lo
theorem RvAll.cut{H:Hp}{ds:List D}{xs:List V}(h:RvAll K H ds xs)(lo hi:pp):RvAll K H (cn ds lo hi) (GY xs lo hi):=by unfold cn GY;rw[h.len];exact(h.drop _).take _
def abb(te:TD):TD:=λσ S R Z=>te σ S (λx S1=>∃ds,vI S1 x ds/\∀p,S1 p=none->R (.ref p) (S1.set p<|.lst ds.reverse)) Z
theorem Wu(he:DE K X e te)(hK:autoParam (X.K=K) qQJ):DE K X (.Subscript e (.Slice none none (some<|.UnaryOp .USub (.Constant (.int 1) j p3) p4) p2) pos) (abb te):=
 ⟨λy=>(RU (X:=y.cx) hK (he.of y) (E3<|O0 IU IJ) λ_ _ _ h=>⟨_,rfl,_,rfl,h⟩).mono <| by rintro τ H Q ⟨σ,S,R,Z,aC,hS,q,hR,hZ⟩;exact
  ⟨σ,S,_,Z,aC,hS,q,by
   rintro d S1 x H1 ⟨ds,h1,r1⟩ v1 s1 k1
   obtain⟨a,xs,rfl,q,t⟩:=h1.at s1 v1
   exact{a,xs,rfl,q,λp hp=>(hR.kp k1).new s1 hp (r1 p) t.rev},hZ⟩⟩
def abc(te:TD):TD:=λσ S R Z=>te σ S (λx S1=>∃i,x=.int i/\R (.int (-i)) S1) Z
theorem DB(he:DE K X e te):DE K X (.UnaryOp .USub e pos) (abc te):=⟨λy=>(O0 IU<|he.of y).mono <| by rintro τ H Q ⟨σ,S,R,Z,aC,hS,q,hR,hZ⟩;exact{σ,S,_,Z,aC,hS,q,by rintro d S1 x H1 ⟨i,e,r1⟩ v1 s1 k1;exact by subst e;exact{i,v1.int,hR _ S1 _ H1 r1 (aP _) s1 k1},hZ}⟩
def tyD(T:String)(S:aq):D->Prop|.str _=>T ="str"|.ref a=>T ="list"/\∃ds,S a=some (.lst ds)|.kW _=>T ="list"|_=>False
theorem Pk{H:Hp}{S:aq}{T:String}{d:D}{v:V}(h:tyD T S d)(hS:Rs K S H)(r:Rv K H d v):YJ K T v H:=by cases d with|str z=>rw[r.str];exact h|ref a=>(obtain⟨e,ds,h⟩:=h;obtain⟨xs,e1,_⟩:=hS.lst h;rw[r.ref];exact .inl {e,xs,.of e1})|kW ds=>(obtain⟨a,xs,rfl,q,_⟩:=r.kW;exact .inl ⟨h,xs,q.sq⟩)|_=>exact h.elim
abbrev IA:=D->List D->aq->KD->Prop
def Lm(K:Frag)(r:IA):V->List V->Hp->VK->Prop:=λx xs H Q=>∃d ds S R,Rv K H d x/\RvAll K H ds xs/\Rs K S H/\r d ds S R/\Cn K H R Q
def Pl(K:Frag)(id:String)(r:IA):Prop:=∀X:Cx,X.K=K->Ur X id (Lm K r)
def dBM(T:String)(r:IA)(to:TD)(t:je):TD:=λσ S R Z=>to σ S (λx S1=>tyD T S1 x/\t σ S1 (λds S2=>r x ds S2 R) Z) Z
def abe(T:String)(r:IA)(to:TD):TD:=λσ S R Z=>to σ S (λx S1=>tyD T S1 x/\r x [] S1 R) Z
theorem bm{o e:Expr}{es:li}{T id:String}{name:Str}{r:IA}{to:TD}{t:je}{apos aO:Pos}(pa:PlainAttrs T)(slot:Slot T name id)(Rf:typeOf (.builtin id)=pure (.type "method_descriptor"))(hm:Pl K id r)(ho:DE K X o to)(ha:DA K X (e::es) t)(mF:autoParam (attributeBase o name X.env (eval o X.env)=eval o X.env) qQJ)(Rh:autoParam (((backTo aO<|starEach (e::es) X.env).all (λx=>!x.1)&&(backToKw aO<|keywordEach [] X.env).all (λx=>x.1.isSome)&&decide ((e::es).length+([]:py).length+(if ([]:py).isEmpty then 0 else 1)<30))=true) qQJ)(rW:autoParam ((apos.endLine==aO.line)=true) qQJ)(hs:autoParam (starEach (e::es) X.env=(false,eval e X.env)::starEach es X.env) qQJ)(CY:autoParam ((backTo aO<|starEach es X.env).any (·.1)=false) qQJ)(hK:autoParam (X.K=K) qQJ): DE K X (.Call (.Attribute o name apos) (e::es) [] aO) (dBM T r to t):=by
 subst hK
 exact⟨λy=>(VH (X:=y.cx) pa slot Rf (hm _ rfl) (ho.of y) (ha.of y) mF Rh rW hs CY).mono <| by rintro τ H Q ⟨σ,S,R,Z,aC,hS,q,hR,hZ⟩;exact
  ⟨σ,S,_,Z,aC,hS,q,by rintro d S1 x H1 ⟨h1,r1⟩ v1 s1 k1;exact⟨Pk h1 s1 v1,σ,S1,_,Z,aC.ts k1,s1,r1,λds S2 xs H2 r2 v2 s2 k2=>⟨d,ds,S2,R,Rv.ts k2 _ v1,v2,s2,r2,hR.kp<|k1.trans k2⟩,hZ.kp k1⟩,hZ⟩⟩
theorem bm0{o:Expr}{T id:String}{name:Str}{r:IA}{to:TD}{apos aO:Pos}(pa:PlainAttrs T)(slot:Slot T name id)(Rf:typeOf (.builtin id)=pure (.type "method_descriptor"))(hm:Pl K id r)(ho:DE K X o to)(mF:autoParam (attributeBase o name X.env (eval o X.env)=eval o X.env) qQJ)(rW:autoParam ((apos.endLine==aO.line)=true) qQJ)(hK:autoParam (X.K=K) qQJ): DE K X (.Call (.Attribute o name apos) [] [] aO) (abe T r to):=by
 subst hK
 exact⟨λy=>(Rb (X:=y.cx) pa slot Rf (hm _ rfl) (ho.of y) mF rW).mono <| by rintro τ H Q ⟨σ,S,R,Z,aC,hS,q,hR,hZ⟩;exact
  ⟨σ,S,_,Z,aC,hS,q,by rintro d S1 x H1 ⟨h1,r1⟩ v1 s1 k1;exact⟨Pk h1 s1 v1,d,[],S1,R,v1,bt,s1,r1,hR.kp k1⟩,hZ⟩⟩
theorem RvAll.one(h:RvAll K H [d] xs):∃v,xs=[v]/\Rv K H d v:=by obtain⟨y,ys,rfl,h1,h2⟩:=h.cons;rw[h2.nil];exact⟨y,rfl,h1⟩
inductive Wv(x:D)(ds:List D)(S:aq)(R:KD):Prop where
 |mk (a:Addr)(es:List D)(d:D)(e1:x=.ref a)(e2:ds=[d])(e3:S a=some (.lst es))(e4:es.length<sizeLine)(r:R .av<|S.set a<|.lst<|es++[d])
def Np:IA:=λx ds S R=>Wv x ds S R
theorem cK:Pl K "list.append" Np:=by rintro X hK pins s σ H x xs v us Q I rx rs ⟨d,ds,S,R,r1,r2,hS,⟨a,es,y,e1,e2,e3,hl,h⟩,hR⟩;subst e1 e2;obtain⟨w0,rfl,q2⟩:=r2.one;obtain⟨zs,e4,t⟩:=hS.lst e3;exact G1 pins s σ H x _ v us Q I rx rs {a,zs,w0,r1.ref,rfl,e4,by rw[t.len];exact hl,hR.put hS e3 h jw<|t.app<|aT q2 bt}
def abf:IA:=λx ds S R=>∃a es d,x=.ref a/\ds=[]/\S a=some (.lst es)/\es[es.length-1]?=some d/\R d (S.set a<|.lst es.dropLast)
theorem Ww:Pl K "list.pop" abf:=by rintro X hK pins s σ H x xs v us Q I rx rs ⟨d,ds,S,R,r1,r2,hS,⟨a,es,y,e1,e2,e3,hl,h⟩,hR⟩;subst e1 e2;obtain⟨zs,e4,t⟩:=hS.lst e3;obtain⟨w,e5,r⟩:=t.get hl;exact Ri pins s σ H x _ v us Q I rx rs {a,zs,w,r1.ref,r2.nil,e4,by rw[t.len];exact e5,hR.put hS e3 h r t.dropLast}
def RY:IA:=λx ds S R=>∃a es i k d,x=.ref a/\ds=[.int i]/\S a=some (.lst es)/\-(2^63)<=i/\i<2^63/\seqIndex? i es.length=some k/\es[k]?=some d/\R d (S.set a<|.lst<|es.eraseIdx k)
theorem Nq:Pl K "list.pop" RY:=by rintro X hK pins s σ H x xs v us Q I rx rs ⟨d,ds,S,R,r1,r2,hS,⟨a,es,i,k,y,e1,e2,e3,h1,h2,h3,h4,h⟩,hR⟩;subst e1 e2;obtain⟨w0,rfl,q2⟩:=r2.one;obtain⟨zs,e4,t⟩:=hS.lst e3;obtain⟨w,e5,r⟩:=t.get h4;exact Je pins s σ H x _ v us Q I rx rs {a,zs,i,k,w,r1.ref,by rw[q2.int],e4,h1,h2,by rw[t.len];exact h3,e5,hR.put hS e3 h r<|t.erase k}
def Nr:IA:=λx ds S R=>∃(es:List D)(d:D)(j:Nat),ds=[d]/\vI S x es/\jy d=true/\es.all jy=true/\(∃z,es[j]?=some z/\eqV (kG z) (kG d)=true)/\(∀m u,m<j->es[m]?=some u->eqV (kG u) (kG d)=false)/\R (.int j) S
theorem A3:Pl K "list.index" Nr:=by rintro X hK pins s σ H x xs v us Q I rx rs ⟨d,ds,S,R,r1,r2,hS,⟨es,y,j,e2,e3,f1,f2,⟨z,e4,e5⟩,h4,h⟩,hR⟩;subst hK e2;obtain⟨w0,rfl,q2⟩:=r2.one;obtain⟨a,zs,rfl,q,t⟩:=e3.at hS r1;obtain⟨g1,g2⟩:=sE f1 q2;obtain⟨g3,g4⟩:=mL f2 t;subst g1 g3;refine Hi pins s σ H _ _ v us Q I rx rs {a,_,_,kG z,j,rfl,rfl,q,g2,g4,by rw[zh,e4];rfl,e5,λm u hm e=>?_,hR.now hS h<|aP _};rw[zh]at e;cases q2:es[m]? with|none=>(rw[q2]at e;cases e)|some u'=>rw[q2]at e;cases e;exact h4 m u' hm q2
def Nt:IA:=λx ds S R=>∃z y,x=.str z/\ds=[.str y]/\R (.bl<|PySem.Txt.startswith z y) S
theorem JK:Pl K "str.startswith" Nt:=by rintro X hK pins s σ H x xs v us Q I rx rs ⟨d,ds,S,R,r1,r2,hS,⟨z,y,e1,e2,h⟩,hR⟩;subst e1 e2;obtain⟨w0,rfl,q2⟩:=r2.one;exact uE pins s σ H _ _ v us Q I rx rs {z,y,r1.str,by rw[q2.str],hR.now hS h<|bS _}
def Wx(S:aq)(R:KD):D->Prop|.str z=>z.length<=sizeLine/\R (.int z.length) S|.tup es=>R (.int es.length) S|.kt es=>R (.int es.length) S|.kW es=>R (.int es.length) S|.ref a=>(∃es,S a=some (.lst es)/\R (.int es.length) S)\/∃kvs,S a=some (.bY kvs)/\R (.int kvs.length) S|_=>False
inductive Wy(ds:List D)(S:aq)(R:KD):Prop where
 |mk (x:D)(h:ds=[x])(r:Wx S R x)
def abg:List D->aq->KD->Prop:=λds S R=>Wy ds S R
theorem a_:iZ K (.builtin "len") abg:=by rintro X hK hc pins s σ H xs us Q I rx ⟨ds,S,R,r,hS,⟨x,e,h⟩,hR⟩;subst hK e;obtain⟨w,rfl,r'⟩:=r.one;cases x with|str z=>(cases r'.str;exact jo pins s σ H _ us Q I rx {_,_,rfl,⟨h.1,rfl⟩,hR.now hS h.2<|aP _})|tup es=>(obtain⟨a,xs,rfl,q,t⟩:=r'.tup;exact jo pins s σ H _ us Q I rx {_,_,rfl,.inr {xs,.of q,t.len.symm},hR.now hS h<|aP _})|kt es=>(obtain⟨a,xs,rfl,q,t⟩:=r'.kt;exact jo pins s σ H _ us Q I rx {_,_,rfl,.inr {xs,.inr q,t.len.symm},hR.now hS h<|aP _})|kW es=>(obtain⟨a,xs,rfl,q,t⟩:=r'.kW;exact jo pins s σ H _ us Q I rx {_,_,rfl,.inl ⟨xs,q.sq,t.len.symm⟩,hR.now hS h<|aP _})|ref a=>(cases r'.ref;rcases h with⟨es,e,h⟩|⟨kvs,e,h⟩;obtain⟨xs,e1,t⟩:=hS.lst e;exact jo pins s σ H _ us Q I rx {_,_,rfl,.inl {xs,.of e1,t.len.symm},hR.now hS h<|aP _};obtain⟨xs,e1,t⟩:=hS.bY e;exact G8 pins s σ H _ us Q I rx {a,xs,rfl,e1,by rw[t.len];exact hR.now hS h<|aP _})|_=>exact h.elim
def RZ(S:aq):D->Kd->Prop|.av,k=>k=.av|.bl _,k=>k=.bl|.int _,k=>k=.int|.str _,k=>k=.str|.ref a,k=>(k=.lst/\∃ds,S a=some (.lst ds))\/(k=.bY/\∃ds,S a=some (.bY ds))|.tup _,k=>k=.tup|_,_=>False
theorem WA(h:RZ S d k)(hS:Rs K S H)(r:Rv K H d v):so H v k:=by cases d with|av=>(cases h;rw[r.av];exact .av)|bl b=>(cases h;rw[r.bl];exact .bl b)|int b=>(cases h;rw[r.int];exact .int b)|str b=>(cases h;rw[r.str];exact .str b)|tup b=>(cases h;obtain⟨a,xs,rfl,q,_⟩:=r.tup;exact .tup q)|ref a=>(rw[r.ref];rcases h with⟨rfl,ds,h⟩|⟨rfl,ds,h⟩;obtain⟨xs,e,_⟩:=hS.lst h;exact .lst e;obtain⟨xs,e,_⟩:=hS.bY h;exact .bY e)|_=>exact h.elim
inductive WB(ds:List D)(S:aq)(R:KD):Prop where
 |mk (x:D)(n:String)(k:Kd)(g:Kd->Bool)(e:ds=[x,.ty n])(a:AU n=some g)(b:RZ S x k)(r:R (.bl<|g k) S)
def abh:List D->aq->KD->Prop:=λds S R=>WB ds S R
theorem RvAll.two(h:RvAll K H [d,e] xs):∃v u,xs=[v,u]/\Rv K H d v/\Rv K H e u:=by obtain⟨y,ys,rfl,h1,h2⟩:=h.cons;obtain⟨u,rfl,h3⟩:=h2.one;exact⟨y,u,rfl,h1,h3⟩
theorem cZ:iZ K (.builtin "isinstance") abh:=by rintro X hK hc pins s σ H xs us Q I rx ⟨ds,S,R,r,hS,⟨x,n,k,g,e,h1,h2,h⟩,hR⟩;subst hK e;obtain⟨v,u,rfl,r1,r2⟩:=r.two;rw[r2.ty]at rx;exact Jv pins s σ H _ us Q I rx {v,n,k,g,rfl,h1,WA h2 hS r1,hR.now hS h<|bS _}
inductive WC(ds:List D)(S:aq)(f:List Bool->Bool)(R:KD):Prop where
 |mk (x:D)(bs:ut)(e:ds=[x])(h:vI S x<|bs.map D.bl)(r:R (.bl<|f bs) S)
def WD:List D->aq->KD->Prop:=λds S R=>WC ds S (λbs=>bs.all id) R
theorem kX:iZ K (.builtin "all") WD:=by rintro X hK hc pins s σ H xs us Q I rx ⟨ds,S,R,r,hS,⟨x,bs,e,h1,h⟩,hR⟩;subst hK e;obtain⟨v,rfl,r1⟩:=r.one;obtain⟨a,zs,rfl,q,t⟩:=h1.at hS r1;rw[t.bools]at q;exact uz hc pins s σ H _ us Q I rx {a,bs,rfl,q,hR.now hS h<|bS _}
def abi:List D->aq->KD->Prop:=λds S R=>∃(x:D)(bs:ut),ds=[x]/\vI S x (bs.map D.bl)/\R (.bl<|bs.any id) S
theorem WE:iZ K (.builtin "any") abi:=by rintro X hK hc pins s σ H xs us Q I rx ⟨ds,S,R,r,hS,⟨x,bs,e,h1,h⟩,hR⟩;subst hK e;obtain⟨v,rfl,r1⟩:=r.one;obtain⟨a,zs,rfl,q,t⟩:=h1.at hS r1;rw[t.bools]at q;exact uA hc pins s σ H _ us Q I rx {a,bs,rfl,q,hR.now hS h<|bS _}
def intD:List D->aq->KD->Prop:=λds S R=>(∃i,ds=[.int i]/\R (.int i) S)\/∃k,ds=[.bl k]/\R (.int<|if k then 1 else 0) S
theorem JL:iZ K (.type "int") intD:=by rintro X hK hc pins s σ H xs us Q I rx ⟨ds,S,R,r,hS,h,hR⟩;rcases h with⟨i,rfl,h⟩|⟨k,rfl,h⟩;obtain⟨v,rfl,r1⟩:=r.one;exact vh pins s σ H _ us Q I rx<|.inl {i,by rw[r1.int],hR.now hS h<|aP _};obtain⟨v,rfl,r1⟩:=r.one;exact vh pins s σ H _ us Q I rx<|.inr {k,by rw[r1.bl],hR.now hS h<|aP _}
inductive WG(ds:List D)(S:aq)(R:KD):Prop where
 |mk (x:D)(es:List D)(e:ds=[x])(h:vI S x es\/x=.tup es)(r:R (.tup es) S)
def R1:List D->aq->KD->Prop:=λds S R=>WG ds S R
theorem ft:iZ K (.type "tuple") R1:=by rintro X hK hc pins s σ H xs us Q I rx ⟨ds,S,R,r,hS,⟨x,es,e,h1,h⟩,hR⟩;subst hK e;obtain⟨v,rfl,r1⟩:=r.one;rcases h1 with h1|rfl;obtain⟨a,zs,rfl,q,t⟩:=h1.at hS r1;exact kR pins s σ H _ us Q I rx {a,zs,rfl,.inl {q,λp hp=>hR.aa4 hS hp h t}};obtain⟨a,zs,rfl,q,t⟩:=r1.tup;exact kR pins s σ H _ us Q I rx {a,zs,rfl,.inr {.of q,hR.now hS h<|oE q t}}
def minD(f:Int->Int->Bool):List D->aq->KD->Prop:=λds S R=>∃i j,ds=[.int i,.int j]/\R (.int<|if f j i then j else i) S
theorem Pm:iZ K (.builtin "min") (minD λa b=>decide<|a<b):=by rintro X hK hc pins s σ H xs us Q I rx ⟨ds,S,R,r,hS,⟨i,j,e,h⟩,hR⟩;subst e;obtain⟨v,u,rfl,r1,r2⟩:=r.two;refine GS hc pins s σ H _ us Q I rx {i,j,by rw[r1.int,r2.int],?_};have:=hR.now hS h<|aP _;simpa using this
theorem WH:iZ K (.builtin "max") (minD λa b=>decide<|b<a):=by rintro X hK hc pins s σ H xs us Q I rx ⟨ds,S,R,r,hS,⟨i,j,e,h⟩,hR⟩;subst e;obtain⟨v,u,rfl,r1,r2⟩:=r.two;refine GR hc pins s σ H _ us Q I rx {i,j,by rw[r1.int,r2.int],?_};have:=hR.now hS h<|aP _;simpa using this
end
abbrev rj:=List D->aq->KD->KX->Prop
def rl(K:Frag)(sp:rj):Sp:=λvs H Q e=>∃ds S R Z,RvAll K H ds vs/\Rs K S H/\sp ds S R Z/\Cn K H R Q/\Fh K H Z e
section
variable{K:Frag}{X:Cx}{k:Nat}{f C:Addr}{fd:FuncData}{ps:j4}{sp:Sp}{qA:List V}{ds:dL}{x m:Str}{p pos apos:Pos}{e o:Expr}{es:li}{b:Bool}{y:Ev X b}
theorem w9(F:bG X.prog X.w X.K X.mg X.base (fG X.prog X.w X.mg) k f fd ps sp)(hr:bO k X.A)(hb:Binds X.K fd ps ds)(hd:Vals qA ds)(I:Inv y.cx p2 σ H s)(r:Vals vs us)(h:sp (vs++qA) H Q<|y.E σ):wpAny (model X.prog X.w) X.A (call (.ref f) us) (EP y.cx p2 σ Q) y.xe s:=by
 have r2:Vals (vs++qA) (us++ds):=r.append hd;have hl:(us++ds).length=ps.length:=by rw[<-r2.length];exact F.len _ _ _ _ h
 refine wpAny_call<|yW (F.run X.A X.stack s H {us,[]} (us++ds) (vs++qA) Q (y.E σ) hr I.VA (hb s us I.pN hl) r2 h) λres s' hq=>?_;cases res with|error e=>exact y.ok.call p2 σ H s e s' I hq|ok fl=>cases fl with|ret u=>exact I.after hq|next=>exact False.elim hq|brk=>exact False.elim hq|cont=>exact False.elim hq
theorem JM{t:TA}(F:bG X.prog X.w X.K X.mg X.base (fG X.prog X.w X.mg) k f fd ps sp)(hr:bO k X.A)(hg:Gl X x)(hm:X.mg x=some (.ref f))(hk:keepIn X.K (.ref f)=true)(hb:Binds X.K fd ps ds)(hd:Vals qA ds)(ha:PA y.cx (e::es) t)(qB:(x==("__debug__": Str))=false)(he:starEach (e::es) X.env=(false,eval e X.env)::starEach es X.env)(dy:(backTo pos<|starEach es X.env).any (·.1)=false): PE y.cx (.Call (.Name x p) (e::es) [] pos) (λσ H Q=>t σ H λvs H1=>sp (vs++qA) H1 Q<|y.E σ):=by intro p2 s σ H Q I h;refine wpAny_Call_Name_kw<|qY I hg hm ?_ qB;refine callWith_K (h₀:=X.base) I.ok.mod.Up hk (bb (ha pos p2 s σ H _ I h) λus s1 ⟨vs,H1,I1,r,q⟩=>{I1.pN,?_}) he dy;exact w9 F hr hb hd I1 r q
theorem JN{pl:Sem Bool}{ta:TE}{t:TA}(he:PE y.cx o ta)(c:q_ X.K C)(hm:Meth X.K C m f)(F:bG X.prog X.w X.K X.mg X.base (fG X.prog X.w X.mg) k f fd ps sp)(hr:bO k X.A)(hb:Binds X.K fd ps ds)(hd:Vals qA ds)(ha:PA y.cx (e::es) t)
  (uv:starEach (e::es) X.env=(false,eval e X.env)::starEach es X.env) (dy:(backTo pos<|starEach es X.env).any (·.1)=false)
  (ht:eval (.Call (.Attribute o m apos) (e::es) [] pos) X.env=(do
   let ov <-eval o X.env
   standAt apos.atName
   let (f,first) <-holding [ov] (getMethod ov m pl)
   callWith pos f first (backTo pos<|starEach (e::es) X.env) (backToKw pos<|keywordEach [] X.env))):
  PE y.cx (.Call (.Attribute o m apos) (e::es) [] pos) (λσ H Q=>ta σ H λx H1=>∃a dx fs,x=.ref a/\H1 a=some (.ins C dx fs)/\fs.lookup m=none/\t σ H1 λvs H2=>sp (x::(vs++qA)) H2 Q<|y.E σ):=by
 intro p2 s σ H Q I h
 refine methodCall_KW (pl:=pl) (bb (he p2 s σ H _ I h) λu s1 ⟨x,H1,I1,rx,a,dx,fs,ex,ea,l,q⟩=>?_) ht
 subst ex
 obtain rfl:u=Value.ref a:=rx
 refine rV I1 ea c hm l ?_
 refine callWith_K (first:=[.ref a]) (h₀:=X.base) I.ok.mod.Up hm.kp (bb (ha pos p2 s1 σ H1 _ I1 q) λus s2 ⟨vs,H2,I2,r,q2⟩=>{I2.pN,?_}) uv dy
 exact w9 (us:=.ref a::us) (vs:=.ref a::vs) F hr hb hd I2 (.cons rfl r) q2
theorem Hj(he:PE y.cx o ta)(c:q_ X.K C)(hm:Meth X.K C m f)(F:bG X.prog X.w X.K X.mg X.base (fG X.prog X.w X.mg) k f fd ps sp)(hr:bO k X.A)(hb:Binds X.K fd ps ds)(hd:Vals qA ds)
  (ht:eval (.Call (.Attribute o m apos) [] [] pos) X.env=(do
   let ov <-eval o X.env
   standAt apos.atName
   let (f,first) <-holding [ov] (getMethod ov m pl)
   callWith pos f first (backTo pos<|starEach [] X.env) (backToKw pos<|keywordEach [] X.env))):
  PE y.cx (.Call (.Attribute o m apos) [] [] pos) (λσ H Q=>ta σ H λx H1=>∃a dx fs,x=.ref a/\H1 a=some (.ins C dx fs)/\fs.lookup m=none/\sp (x::qA) H1 Q (y.E σ)):=by
 intro p2 s σ H Q I h
 refine methodCall_KW (pl:=pl) (bb (he p2 s σ H _ I h) λu s1 ⟨x,H1,I1,rx,a,dx,fs,ex,ea,l,q⟩=>?_) ht
 subst ex
 obtain rfl:u=Value.ref a:=rx
 refine rV I1 ea c hm l ?_
 exact PySem.W.callWith_K0 (first:=[.ref a]) I1.pN hm.kp<|w9 (us:=[.ref a]) (vs:=[.ref a]) F hr hb hd I1 (.cons rfl .nil) q
theorem Hk(M:Mk X.K C f)(F:bG X.prog X.w X.K X.mg X.base (fG X.prog X.w X.mg) k f fd ps sp)(hr:bO (k+1) X.A)(hb:Binds X.K fd ps ds)(hd:Vals qA ds)(I:Inv y.cx p2 σ H s)(r:Vals vs us)(h:∀x dx,H x=none->H dx=none->dx≠x->sp (.ref x::(vs++qA)) (upd (upd H dx<|.own x) x<|.ins C dx []) (λv H2=>v=.av/\Q (.ref x) H2) (y.E σ)): wpAny (model X.prog X.w) X.A (call (.ref C) us) (EP y.cx p2 σ Q) y.xe s:=by
 have hq:=h (s.heap.objs.size+1) s.heap.objs.size (I.aN.fresh<|yV _) (I.aN.fresh<|zq _)<|zG<|Nat.lt_succ_self _;have I2:=Inv.made (C:=C) I;have r2:Vals (V.ref (s.heap.objs.size+1)::(vs++qA)) (Value.ref (s.heap.objs.size+1)::(us++ds)):=.cons rfl<|r.append hd;have hl:(Value.ref (s.heap.objs.size+1)::us++ds).length=ps.length:=by have e:=r2.length;rw[F.len _ _ _ _ hq]at e;exact e.symm
 refine wpAny_call<|I0 (f:=f) I.pN M.makes M.init (beq_iff_eq.mp M.fn)<|yW (F.run _ X.stack _ _ {Value.ref (s.heap.objs.size+1)::us,[]} (Value.ref (s.heap.objs.size+1)::(us++ds)) _ _ (y.E σ) (hr.make C us []) (I2.VA.make C us []) (hb _ (Value.ref (s.heap.objs.size+1)::us) I2.pN hl) r2 hq) λr s' Cu=>?_;cases r with|error e=>exact y.ok.call p2 σ _ _ e s' I2 Cu|ok fl=>cases fl with|ret u=>(obtain⟨v,H',I3,rv,ev,q3⟩:=I2.after Cu;subst ev;exact{rv,{V.ref<|s.heap.objs.size+1,H',I3,rfl,q3}})|next=>exact False.elim Cu|brk=>exact False.elim Cu|cont=>exact False.elim Cu
theorem JO{t:TA}(M:Mk X.K C f)(F:bG X.prog X.w X.K X.mg X.base (fG X.prog X.w X.mg) k f fd ps sp)(hr:bO (k+1) X.A)(hg:Gl X x)(hm:X.mg x=some (.ref C))(hb:Binds X.K fd ps ds)(hd:Vals qA ds)(ha:PA y.cx (e::es) t)(qB:(x==("__debug__": Str))=false)(he:starEach (e::es) X.env=(false,eval e X.env)::starEach es X.env)(dy:(backTo pos<|starEach es X.env).any (·.1)=false): PE y.cx (.Call (.Name x p) (e::es) [] pos) (λσ H Q=>t σ H λvs H1=>∀x dx,H1 x=none->H1 dx=none->dx≠x->sp (.ref x::(vs++qA)) (upd (upd H1 dx<|.own x) x<|.ins C dx []) (λv H2=>v=.av/\Q (.ref x) H2) (y.E σ)):=by intro p2 s σ H Q I h;refine wpAny_Call_Name_kw<|qY I hg hm ?_ qB;refine callWith_K (h₀:=X.base) I.ok.mod.Up M.kp (bb (ha pos p2 s σ H _ I h) λus s1 ⟨vs,H1,I1,r,q⟩=>{I1.pN,?_}) he dy;exact Hk M F hr hb hd I1 r q
end
section
variable{K:Frag}{X:Cx}{k:Nat}{f C:Addr}{fd:FuncData}{ps:j4}{sp:rj}{A4:List D}{qA:List V}{ds:dL}{x m:Str}{p pos apos:Pos}{e o:Expr}{es:li}
structure UD(K:Frag)(A4:List D)(qA:List V)(ds:dL):Prop where
 v:Vals qA ds
 d:∀H,RvAll K H A4 qA
theorem d0:UD K [] [] []:={.nil,λ_=>bt}
theorem d1:UD K [.av] [.av] [.none]:={.cons rfl .nil,λ_=>aT jw bt}
def Pn(sp:rj)(A4:List D)(t:je):TD:=λσ S R Z=>t σ S (λds S1=>sp (ds++A4) S1 R Z) Z
theorem cf{t:je}(F:bG X.prog X.w K X.mg X.base (fG X.prog X.w X.mg) k f fd ps<|rl K sp)(hr:bO k X.A)(hm:X.mg x=some (.ref f))(hk:keepIn K (.ref f)=true)(hb:Binds K fd ps ds)(hd:UD K A4 qA ds)(ha:DA K X (e::es) t)(hg:autoParam (Gl X x) qQJ)(qB:autoParam ((x==("__debug__": Str))=false) qQZ)(he:autoParam (starEach (e::es) X.env=(false,eval e X.env)::starEach es X.env) qQJ)(dy:autoParam ((backTo pos<|starEach es X.env).any (·.1)=false) qQJ)(hK:autoParam (X.K=K) qQJ): DE K X (.Call (.Name x p) (e::es) [] pos) (Pn sp A4 t):=by
 subst hK
 exact⟨λy=>(JM F hr hg hm hk hb hd.v (ha.of y) qB he dy).mono <| by rintro τ H Q ⟨σ,S,R,Z,aC,hS,q,hR,hZ⟩;exact
  ⟨σ,S,_,Z,aC,hS,q,λes S1 xs H1 r1 v1 s1 k1=>⟨es++A4,S1,R,Z,v1.app<|hd.d _,s1,r1,hR.kp k1,hZ.kp k1⟩,hZ⟩⟩
inductive MeR(C:Addr)(m:Str)(x:D)(S:aq)(p:Prop):Prop where
 |mk (a:Addr)(fs:List<|Str×D)(e1:x=.ref a)(e2:S a=some (.ins C fs))(e3:fs.lookup m=none)(r:p)
def Fj(C:Addr)(m:Str)(sp:rj)(A4:List D)(ta:TD)(t:je):TD:=λσ S R Z=>ta σ S (λx S1=>MeR C m x S1<|t σ S1 (λds S2=>sp (x::(ds++A4)) S2 R Z) Z) Z
theorem cme{t:je}(he:DE K X o ta)(c:q_ K C)(hm:Meth K C m f)(F:bG X.prog X.w K X.mg X.base (fG X.prog X.w X.mg) k f fd ps<|rl K sp)(hr:bO k X.A)(hb:Binds K fd ps ds)(hd:UD K A4 qA ds)(ha:DA K X (e::es) t)
  (uv:autoParam (starEach (e::es) X.env=(false,eval e X.env)::starEach es X.env) qQJ) (dy:autoParam ((backTo pos<|starEach es X.env).any (·.1)=false) qQJ)
  (ht:autoParam (eval (.Call (.Attribute o m apos) (e::es) [] pos) X.env=(do
   let ov <-eval o X.env
   standAt apos.atName
   let (f,first) <-holding [ov] (getMethod ov m pl)
   callWith pos f first (backTo pos<|starEach (e::es) X.env) (backToKw pos<|keywordEach [] X.env))) qQJ) (hK:autoParam (X.K=K) qQJ):
  DE K X (.Call (.Attribute o m apos) (e::es) [] pos) (Fj C m sp A4 ta t):=by
 subst hK
 exact⟨λy=>(JN (he.of y) c hm F hr hb hd.v (ha.of y) uv dy ht).mono <| by rintro τ H Q ⟨σ,S,R,Z,aC,hS,q,hR,hZ⟩;exact
  ⟨σ,S,_,Z,aC,hS,q,by
   rintro d S1 x H1 ⟨a,fs,e1,e2,e3,r1⟩ v1 s1 k1
   subst e1
   obtain⟨dx,vs,e4,t4⟩:=s1.ins e2
   exact{a,dx,vs,v1.ref,e4,(t4.look m).2 e3,σ,S1,_,Z,aC.ts k1,s1,r1,λes S2 xs H2 r2 v2 s2 k2=>{_,S2,R,Z,aT (Rv.ts k2 _ v1)<|v2.app<|hd.d _,s2,r2,hR.kp<|k1.trans k2,hZ.kp<|k1.trans k2},hZ.kp k1},hZ⟩⟩
theorem R3(he:DE K X o ta)(c:q_ K C)(hm:Meth K C m f)(F:bG X.prog X.w K X.mg X.base (fG X.prog X.w X.mg) k f fd ps<|rl K sp)(hr:bO k X.A)(hb:Binds K fd ps ds)(hd:UD K A4 qA ds)
  (ht:autoParam (eval (.Call (.Attribute o m apos) [] [] pos) X.env=(do
   let ov <-eval o X.env
   standAt apos.atName
   let (f,first) <-holding [ov] (getMethod ov m pl)
   callWith pos f first (backTo pos<|starEach [] X.env) (backToKw pos<|keywordEach [] X.env))) qQJ) (hK:autoParam (X.K=K) qQJ):
  DE K X (.Call (.Attribute o m apos) [] [] pos) (Fj C m sp A4 ta Nn):=by
 subst hK
 exact⟨λy=>(Hj (he.of y) c hm F hr hb hd.v ht).mono <| by rintro τ H Q ⟨σ,S,R,Z,aC,hS,q,hR,hZ⟩;exact
  ⟨σ,S,_,Z,aC,hS,q,by
   rintro d S1 x H1 ⟨a,fs,e1,e2,e3,r1⟩ v1 s1 k1
   subst e1
   obtain⟨dx,vs,e4,t4⟩:=s1.ins e2
   exact{a,dx,vs,v1.ref,e4,(t4.look m).2 e3,_,S1,R,Z,aT v1<|hd.d _,s1,r1,hR.kp k1,hZ.kp k1},hZ⟩⟩
def WI(C:Addr)(sp:rj)(A4:List D)(t:je):TD:=λσ S R Z=>t σ S (λds S1=>∀x,S1 x=none->sp (.ref x::(ds++A4)) (S1.set x<|.ins C []) (λd S2=>d=.av/\R (.ref x) S2) Z) Z
theorem mk{t:je}(M:Mk K C f)(F:bG X.prog X.w K X.mg X.base (fG X.prog X.w X.mg) k f fd ps<|rl K sp)(hr:bO (k+1) X.A)(hm:X.mg x=some (.ref C))(hb:Binds K fd ps ds)(hd:UD K A4 qA ds)(ha:DA K X (e::es) t)(hg:autoParam (Gl X x) qQJ)(qB:autoParam ((x==("__debug__": Str))=false) qQZ)(he:autoParam (starEach (e::es) X.env=(false,eval e X.env)::starEach es X.env) qQJ)(dy:autoParam ((backTo pos<|starEach es X.env).any (·.1)=false) qQJ)(hK:autoParam (X.K=K) qQJ): DE K X (.Call (.Name x p) (e::es) [] pos) (WI C sp A4 t):=by
 subst hK
 exact⟨λy=>(JO M F hr hg hm hb hd.v (ha.of y) qB he dy).mono <| by rintro τ H Q ⟨σ,S,R,Z,aC,hS,q,hR,hZ⟩;exact
  ⟨σ,S,_,Z,aC,hS,q,λes S1 xs H1 r1 v1 s1 k1 x dx hx hdx ne=>by
   have Nu:upd H1 dx (.own x) x=none:=by rw[az ne.symm];exact hx
   have k2:Kp X.K H1 (upd (upd H1 dx<|.own x) x<|.ins C dx []):=(Kp.new hdx).trans<|Kp.new Nu
   exact{_,_,_,Z,aT (gH x)<|RvAll.ts k2 _<|v1.app<|hd.d _,(s1.grow hdx).new (c:=.ins C []) Nu {dx,[],aE,.nil},r1 x<|s1.fresh hx,by rintro d S2 v H2 ⟨e,r2⟩ v2 s2 k3;exact by subst e;exact{v2.av,hR _ _ _ _ r2 (gH x) s2<|(k1.trans k2).trans k3},(hZ.kp k1).kp k2},hZ⟩⟩
inductive FlR(C:Addr)(f:Str)(x:D)(S:aq)(R:KD):Prop where
 |mk (a:Addr)(fs:List<|Str×D)(d:D)(e1:x=.ref a)(e2:S a=some (.ins C fs))(e3:fs.lookup f=some d)(r:R d S)
def abk(C:Addr)(f:Str)(ta:TD):TD:=λσ S R Z=>ta σ S (λx S1=>FlR C f x S1 R) Z
theorem fl{f:Str}{ta:TD}(c:q_ K C)(n:jq K C f)(he:DE K X e ta)(hb:autoParam (attributeBase e f X.env (eval e X.env)=eval e X.env) qQJ)(hK:autoParam (X.K=K) qQJ):DE K X (.Attribute e f pos) (abk C f ta):=by
 subst hK
 exact⟨λy=>(Q2 (X:=y.cx) (he.of y) hb).mono <| by rintro τ H Q ⟨σ,S,R,Z,aC,hS,q,hR,hZ⟩;exact
  ⟨σ,S,_,Z,aC,hS,q,by
   rintro d S1 x H1 ⟨a,fs,y,e1,e2,e3,r1⟩ v1 s1 k1
   subst e1
   obtain⟨dx,vs,e4,t4⟩:=s1.ins e2
   obtain⟨v,e5,r5⟩:=(t4.look f).1 y e3
   exact{a,C,dx,vs,v,v1.ref,e4,c,n,e5,(hR.kp k1).now s1 r1 r5},hZ⟩⟩
end
structure vJ where
 nx:SD->aq->Prop
 rt:KD
 bk:SD->aq->Prop:=λ_ _=>False
 ct:SD->aq->Prop:=λ_ _=>False
abbrev mM:=vJ->SD->aq->(SD->KX)->Prop
def Po(K:Frag)(H:Hp)(R:SD->aq->Prop)(Q:St->Hp->Prop):Prop:=∀σ S τ H',R σ S->iu K H' σ τ->Rs K S H'->Kp K H H'->Q τ H'
structure YX(K:Frag)(H:Hp)(De:vJ)(Dv:Ends):Prop where
 nx:Po K H De.nx Dv.nx
 rt:Cn K H De.rt Dv.rt
 bk:Po K H De.bk Dv.bk
 ct:Po K H De.ct Dv.ct
def A5(K:Frag)(H:Hp)(Z:SD->KX)(E:St->XK):Prop:=∀σ τ C S H',Z σ C S->iu K H' σ τ->Rs K S H'->Kp K H H'->E τ (.ref C) none H'
section
variable{K:Frag}{H H1:Hp}{De:vJ}{Dv:Ends}{Z:SD->KX}{E:St->XK}{σ:SD}{τ:St}{S:aq}
theorem Po.kp(h:Po K H R Q)(k:Kp K H H1):Po K H1 R Q:=λσ S τ H' r a b c=>h σ S τ H' r a b<|k.trans c
theorem YX.kp(h:YX K H De Dv)(k:Kp K H H1):YX K H1 De Dv:={h.nx.kp k,h.rt.kp k,h.bk.kp k,h.ct.kp k}
theorem A5.kp(h:A5 K H Z E)(k:Kp K H H1):A5 K H1 Z E:=λσ τ C S H' r a b c=>h σ τ C S H' r a b<|k.trans c
theorem A5.at(h:A5 K H Z E)(r:iu K H σ τ):Fh K H (Z σ) (E τ):=λC S H' z s k=>h σ τ C S H' z (r.ts k) s k
theorem A5.on(h:A5 K H Z E)(k:Kp K H H1)(r:iu K H1 σ τ):Fh K H1 (Z σ) (E τ):=(h.kp k).at r
end
def Tl(K:Frag)(E:St->XK)(t:mM):TS:=λDv τ H=>∃σ S De Z,iu K H σ τ/\Rs K S H/\t De σ S Z/\YX K H De Dv/\A5 K H Z E
structure DS(K:Frag)(X:Cx)(b:Bool)(st:Stmt)(t:mM):Prop where
 of:∀y:Ev X b,PS y.cx st<|Tl K y.E t
structure IB(K:Frag)(X:Cx)(b:Bool)(st:mt)(t:mM):Prop where
 of:∀y:Ev X b,ET y.cx st<|Tl K y.E t
theorem PS.mono{t t':TS}(h:PS X e t)(i:∀D τ H,t' D τ H->t D τ H):PS X e t':=λpins s τ H D I q=>h pins s τ H D I<|i D τ H q
theorem ET.mono{t t':TS}(h:ET X e t)(i:∀D τ H,t' D τ H->t D τ H):ET X e t':=λpins s τ H D I q=>h pins s τ H D I<|i D τ H q
section
variable{K:Frag}{X:Cx}{b:Bool}{pos:Pos}
def WJ:mM:=λDe σ S _=>De.nx σ S
def abl(t u:mM):mM:=λDe σ S Z=>t {De with nx:=λaG S'=>u De aG S' Z} σ S Z
theorem s0:IB K X b [] WJ:=⟨λy=>(Mp (X:=y.cx)).mono <| by rintro D τ H ⟨σ,S,De,Z,aC,hS,q,hD,hZ⟩;exact hD.nx _ _ _ _ q aC hS<|.refl _⟩
theorem sc{st:Stmt}{r:mt}{t u:mM}(h1:DS K X b st t)(h2:IB K X b r u):IB K X b (st::r) (abl t u):=
 ⟨λy=>(IL (h1.of y)<|h2.of y).mono <| by rintro D τ H ⟨σ,S,De,Z,aC,hS,q,hD,hZ⟩;exact
  ⟨σ,S,_,Z,aC,hS,q,⟨λAq S1 τ1 H1 r1 a b c=>⟨Aq,S1,De,Z,a,b,r1,hD.kp c,hZ.kp c⟩,hD.rt,hD.bk,hD.ct⟩,hZ⟩⟩
theorem s1{st:Stmt}{t:mM}(h:DS K X b st t):IB K X b [st] t:=⟨λy=>Mq<|h.of y⟩
def WK(t:TD):mM:=λDe σ S Z=>t σ S (λ_ S1=>De.nx σ S1)<|Z σ
theorem se{t:TD}(h:DE K X e t)(hs:autoParam (swapsWith e none pos.line X.env=pure false) qQJ):DS K X b (.Expr e pos) (WK t):=⟨λy=>(Mr (X:=y.cx) (h.of y) hs).mono <| by rintro D τ H ⟨σ,S,De,Z,aC,hS,q,hD,hZ⟩;exact{σ,S,_,_,aC,hS,q,λd S1 v H1 r1 _ s1 k1=>hD.nx _ _ _ _ r1 (aC.ts k1) s1 k1,hZ.at aC}⟩
def abn(t:TD):mM:=λDe σ S Z=>t σ S De.rt<|Z σ
theorem sr{t:TD}(h:DE K X e t):DS K X b (.Return (some e) pos) (abn t):=⟨λy=>(QI<|h.of y).mono <| by rintro D τ H ⟨σ,S,De,Z,aC,hS,q,hD,hZ⟩;exact{σ,S,_,_,aC,hS,q,hD.rt,hZ.at aC}⟩
def dIf(c:mw)(t u:mM):mM:=λDe σ S Z=>c σ S (λb S1=>if b=true then t De σ S1 Z else u De σ S1 Z)<|Z σ
theorem si{t u:mM}(hc:DT K X c tc)(ha:IB K X b a t)(hb:IB K X b a' u):DS K X b (.If c a a' pos) (dIf tc t u):=
 ⟨λy=>(Vj (hc.of y) (ha.of y)<|hb.of y).mono <| by rintro D τ H ⟨σ,S,De,Z,aC,hS,q,hD,hZ⟩;exact
  ⟨σ,S,_,_,aC,hS,q,λc S1 H1 r1 s1 k1=>by
   cases c with
   |true=>rw[if_pos rfl]at r1⊢;exact{σ,S1,De,Z,aC.ts k1,s1,r1,hD.kp k1,hZ.kp k1}
   |false=>rw[if_neg zd]at r1⊢;exact{σ,S1,De,Z,aC.ts k1,s1,r1,hD.kp k1,hZ.kp k1},hZ.at aC⟩⟩
abbrev A6:=D->SD->aq->(SD->aq->Prop)->Prop
def Tg(K:Frag)(g:A6):TG:=λv τ H Q=>∃d σ S R,Rv K H d v/\iu K H σ τ/\Rs K S H/\g d σ S R/\Po K H R Q
structure DG(K:Frag)(X:Cx)(e:Expr)(g:A6):Prop where
 of:∀Y:Cx,Y.K=X.K->Y.N=X.N->Y.env=X.env->Y.fn=X.fn->Y.calm=X.calm->PG Y e (Tg K g)
theorem PG.mono{t t':TG}(h:PG X e t)(i:∀v τ H Q,t' v τ H Q->t v τ H Q):PG X e t':=λpins s τ H v u Q I r q=>h pins s τ H v u Q I r<|i v τ H Q q
def UE(i:Nat):A6:=λd σ S R=>R (σ.set i<|some d) S
theorem gn(hN:X.N.Nodup)(hi:autoParam (X.N[i]?=some x) qQJ)(hx:autoParam (Loc X.env.scope x) qJ3)(hf:autoParam (X.fn x=true\/X.env.scope.names.lookup x=some .local) qJQ):DG K X (.Name x pos) (UE i):=⟨λY _ e2 e3 e4 _=>(qZ (X:=Y) (by rw[e2];exact hN) (by rw[e2];exact hi) (by rw[e3];exact hx)<|by rw[e3,e4];exact hf).mono <| by rintro v τ H Q ⟨d,σ,S,R,rv,aC,hS,q,hR⟩;exact hR _ S _ H q (aC.set i rv) hS<|.refl _⟩
abbrev Hl:=List D->SD->aq->(SD->aq->Prop)->Prop
def Tgs(K:Frag)(g:Hl):OW:=λvs τ H Q=>∃ds σ S R,RvAll K H ds vs/\iu K H σ τ/\Rs K S H/\g ds σ S R/\Po K H R Q
structure YY(K:Frag)(X:Cx)(es:li)(g:Hl):Prop where
 of:∀Y:Cx,Y.K=X.K->Y.N=X.N->Y.env=X.env->Y.fn=X.fn->Y.calm=X.calm->OX Y es (Tgs K g)
theorem OX.mono{t t':OW}(h:OX X e t)(i:∀v τ H Q,t' v τ H Q->t v τ H Q):OX X e t':=λpins s τ H v u Q I r q=>h pins s τ H v u Q I r<|i v τ H Q q
def Pp:Hl:=λds σ S R=>ds=[]/\R σ S
def DC(g:A6)(u:Hl):Hl:=λds σ S R=>∃d r,ds=d::r/\g d σ S λAq S1=>u r Aq S1 R
theorem g0:YY K X [] Pp:=⟨λY _ _ _ _ _=>(EW (X:=Y)).mono <| by rintro vs τ H Q ⟨ds,σ,S,R,rv,aC,hS,⟨e,q⟩,hR⟩;exact by subst e;exact{rv.nil,hR _ _ _ _ q aC hS<|.refl _}⟩
theorem gc(h1:DG K X e g)(h2:YY K X es u)(hs:autoParam (∀env:Env,(assignEach (e::es) env).map (·.2)=assign e env::(assignEach es env).map (·.2)) qQ0):YY K X (e::es) (DC g u):=⟨λY a b c d f=>(rQ (h1.of Y a b c d f) (h2.of Y a b c d f)<|hs _).mono <| by rintro vs τ H Q ⟨ds,σ,S,R,rv,aC,hS,⟨d,r,e,q⟩,hR⟩;subst e;obtain⟨y,ys,e1,r1,r2⟩:=rv.cons;exact{y,ys,e1,d,σ,S,_,r1,aC,hS,q,λAq S1 τ1 H1 q1 a b c=>{r,Aq,S1,R,RvAll.ts c _ r2,a,b,q1,hR.kp c}}⟩
def Pq(n:Nat)(g:Hl):A6:=λd σ S R=>∃ds,d=.tup ds/\ds.length=n/\g ds σ S R
theorem gt(h:YY K X es g)(hn:autoParam (∀env:Env,(assignEach es env).length=n) qQ0)(uv:autoParam (∀env:Env,(assignEach es env).findIdx? (·.1)=none) qQ0)(hK:autoParam (X.K=K) qQJ)(hc:autoParam (X.calm=true) qQJ):DG K X (.Tuple es j pos) (Pq n g):=⟨λY a b c d f=>(IM (X:=Y) (by rw[f];exact hc) (h.of Y a b c d f) (hn _)<|uv _).mono <| by rintro v τ H Q ⟨d,σ,S,R,rv,aC,hS,⟨ds,e,hl,q⟩,hR⟩;subst e;obtain⟨p,xs,e1,e2,t⟩:=rv.tup;exact{p,xs,e1,.of e2,by rw[t.len];exact hl,ds,σ,S,R,t,aC,hS,q,hR}⟩
def R4(i:Nat)(t:TD):mM:=λDe σ S Z=>t σ S (λd S1=>De.nx (σ.set i<|some d) S1)<|Z σ
theorem bQ{t:TD}(hN:X.N.Nodup)(h:DE K X e t)(hi:autoParam (X.N[i]?=some x) qQJ)(hx:autoParam (Loc X.env.scope x) qJ3)(hs:autoParam (swapsWith e (some<|.Name x pos') pos.line X.env=pure false) qQJ)(hf:autoParam (X.fn x=true\/X.env.scope.names.lookup x=some .local) qJQ):DS K X b (.Assign [.Name x pos'] e pos) (R4 i t):=⟨λy=>(QM (X:=y.cx) (i:=i) hN hi hx (h.of y) hs hf).mono <| by rintro D τ H ⟨σ,S,De,Z,aC,hS,q,hD,hZ⟩;exact{σ,S,_,_,aC,hS,q,λd S1 v H1 r1 v1 s1 k1=>hD.nx _ _ _ _ r1 ((aC.ts k1).set i v1) s1 k1,hZ.at aC}⟩
def abo(t:TD)(g:A6):mM:=λDe σ S Z=>t σ S (λd S1=>g d σ S1 De.nx)<|Z σ
theorem sa{t:TD}(h:DE K X e t)(hg:DG K X tg g)(hs:autoParam (swapsWithSole [tg] e pos.line X.env=pure false) qQJ)(hw:autoParam (swappedStores [tg] e X.env=pure none) qQJ)(h1:autoParam ((assignEach [tg] X.env).map (·.2)=[assign tg X.env]) qQJ): DS K X b (.Assign [tg] e pos) (abo t g):=⟨λy=>(IP (X:=y.cx) (h.of y) (hg.of _ rfl rfl rfl rfl rfl) hs hw h1).mono <| by rintro D τ H ⟨σ,S,De,Z,aC,hS,q,hD,hZ⟩;exact{σ,S,_,_,aC,hS,q,λd S1 v H1 r1 v1 s1 k1=>{d,σ,S1,_,v1,aC.ts k1,s1,r1,hD.nx.kp k1},hZ.at aC}⟩
def abp(td ty tv:TD):mM:=λDe σ S Z=>tv σ S (λv S1=>td σ S1 (λx S2=>ty σ S2 (λy S3=>∃a kvs k,x=.ref a/\S3 a=some (.bY kvs)/\Du y=some k/\kvs.length<sizeLine/\De.nx σ (S3.set a<|.bY<|dput kvs k v))<|Z σ)<|Z σ)<|Z σ
theorem sd{o i value:Expr}{td ty tv:TD}{pos':Pos}(hu:X.A.units+64<cLine)(ho:DE K X o td)(hi:DE K X i ty)(hv:DE K X value tv)(hs:autoParam (swapsWith value (some<|.Subscript o i pos') pos.line X.env=pure false) qQJ):DS K X b (.Assign [.Subscript o i pos'] value pos) (abp td ty tv):=
 ⟨λy=>(ML (X:=y.cx) (by show X.A.units+1<cLine;lia) (ho.of y) (hi.of y) (hv.of y) hs).mono <| by rintro D τ H ⟨σ,S,De,Z,aC,hS,q,hD,hZ⟩;exact
  ⟨σ,S,_,_,aC,hS,q,λv S1 vv H1 r1 v1 s1 k1=>⟨σ,S1,_,_,aC.ts k1,s1,r1,λx S2 xv H2 r2 v2 s2 k2=>⟨σ,S2,_,_,aC.ts<|k1.trans k2,s2,r2,by
   rintro y S3 yv H3 ⟨a,kvs,k,e1,e2,e3,hl,r3⟩ v3 s3 k3
   subst e1
   obtain⟨vs,e4,t⟩:=s3.bY e2
   have kk:=s3.gI (o:=.dK<|putK vs k vv) e2
   refine{a,_,(Rv.ts k3 _ v2).ref,by rw[oF e3 v3];exact Jg.k e4<|by rw[t.len];exact hl,?_}
   exact hD.nx _ _ _ _ r3 (aC.ts<|((k1.trans k2).trans k3).trans kk) (s3.put (c:=.bY _) e2 {_,aE,(t.put k<|Rv.ts (k2.trans k3) _ v1).ts kk})<|((k1.trans k2).trans k3).trans kk,hZ.on (k1.trans k2)<|aC.ts<|k1.trans k2⟩,hZ.on k1<|aC.ts k1⟩,hZ.at aC⟩⟩
end
section
variable{X:Cx}{pins:io}{σ:St}{H:Hp}{s:Shared}{A:Around}{E:lc}{a:Addr}{kvs:List (Key×V)}{k:Key}{u:Value}
theorem R5(I:Inv X pins σ H s)(e:H a=some (.dK kvs))(ry:RelV (kV k) u)(rz:RelV z r)(hl:kvs.length<sizeLine)(h1:∀v w' s',gb kvs k=some v->Inv X pins σ H s'->RelV v w'->Q w' s')(h2:gb kvs k=none->∀s',Inv X pins σ (upd H a<|.dK<|putK kvs k z) s'->Q r s'): wpAny (model X.prog X.w) A (call (.builtin "dict.setdefault") [.ref a,u,r]) Q E s:=by
 obtain⟨zz,hd,vs,rel,dd⟩:=AK I.aN e;have hp:=jr kvs k z;refine call_meetsIn PySem.F.slot_dict_setdefault dd.typeIs PySem.F.entry_dict_setdefault (PySem.F.args_dict_setdefault_3 _ _ _) (PySem.kt_meets_setdefault (aH X.prog X.w) a (iV ry) hd r) {vs,dd,by rw[<-rel.length];exact zz,λw' hw=>?_,λhn h' Jh hs=>?_};cases q:gb kvs k with|none=>(have:=fF.none_of (o:=valueAt vs k) (by rw[<-q];exact rel.val k);rw[this]at hw;cases hw)|some v=>obtain⟨w2,Nv,rw2⟩:=fF.some_of (v:=v) (o:=valueAt vs k) (by rw[<-q];exact rel.val k);rw[Nv]at hw;cases hw;exact h1 v _ _ q (I.tok _) rw2
 cases q:gb kvs k with|some v=>(obtain⟨w2,Nv,rw2⟩:=fF.some_of (v:=v) (o:=valueAt vs k) (by rw[<-q];exact rel.val k);rw[Nv]at hn;cases hn)|none=>have he:∃q,h'.get? a=some q:=(by obtain⟨q,_,_,hq,_⟩:=Jh;exact⟨q,hq⟩);exact h2 q _<|rf I (by rw[e];exact True.intro) hs he<|wM (by lia) hd (rel.put k rz) Jh
end
section
variable{X:Cx}{o e f:Expr}{apos aO:Pos}{td ty tx:TE}
def WL(td ty tx:TE):TE:=λσ H Q=>td σ H λx H1=>∃a,x=.ref a/\Us H1 a/\ty σ H1 λy H2=>tx σ H2 λz H3=>∃kvs k,H3 a=some (.dK kvs)/\y=kV k/\kvs.length<sizeLine/\(∀v,gb kvs k=some v->Q v H3)/\(gb kvs k=none->Q z (upd H3 a<|.dK<|putK kvs k z))
theorem JP(ho:PE X o td)(he:PE X e ty)(hf:PE X f tx)(m:M2 X o "setdefault" apos e f aO):PE X (.Call (.Attribute o "setdefault" apos) [e,f] [] aO) (WL td ty tx):=by intro pins s σ H Q I h;refine wpAny_Call_method m.base m.Iu m.line PySem.F.plainAttrs_dict PySem.F.slot_dict_setdefault PySem.F.type_dict_setdefault<|bb (ho pins s σ H _ I h) ?_;rintro u s1 ⟨x,H1,I1,rx,a,ex,d,q1⟩;subst ex;obtain rfl:u=Value.ref a:=rx;obtain⟨t1,t2,_⟩:=wO I1 d;refine{t1,t2,?_};rw[m.trees];refine Calls.callWith_builtin rfl<|Calls.evalArgs_plain<|yF<|bb (he pins s1 σ H1 _ I1 q1) λiv s2 ⟨y,H2,I2,ry,q2⟩=>yF<|bb (hf pins s2 σ H2 _ I2 q2) λfv s3 ⟨z,H3,I3,rz,kvs,k,ea,ey,hl,q3,q4⟩=>Calls.spliced_nil ?_;subst ey;exact R5 I3 ea ry rz hl (λv w' s4 l I4 qC=>{v,H3,I4,qC,q3 v l}) λl s4 I4=>{z,_,I4,rz,q4 l}
end
section
variable{K:Frag}{X:Cx}{b:Bool}{o e f:Expr}{apos aO pos:Pos}{td ty tx:TD}
theorem w_(hS:Rs K S H)(e:S a=some (.bY kvs)):Us H a:=by obtain⟨vs,e1,_⟩:=hS.bY e;exact .inl {vs,.inl e1}
def WM(td ty:TD):TD:=λσ S R Z=>td σ S (λx S1=>∃a kvs,x=.ref a/\S1 a=some (.bY kvs)/\ty σ S1 (λy S2=>∃kvs k,S2 a=some (.bY kvs)/\Du y=some k/\R ((bP kvs k).getD .av) S2) Z) Z
theorem JQ(hS:Rs K S H)(e:S a=some (.bY kvs))(r:Rv K H d v):∃o,qD H a (kV k) o/\Rv K H ((bP kvs k).getD d) (o.getD v):=by obtain⟨o,g,h1,h2⟩:=w6 (k:=k) hS e;refine{o,g,?_};cases q:bP kvs k with|none=>(rw[q]at h1;cases o with|none=>exact r|some _=>cases h1)|some d'=>obtain⟨v',rfl,r'⟩:=h2 d' q;exact r'
theorem mg1(hu:X.A.units+64<cLine)(ho:DE K X o td)(he:DE K X e ty)(m:autoParam (M1 X o "get" apos e aO) qQ4):DE K X (.Call (.Attribute o "get" apos) [e] [] aO) (WM td ty):=
 ⟨λy=>(Jm (X:=y.cx) (by show X.A.units+1<cLine;lia) (ho.of y) (he.of y) ⟨m.base,m.Iu,m.line,m.trees⟩).mono <| by rintro τ H Q ⟨σ,S,R,Z,aC,hS,q,hR,hZ⟩;exact
  ⟨σ,S,_,Z,aC,hS,q,by
   rintro x S1 xv H1 ⟨a,kvs,e1,e2,r1⟩ v1 s1 k1
   subst e1
   exact⟨a,v1.ref,w_ s1 e2,σ,S1,_,Z,aC.ts k1,s1,r1,by
    rintro y S2 yv H2 ⟨kvs,k,e3,e4,r2⟩ v2 s2 k2
    obtain⟨o,g,r⟩:=JQ (k:=k) s2 e3 jw
    exact{o,by rw[oF e4 v2];exact g,(hR.kp<|k1.trans k2).now s2 r2 r},hZ.kp k1⟩,hZ⟩⟩
theorem bv(ho:DE K X o td)(he:DE K X e ty)(hu:X.A.units+64<cLine:=by assumption)(m:autoParam (M1 X o "get" apos e aO) qQ4):DE K X (.Call (.Attribute o "get" apos) [e] [] aO) (WM td ty):=mg1  hu ho he m
def WN(td ty tx:TD):TD:=λσ S R Z=>td σ S (λx S1=>∃a kvs,x=.ref a/\S1 a=some (.bY kvs)/\ty σ S1 (λy S2=>tx σ S2 (λz S3=>∃kvs k,S3 a=some (.bY kvs)/\Du y=some k/\R ((bP kvs k).getD z) S3) Z) Z) Z
theorem mg2(hu:X.A.units+64<cLine)(ho:DE K X o td)(he:DE K X e ty)(hf:DE K X f tx)(m:autoParam (M2 X o "get" apos e f aO) qQ4):DE K X (.Call (.Attribute o "get" apos) [e,f] [] aO) (WN td ty tx):=
 ⟨λy=>(Jn (X:=y.cx) (by show X.A.units+1<cLine;lia) (ho.of y) (he.of y) (hf.of y) ⟨m.base,m.Iu,m.line,m.trees⟩).mono <| by rintro τ H Q ⟨σ,S,R,Z,aC,hS,q,hR,hZ⟩;exact
  ⟨σ,S,_,Z,aC,hS,q,by
   rintro x S1 xv H1 ⟨a,kvs,e1,e2,r1⟩ v1 s1 k1
   subst e1
   exact⟨a,v1.ref,w_ s1 e2,σ,S1,_,Z,aC.ts k1,s1,r1,λy S2 yv H2 r2 v2 s2 k2=>⟨σ,S2,_,Z,aC.ts<|k1.trans k2,s2,r2,by
    rintro z S3 zv H3 ⟨kvs,k,e3,e4,r3⟩ v3 s3 k3
    obtain⟨o,g,r⟩:=JQ (k:=k) s3 e3 v3
    exact{o,by rw[oF e4 v2];exact g,(hR.kp<|(k1.trans k2).trans k3).now s3 r3 r},hZ.kp<|k1.trans k2⟩,hZ.kp k1⟩,hZ⟩⟩
theorem ca(ho:DE K X o td)(he:DE K X e ty)(hf:DE K X f tx)(hu:X.A.units+64<cLine:=by assumption)(m:autoParam (M2 X o "get" apos e f aO) qQ4):DE K X (.Call (.Attribute o "get" apos) [e,f] [] aO) (WN td ty tx):=mg2  hu ho he hf m
def WO(td ty:TD):TD:=λσ S R Z=>td σ S (λx S1=>∃a kvs,x=.ref a/\S1 a=some (.bY kvs)/\ty σ S1 (λy S2=>∃kvs k d,S2 a=some (.bY kvs)/\Du y=some k/\bP kvs k=some d/\R d (S2.set a<|.bY<|A2 kvs k)) Z) Z
theorem mp1(ho:DE K X o td)(he:DE K X e ty)(m:autoParam (M1 X o "pop" apos e aO) qQ4):DE K X (.Call (.Attribute o "pop" apos) [e] [] aO) (WO td ty):=
 ⟨λy=>(Jo (X:=y.cx) (ho.of y) (he.of y) ⟨m.base,m.Iu,m.line,m.trees⟩).mono <| by rintro τ H Q ⟨σ,S,R,Z,aC,hS,q,hR,hZ⟩;exact
  ⟨σ,S,_,Z,aC,hS,q,by
   rintro x S1 xv H1 ⟨a,kvs,e1,e2,r1⟩ v1 s1 k1
   subst e1
   exact⟨a,v1.ref,w_ s1 e2,σ,S1,_,Z,aC.ts k1,s1,r1,by
    rintro y S2 yv H2 ⟨kvs,k,d,e3,e4,e5,r2⟩ v2 s2 k2
    obtain⟨vs,e6,t⟩:=s2.bY e3
    obtain⟨v,e7,r7⟩:=(t.val k).1 d e5
    have kk:=s2.gI (o:=.dK<|pQ vs k) e3
    exact{vs,k,v,e6,oF e4 v2,e7,hR _ _ _ _ r2 (Rv.ts kk _ r7) (s2.put (c:=.bY _) e3 {_,aE,(t.drop k).ts kk})<|(k1.trans k2).trans kk},hZ.kp k1⟩,hZ⟩⟩
def WQ(td ty tx:TD):TD:=λσ S R Z=>td σ S (λx S1=>∃a kvs,x=.ref a/\S1 a=some (.bY kvs)/\ty σ S1 (λy S2=>tx σ S2 (λz S3=>∃kvs k,S3 a=some (.bY kvs)/\Du y=some k/\kvs.length<sizeLine/\(∀d,bP kvs k=some d->R d S3)/\(bP kvs k=none->R z (S3.set a<|.bY<|dput kvs k z))) Z) Z) Z
theorem ms2(ho:DE K X o td)(he:DE K X e ty)(hf:DE K X f tx)(m:autoParam (M2 X o "setdefault" apos e f aO) qQ4):DE K X (.Call (.Attribute o "setdefault" apos) [e,f] [] aO) (WQ td ty tx):=
 ⟨λy=>(JP (X:=y.cx) (ho.of y) (he.of y) (hf.of y) ⟨m.base,m.Iu,m.line,m.trees⟩).mono <| by rintro τ H Q ⟨σ,S,R,Z,aC,hS,q,hR,hZ⟩;exact
  ⟨σ,S,_,Z,aC,hS,q,by
   rintro x S1 xv H1 ⟨a,kvs,e1,e2,r1⟩ v1 s1 k1
   subst e1
   exact⟨a,v1.ref,w_ s1 e2,σ,S1,_,Z,aC.ts k1,s1,r1,λy S2 yv H2 r2 v2 s2 k2=>⟨σ,S2,_,Z,aC.ts<|k1.trans k2,s2,r2,by
    rintro z S3 zv H3 ⟨kvs,k,e3,e4,hl,r3,r4⟩ v3 s3 k3
    obtain⟨vs,e6,t⟩:=s3.bY e3
    have kk:=s3.gI (o:=.dK<|putK vs k zv) e3
    have hR3:=hR.kp<|(k1.trans k2).trans k3
    refine{vs,k,e6,oF e4<|Rv.ts k3 _ v2,by rw[t.len];exact hl,λv hv=>?_,λhn=>?_}
    ·cases q:bP kvs k with
     |none=>rw[(t.val k).2 q]at hv;cases hv
     |some d =>
      obtain⟨v',e7,r7⟩:=(t.val k).1 d q
      rw[e7]at hv;cases hv
      exact hR3.now s3 (r3 d q) r7
    ·cases q:bP kvs k with
     |some d=>obtain⟨v',e7,r7⟩:=(t.val k).1 d q;rw[e7]at hn;cases hn
     |none=>exact hR3 _ _ _ _ (r4 q) (Rv.ts kk _ v3) (s3.put (c:=.bY _) e3 {_,aE,(t.put k v3).ts kk}) kk,hZ.kp<|k1.trans k2⟩,hZ.kp k1⟩,hZ⟩⟩
noncomputable def DD(f:Str)(d:D):List (Str×D)->List (Str×D)|[]=>[(f,d)]| (g,x)::r=>if g=f then (g,d)::r else (g,x)::DD f d r
theorem bM.DD{H:Hp}{f:Str}{d:D}{v:V}(rd:Rv K H d v):∀{ks:List (Str×D)}{vs:List (Str×V)},bM K H ks vs->bM K H (DD f d ks) (putF f v vs)|_,_,.nil=>.cons ⟨rfl,rd⟩ .nil| (g,x)::r,(g',y)::r',.cons h t=>by obtain⟨e,h⟩:=h;dsimp only at e;subst e;show bM K H (if g=f then (g,d)::r else (g,x)::L2.DD f d r) (if g=f then (g,v)::r' else (g,y)::putF f v r');by_cases q:g=f;rw[if_pos q,if_pos q];exact .cons ⟨rfl,rd⟩ t;rw[if_neg q,if_neg q];exact .cons ⟨rfl,h⟩<|bM.DD rd t
def WR(C:Addr)(f:Str)(ta tv:TD):mM:=λDe σ S Z=>tv σ S (λy S1=>ta σ S1 (λx S2=>∃a fs,x=.ref a/\S2 a=some (.ins C fs)/\fs.length<1000/\De.nx σ (S2.set a<|.ins C<|DD f y fs))<|Z σ)<|Z σ
theorem sf{C:Addr}{f:Str}{value:Expr}{ta tv:TD}{pos':Pos}(c:q_ K C)(n:jq K C f)(ha:DE K X o ta)(hv:DE K X value tv)(hs:autoParam (swapsWith value (some<|.Attribute o f pos') pos.line X.env=pure false) qQJ)(hK:autoParam (X.K=K) qQJ): DS K X b (.Assign [.Attribute o f pos'] value pos) (WR C f ta tv):=by
 subst hK
 exact⟨λy=>(Q3 (X:=y.cx) (ha.of y) (hv.of y) hs).mono <| by rintro D τ H ⟨σ,S,De,Z,aC,hS,q,hD,hZ⟩;exact
  ⟨σ,S,_,_,aC,hS,q,λy S1 yv H1 r1 v1 s1 k1=>⟨σ,S1,_,_,aC.ts k1,s1,r1,by
   rintro x S2 xv H2 ⟨a,fs,e1,e2,hl,r2⟩ v2 s2 k2
   subst e1
   obtain⟨dx,vs,e4,t4⟩:=s2.ins e2
   have kk:=s2.gI (o:=.ins C dx<|putF f yv vs) e2
   exact{a,C,dx,vs,v2.ref,e4,c,n,by rw[t4.len];exact hl,hD.nx _ _ _ _ r2 (aC.ts<|(k1.trans k2).trans kk) (s2.put (c:=.ins C _) e2 {dx,_,aE,(bM.DD (Rv.ts k2 _ v1) t4).ts kk})<|(k1.trans k2).trans kk},hZ.on k1<|aC.ts k1⟩,hZ.at aC⟩⟩
def R6(C:Addr)(t:je):mM:=λ_ σ S Z=>t σ S (λds S1=>ds.length<=sizeLine/\Z σ C S1)<|Z σ
end
section
variable{K:Frag}{X:Cx}{C:Addr}{x:Str}{e:Expr}{es:li}{np aO pos:Pos}
theorem Hm{t:TA}{y:Ev X true}(hc:X.calm=true)(c:XC X.K C)(hg:Gl X x)(hm:X.mg x=some (.ref C))(ha:PA y.cx (e::es) t)(qB:(x==("__debug__": Str))=false)(he:starEach (e::es) X.env=(false,eval e X.env)::starEach es X.env)(dy:(backTo aO<|starEach es X.env).any (·.1)=false): PS y.cx (.Raise (some<|.Call (.Name x np) (e::es) [] aO) none pos) (λ_ σ H=>t σ H λvs H1=>vs.length<=sizeLine/\y.E σ (.ref C) none H1):=by intro pins s σ H D I h;obtain⟨bm,N,nm,q,bs,hdct,sn,sub,ab,col,dd,k0,k1,k2,k3,k5,mN,hC,hN,YO,T⟩:=c.at I.mod.Up;have mF:bm.contains (.type "BaseException")=true:=T.hasType (by decide);refine wpAny_Raise_call_subT (C:=C) (nm:=nm) (q:=q) (N:=N) (bs:=bs) (bm:=bm) (hdct:=hdct) (sn:=sn) (sub:=sub) (ab:=ab) (col:=col) (dd:=dd) (k0:=k0) (k1:=k1) (k2:=k2) (k3:=k3) (k5:=k5) PySem.F.excBase_ValueError (mN:=mN) mF (I.ok.hd hc) (by show((backTo aO<|starEach (e::es) X.env).any (·.1))=false;rw[he];show(false||(backTo aO<|starEach es X.env).any (·.1))=false;rw[dy];rfl) YO<|qY I hg hm {rfl,?_} qB;have h1:=ha aO pins s σ H _ I h;have L9:starEach (e::es) y.cx.env=(false,eval e X.env)::starEach es X.env:=he;rw[L9]at h1⊢;exact Calls.evalArgs_plain<|bb h1 <| by rintro us s2 ⟨vs,H2,I2,r,z,q2⟩;exact{rfl,by show us.length<=sizeLine;rw[<-r.length];exact z,I2.bk _ _ hC,hN.keeps I2.bk,T.keeps I2.bk,λh' a hx=>y.ok.own rfl pins σ H2 s2 h' a _ _ I2 hx q2}
theorem sF{t:je}(c:XC K C)(hm:X.mg x=some (.ref C))(ha:DA K X (e::es) t)(hg:autoParam (Gl X x) qQJ)(qB:autoParam ((x==("__debug__": Str))=false) qQZ)(he:autoParam (starEach (e::es) X.env=(false,eval e X.env)::starEach es X.env) qQJ)(dy:autoParam ((backTo aO<|starEach es X.env).any (·.1)=false) qQJ)(hc:autoParam (X.calm=true) qQJ)(hK:autoParam (X.K=K) qQJ): DS K X true (.Raise (some<|.Call (.Name x np) (e::es) [] aO) none pos) (R6 C t):=by subst hK;exact⟨λy=>(Hm (y:=y) hc c hg hm (ha.of y) qB he dy).mono λD τ H ⟨σ,S,De,Z,aC,hS,q,hD,hZ⟩=>{σ,S,_,_,aC,hS,q,λds S1 vs H1 ⟨hl,r1⟩ v1 s1 k1=>{by rw[v1.len];exact hl,hZ.at aC C S1 H1 r1 s1 k1},hZ.at aC}⟩
end
structure rm where
 xs:List D
 ok:aq->Prop
def WS(K:Frag)(H0:Hp)(J:It)(I:rm):Prop:=∀i S H,Kp K H0 H->Rs K S H->I.ok S->(∀d,I.xs[i]?=some d->J.go i H/\∀x H',J.Vl i H x H'->Rv K H' d x/\Kp K H H'/\Rs K S H')/\(I.xs.length<=i->J.stop i H)
abbrev A7:=SD->aq->(rm->aq->Prop)->KX->Prop
def Ti(K:Frag)(E:St->XK)(t:A7):TI:=λτ H R=>∃σ S RI Z,iu K H σ τ/\Rs K S H/\t σ S RI Z/\(∀I S' J H',RI I S'->WS K H' J I->Rs K S' H'->Kp K H H'->R J H')/\Fh K H Z (E τ)
structure DI(K:Frag)(X:Cx)(tg it:Expr)(t:A7):Prop where
 of:∀{b:Bool}(y:Ev X b),PI y.cx tg it<|Ti K y.E t
theorem PI.mono{t t':TI}(h:PI X tg it t)(i:∀τ H R,t' τ H R->t τ H R):PI X tg it t':=λpins s τ H R I q=>h pins s τ H R I<|i τ H R q
section
variable{K:Frag}{X:Cx}{tg l:Expr}
def abq(t:TD):A7:=λσ S R Z=>t σ S (λx S1=>∃ds,vI S1 x ds/\R {ds,λS=>vI S x ds} S1) Z
theorem il{t:TD}(h:DE K X l t)(hK:autoParam (X.K=K) qQJ):DI K X tg l (abq t):=by subst hK;exact⟨λy=>(Mu (X:=y.cx)<|h.of y).mono <| by rintro τ H R ⟨σ,S,RI,Z,aC,hS,q,hR,hZ⟩;exact{σ,S,_,Z,aC,hS,q,by rintro x S1 v H1 ⟨ds,h1,r1⟩ v1 s1 k1;obtain⟨a,xs,rfl,hq,t⟩:=h1.at s1 v1;refine{a,rfl,⟨xs,hq⟩,hR _ S1 _ H1 r1 (λi S2 H2 k2 s2 YZ=>?_) s1 k1};obtain⟨a',R7,e',Cu,t'⟩:=vI.at YZ s2<|Rv.ts k2 _ v1;cases e';refine{λd hd=>?_,λhl=>{R7,Cu,by rw[t'.len];exact hl}};obtain⟨v,e1,r⟩:=t'.get hd;refine{⟨R7,v,Cu,e1⟩,λx' H' ⟨e2,e3⟩=>?_};subst e2;have:=e3 R7 Cu;rw[e1]at this;cases this;exact{r,.refl _,s2},hZ}⟩
def WT(t:TD):A7:=λσ S R Z=>t σ S (λx S1=>∃ds,(x=.tup ds\/x=.kt ds)/\R {ds,λ_=>True} S1) Z
theorem R8{H:Hp}{x:D}{ds:List D}{v:V}(h:x=.tup ds\/x=.kt ds)(r:Rv K H x v):∃a xs,v=.ref a/\(∀H',Kp K H H'->jc K H' a xs)/\RvAll K H ds xs:=by rcases h with rfl|rfl;obtain⟨a,xs,rfl,q,t⟩:=r.tup;exact{a,xs,rfl,λH' k=>.of<|k.t _ _ q,t};obtain⟨a,xs,rfl,q,t⟩:=r.kt;exact{a,xs,rfl,λH' k=>.inr q,t}
theorem JR{t:TD}(h:DE K X l t)(hK:autoParam (X.K=K) qQJ):DI K X tg l (WT t):=by subst hK;exact⟨λy=>(QQ (X:=y.cx)<|h.of y).mono <| by rintro τ H R ⟨σ,S,RI,Z,aC,hS,q,hR,hZ⟩;exact{σ,S,_,Z,aC,hS,q,by rintro x S1 v H1 ⟨ds,h1,r1⟩ v1 s1 k1;obtain⟨a,xs,rfl,hq,t⟩:=R8 h1 v1;refine{a,rfl,{xs,hq _<|.refl _},hR _ S1 _ H1 r1 (λi S2 H2 k2 s2 _=>?_) s1 k1};have DF:=hq H2 k2;refine{λd hd=>?_,λhl=>{xs,DF,by rw[t.len];exact hl}};obtain⟨v,e1,r⟩:=(RvAll.ts k2 _ t).get hd;refine{⟨xs,v,DF,e1⟩,λx' H' ⟨e2,e3⟩=>?_};subst e2;have:=e3 xs DF;rw[e1]at this;cases this;exact{r,.refl _,s2},hZ}⟩
noncomputable def dM(lo:Int)(n:Nat):List D:=(List.range n).map λi=>D.int<|lo+(i:Nat)
theorem cq{lo:Int}{n:Nat} : (dM lo n).length=n:=by unfold dM;rw[zb,yI]
theorem cL{lo:Int}{n i:Nat}{d:D}(h:(dM lo n)[i]?=some d):i<n/\d=.int (lo+i):=by unfold dM at h;rw[zh]at h;by_cases q:i<n;rw[List.getElem?_range q]at h;exact{q,(zT h).symm};rw[yn<|by rw[yI];omega]at h;cases h
theorem R9{H0:Hp}{lo:Int}{n:Nat} : WS K H0 (YF lo n) {dM lo n,λ_=>True}:=λi S H k s _=>{λd hd=>by obtain⟨h1,rfl⟩:=cL hd;exact{h1,by rintro x H' ⟨e1,e2⟩;exact by subst e1 e2;exact{aP _,.refl _,s}},λhl=>by rw[cq]at hl;exact hl}
def abr(t:je):A7:=λσ S R Z=>t σ S (λds S1=>∃j:Int,ds=[.int j]/\-(2^62)<=j/\j<2^62/\R {dM 0 j.toNat,λ_=>True} S1) Z
theorem Pr{t:je}(hm:X.mg "range"= none)(ha:DA K X [a] t)(hg:autoParam (Gl X "range") qQJ)(hs:autoParam (starEach [a] X.env=[(false,eval a X.env)]) qQJ):DI K X tg (.Call (.Name "range" p) [a] [] pos) (abr t):=⟨λy=>(GL (X:=y.cx) hg hm (ha.of y) hs).mono <| by rintro τ H R ⟨σ,S,RI,Z,aC,hS,q,hR,hZ⟩;exact{σ,S,_,Z,aC,hS,q,by rintro ds S1 vs H1 ⟨j,e,h1,h2,r1⟩ v1 s1 k1;subst e;obtain⟨v,rfl,r⟩:=v1.one;exact{j,by rw[r.int],h1,h2,hR _ S1 _ H1 r1 R9 s1 k1},hZ}⟩
end
section
variable{K:Frag}{X:Cx}{tg iter:Expr}{pos:Pos}
def abt(ti:A7)(g:A6)(tb:mM):mM:=λDe σ S Z=>ti σ S (λI S1=>∃P:Nat->SD->aq->Prop,P 0 σ S1/\(∀i σ S,P i σ S->I.ok S)/\(∀i d σ S,I.xs[i]?=some d->P i σ S->g d σ S λq8 S2=>tb {De with nx:=P<|i+1,ct:=P<|i+1,bk:=De.nx} q8 S2 Z)/\∀σ S,P I.xs.length σ S->De.nx σ S)<|Z σ
theorem JS(hi:DI K X tg iter ti)(hg:DG K X tg g)(hb:IB K X true body tb)(hs:autoParam (∀x,foldedSetIterable iter X.env x=pure x) qQ0)(hc:autoParam (X.calm=true) qQJ):DS K X true (.For tg iter body [] pos) (abt ti g tb):=
 ⟨λy=>(QR (X:=y.cx) (y.ok.loop rfl) hc (hi.of y) (hg.of _ rfl rfl rfl rfl rfl) (hb.of y) hs).mono <| by rintro D τ H ⟨σ,S,De,Z,aC,hS,q,hD,hZ⟩;exact
  ⟨σ,S,_,_,aC,hS,q,by
   rintro I S1 J H1 ⟨P,p0,pok,pst,pend⟩ hJ s1 k1
   refine{λi m τ H=>m=I.xs.length-i/\i<=I.xs.length/\∃σ S,iu K H σ τ/\Rs K S H/\P i σ S/\Kp K H1 H,!{zV _,σ,S1,aC.ts k1,s1,p0,.refl _},?_}
   rintro i m τ2 H2 ⟨rfl,WU,q8,S2,a2,s2,p2,k2⟩
   have ok:=hJ i S2 H2 k2 s2<|pok _ _ _ p2
   by_cases eB:i<I.xs.length
   ·obtain⟨go,yl⟩:=ok.1 _ (ze eB)
    refine .inr {go,λUB H'=>i+1<=I.xs.length/\∃σ S,iu K H' σ UB/\Rs K S H'/\P (i+1) σ S/\Kp K H1 H',λaG H' h'=>{_,by omega,rfl,h'},λx H' hy=>?_}
    obtain⟨rx,k3,s3⟩:=yl x H' hy
    refine{_,q8,S2,_,rx,a2.ts k3,s3,pst i _ q8 S2 (ze eB) p2,λY0 S4 τ4 H4 r4 a4 s4 k4=>?_}
    have kk:=(k2.trans k3).trans k4
    exact{Y0,S4,_,Z,a4,s4,r4,{λR_ S5 τ5 H5 r5 a5 s5 k5=>{eB,R_,S5,a5,s5,r5,kk.trans k5},hD.rt.kp<|k1.trans kk,(hD.nx.kp<|k1.trans kk),λR_ S5 τ5 H5 r5 a5 s5 k5=>{eB,R_,S5,a5,s5,r5,kk.trans k5}},hZ.kp<|k1.trans kk}
   ·have e:i=I.xs.length:=by omega
    subst e
    exact .inl {ok.2<|zq _,hD.nx _ _ _ _ (pend _ _ p2) a2 s2<|k1.trans k2},hZ.at aC⟩⟩
end
noncomputable def mO(σ:SD)(src:List<|Option Nat):SD:=src.map λo=>match o with|some j=>(σ[j]?).join|none=>none
theorem iu.pick{K:Frag}{H:Hp}{σ:SD}{τ:St}(h:iu K H σ τ):∀src:ul,iu K H (mO σ src) (pick τ src)|[]=>.nil|o::r=>.cons (λd e=>by cases o with|none=>(cases e)|some j=>dsimp only at e⊢;cases q:σ[j]? with|none=>(rw[q]at e;cases e)|some o'=>rw[q]at e;obtain rfl:o'=some d:=e;obtain⟨v,e1,r1⟩:=h.get q;exact{v,by rw[e1];rfl,r1})<|iu.pick h r
def Zf:KX:=λ_ _=>False
def A8(σ:SD)(src:List<|Option Nat)(g:A6)(tc:mw)(te:TD)(R:KD)(I:rm)(S1:aq):Prop:=∃P:Nat->List D->aq->Prop,P 0 [] S1/\(∀i out S,P i out S->I.ok S)/\(∀i d out S,I.xs[i]?=some d->P i out S->out.length<sizeLine/\g d (mO σ src) S λf_ S3=>tc f_ S3 (λb S4=>if b=true then te f_ S4 (λv S5=>P (i+1) (out++[v]) S5) Zf else P (i+1) out S4) Zf)/\∀out S2,P I.xs.length out S2->∀p,S2 p=none->R (.ref p) (S2.set p<|.lst out)
def vK(ti:A7)(src:List<|Option Nat)(g:A6)(tc:mw)(te:TD):TD:=λσ S R Z=>ti σ S (λI S1=>A8 σ src g tc te R I S1) Z
theorem Fh.f{K:Frag}{H:Hp}{e:XK} : Fh K H Zf e:=λ_ _ _ z=>z.elim
theorem T.comp{K:Frag}{E E':St->XK}{ti:A7}{src:List<|Option Nat}{g:TG}{gd:A6}{tc:mw}{te:TD}{τ:St}{H:Hp}{Q:VK}(hg:∀v τ H Q,Tg K gd v τ H Q->g v τ H Q)(h:T K E (vK ti src gd tc te) τ H Q):Jr (Ti K E ti) src g (Tt K E' tc) (T K E' te) τ H Q:=by
 obtain⟨σ,S,R,Z,aC,hS,q,hR,hZ⟩:=h;refine{σ,S,_,Z,aC,hS,q,λI S1 J H1 ⟨P,p0,pok,pst,pend⟩ hJ s1 k1=>?_,hZ};refine{λi m out H=>m=I.xs.length-i/\i<=I.xs.length/\∃ds S,RvAll K H ds out/\Rs K S H/\P i ds S/\Kp K H1 H,!{zV _,[],S1,bt,s1,p0,.refl _},?_};rintro i m out H2 ⟨rfl,WU,ds,S2,v2,s2,p2,k2⟩;have ok:=hJ i S2 H2 k2 s2<|pok _ _ _ p2;by_cases eB:i<I.xs.length;obtain⟨go,yl⟩:=ok.1 _<|ze eB;obtain⟨hz,st⟩:=pst i _ ds S2 (ze eB) p2;refine .inr {go,by rw[v2.len];exact hz,λx H' hy=>?_};obtain⟨rx,k3,s3⟩:=yl x H' hy;refine hg _ _ _ _ {_,_,S2,_,rx,(((aC.ts k1).ts k2).ts k3).pick src,s3,st,λY0 S4 τ4 H4 r4 a4 s4 k4=>?_};refine{Y0,S4,_,Zf,a4,s4,r4,λc S5 H5 r5 s5 k5=>?_,.f};cases c with|true=>rw[if_pos rfl]at r5⊢;exact{Y0,S5,_,Zf,a4.ts k5,s5,r5,λd S6 v H6 r6 v6 s6 k6=>{_,by omega,rfl,eB,ds++[d],S6,(RvAll.ts (((k3.trans k4).trans k5).trans k6) _ v2).app<|aT v6 bt,s6,r6,(((k2.trans k3).trans k4).trans k5).trans k6},.f}|false=>rw[if_neg zd]at r5⊢;exact{_,by omega,rfl,eB,ds,S5,RvAll.ts ((k3.trans k4).trans k5) _ v2,s5,r5,((k2.trans k3).trans k4).trans k5}
 have e:i=I.xs.length:=by omega
 subst e;exact .inl {ok.2<|zq _,λp hp=>(hR.kp<|k1.trans k2).new s2 hp (pend _ _ p2 p) v2}
noncomputable def Ev.none(X:Cx)(h:X.xe=λ_ _=>False):Ev X false:={X.pn,X.xe,λ_=>E0,{by rintro p2 τ H s e s' _ ⟨_,_,_,_,_,_,_,_,_,z⟩;exact z.elim,λe=>(by cases e),λe=>(by cases e)}}
section
variable{K:Frag}{X:Cx}{b:Bool}{N:j4}{src:ul}{scope:Scope}{tg iter elt:Expr}{ifs:li}{pos:Pos}{ti:A7}{g:TG}{gd:A6}{tc:mw}{te:TD}
structure UG(K:Frag)(X:Cx)(ifs:li)(t:mw):Prop where
 of:∀{b:Bool}(y:Ev X b),Ut y.cx ifs<|Tt K y.E t
def mP:mw:=λ_ S R _=>R true S
theorem rn:UG K X [] mP:=⟨λy pins s τ H Q I ⟨σ,S,R,Z,aC,hS,q,hR,hZ⟩=>MQ pins s τ H Q I<|hR true S H q hS<|.refl _⟩
theorem if1{t:mw}(h:DT K X c t):UG K X [c] t:=⟨λy=>MR<|h.of y⟩
theorem WV(S:bc X N src scope)(hit:DI K X tg iter ti)(hg:∀C s H ex pn,PG (gm X N scope C s H ex pn) tg g)(hx:C3 g src)(hgd:∀v τ H Q,Tg K gd v τ H Q->g v τ H Q)(hi:∀C s H ex pn,UG K (gm X N scope C s H ex pn) ifs tc)(he:∀C s H ex pn,DE K (gm X N scope C s H ex pn) elt te)(hs:autoParam (∀x,foldedSetIterable iter X.env x=pure x) qQ0)(hc:autoParam (X.calm=true) qQJ):DE K X (.ListComp elt [{tg,iter,ifs,0}] scope pos) (vK ti src gd tc te):=⟨λy=>(MT (X:=y.cx) (tc:=Tt K (λ_=>E0) tc) (te:=T K (λ_=>E0) te) ⟨S.kind,S.gF,S.loc,S.Cr,S.len,S.src⟩ hc (hit.of y) hg hx (λC s H ex pn=>(hi C s H ex pn).of<|.none _ rfl) (λC s H ex pn=>(he C s H ex pn).of<|.none _ rfl) hs).mono λ_ _ _ h=>h.comp hgd⟩
theorem stc(hN:X.N.Nodup)(S:bc X N src scope)(hit:DI K X tg iter ti)(hg:∀C s H ex pn,PG (gm X N scope C s H ex pn) tg g)(hx:C3 g src)(hgd:∀v τ H Q,Tg K gd v τ H Q->g v τ H Q)(hi:∀C s H ex pn,UG K (gm X N scope C s H ex pn) ifs tc)(he:∀C s H ex pn,DE K (gm X N scope C s H ex pn) elt te)(VZ:autoParam (X.N[i]?=some x) qQJ)(wR:autoParam (X.env.scope.names.lookup x=some .local) qQJ)(V0:autoParam (swapsWith (.ListComp elt [{tg,iter,ifs,0}] scope pos) (some<|.Name x pos') Hb.line X.env=pure true) qQJ)(hs:autoParam (∀x,foldedSetIterable iter X.env x=pure x) qQ0)(hc:autoParam (X.calm=true) qQJ):DS K X b (.Assign [.Name x pos'] (.ListComp elt [{tg,iter,ifs,0}] scope pos) Hb) (R4 i<|vK ti src gd tc te):=⟨λy=>(C4 (X:=y.cx) (i:=i) (tc:=Tt K (λ_=>E0) tc) (te:=T K (λ_=>E0) te) hN VZ wR ⟨S.kind,S.gF,S.loc,S.Cr,S.len,S.src⟩ hc (hit.of y) hg hx (λC s H ex pn=>(hi C s H ex pn).of<|.none _ rfl) (λC s H ex pn=>(he C s H ex pn).of<|.none _ rfl) V0 hs).mono <| by rintro D τ H ⟨σ,S,De,Z,aC,hS,q,hD,hZ⟩;exact T.comp hgd {σ,S,_,_,aC,hS,q,λd S1 v H1 r1 v1 s1 k1=>hD.nx _ _ _ _ r1 ((aC.ts k1).set i v1) s1 k1,hZ.at aC}⟩
theorem Fl:∀v τ H Q,Tg K (UE i) v τ H Q->iU i v τ H Q:=by rintro v τ H Q ⟨d,σ,S,R,rv,aC,hS,q,hR⟩;exact hR _ S _ H q (aC.set i rv) hS<|.refl _
end
structure xa(K:Frag)(x qual:Str)(st:Stmt)(f:Addr)(fd:FuncData):Prop where
 ex:∃(oc:Value)(od:pi)(dV kV doc pm:Value)(an:pi)(gT ct:Value)(Q7:sB),
  fd=fnOf x qual (aZ st) (aX st) (ai st) dV kV doc pm an gT ct/\K.lookup f=some {oc,od,.func fd,Q7}/\codeIn K gT qual=true
noncomputable def jz(N:j4)(ds:List D):SD:=ds.map some++List.replicate (N.length-ds.length) none
section
variable{i:Nat}{P:Program}{w:World}{K:Frag}{mg:Str->Option Value}{base:Heap}
theorem xa.okD{x qual:Str}{st:Stmt}{f:Addr}{fd:FuncData}{N ps:j4}{k:Nat}{sp:rj}(F:xa K x qual st f fd)(S:gk N ps<|ai st)(len:∀ds S R Z,sp ds S R Z->ds.length=ps.length)(mD:∀(gT:Value)(A:Around)(outer:jp)(s:Shared)(H:Hp)(E:XK)(ds:List D)(S:aq)(R:KD)(Z:KX),bO k (A.deeper<|envOfC qual (ai st) s.heap.objs.size f gT)->sp ds S R Z->∃t,IB K (kC (fG P w mg) P w K mg base N qual (ai st) f gT A outer s H E) true (aX st) t/\t {nx:=λ_ S'=>R .av S',rt:=R} (jz N ds) S λ_=>Z):bG P w K mg base (fG P w mg) (k+1) f fd ps (rl K sp):=by
 obtain⟨oc,od,dV,kV,doc,pm,an,gT,ct,Q7,rfl,lk,uh⟩:=F.ex;have dy:ps.length<=N.length:=by have:=congrArg List.length S.pre;rw[ym]at this;lia
 refine O7 lk uh S (by rintro vs H Q E ⟨ds,S',R,Z,v,_,h,_⟩;exact by rw[v.len];exact len _ _ _ _ h) λA outer s H vs Q E hr ⟨ds,S',R,Z,v,hS,h,hR,hZ⟩=>?_;obtain⟨t,ht,q⟩:=mD gT A outer s H E ds S' R Z hr h;have L:dh (kC (fG P w mg) P w K mg base N qual (ai st) f gT A outer s H E) E:=vG;let y:Ev (kC (fG P w mg) P w K mg base N qual (ai st) f gT A outer s H E) true:={_,(kC (fG P w mg) P w K mg base N qual (ai st) f gT A outer s H E).xe,λ_=>E,{λp2 τ H1 s1 e s' I h=>Pd L p2 τ H1 s1 e s' I h,λ_ p2 τ H1 s1 h' a cls args I hx he=>pS L I hx he,λ_=>PassesOwn.leaving}};refine{Tl K (λ_=>E) t,ht.of y,jz N ds,S',_,λ_=>Z,?_,hS,q,{λσ S1 τ H1 r a b c=>hR.kp c |>.now b r jw,hR,λ_ _ _ _ z=>z.elim,λ_ _ _ _ z=>z.elim},λσ τ C S1 H1 z a b c=>hZ C S1 H1 z b c};unfold jz start;refine(sD v).app ?_;rw[v.len];exact sC _ _<|by rw[List.length_replicate]
theorem bG.Nx(F:bG P w K mg base (fG P w mg) k f fd ps<|rl K sp)(h:∀ds S R Z,YI ds S R Z->sp ds S R Z):bG P w K mg base (fG P w mg) k f fd ps (rl K YI):=F.imp <| by rintro vs H Q E ⟨ds,S,R,Z,a,b,c,d⟩;exact{ds,S,R,Z,a,b,h _ _ _ _ c,d}
theorem bG.calm(F:bG P w K mg base (fG P w mg) k f fd ps sp):bG P w K mg base YL k f fd ps λvs H Q _=>sp vs H Q E0:=by refine{λvs H Q E h=>F.len vs H Q E0 h,λA outer s H args us vs Q E hr e0 hb r h=>yW (F.run A outer s H args us vs Q E0 hr e0 hb r h) λres s' q=>?_};cases res with|error e=>(obtain⟨_,_,_,_,_,_,_,_,_,z⟩:=q;exact z.elim)|ok fl=>cases fl<;>exact q
noncomputable def vJ.less(De:vJ)(i:Nat):vJ:={nx:=λσ S=>De.nx (σ.set i none) S,rt:=De.rt,bk:=λσ S=>De.bk (σ.set i none) S,ct:=λσ S=>De.ct (σ.set i none) S}
end
theorem vL{P:Program}{w:World} : ∀{ss:j4}{vs:dL},vs.length=ss.length->(∀(j:Nat)(v:Value),vs[j]?=some v->∃x,ss[j]?=some x/\keyIs (.inr x) v=true)->StrsAre vs ss|[],[],_,_=>.nil|[],_::_,h,_=>by simp at h|_::_,[],h,_=>by simp at h|x::ss,v::vs,h,k=>by obtain⟨x',e,q⟩:=k 0 v rfl;cases e;rcases bA q with⟨i,t,e,_⟩|⟨y,t,e,rfl⟩;cases e;cases e;exact .cons x t<|vL (P:=P) (w:=w) (by simpa using h) λj v e=>k (j+1) v<|by simpa using e
theorem vM:∀{vs:dL}{ss:j4},StrsAre vs ss->Vals (ss.map V.str) vs|_,_,.nil=>.nil|_,_,.cons y t h=>.cons ⟨t,rfl⟩<|vM h
theorem KV.aby{κ:Type}{kvs:List<|κ×V}{vs:List<|κ×Value}(h:KV kvs vs):vs.map (·.1)=kvs.map (·.1):=by unfold KV at h;induction h with|nil=>rfl|cons r t ih=>rw[zC,zC,ih,r.1]
theorem JT{prog:Program}{w:World}{A:Around}{E:lc}{s:Shared}{T:String}{r d:Addr}{n:Nat}{P:Nat->Value->Prop}{OK:Heap->Prop}{R:List Value->Shared->Prop}(K:PySem.W.KdlSrc prog w T r d n P OK)(hh:A.handled=none)(aN:OK s.heap)(hn:n<=sizeLine)(h:∀(h':Heap) (tk:Nat) (acc:ii),(∀b o,s.heap.get? b=some o->h'.get? b=some o)->s.heap.objs.size<=h'.objs.size->ItemsOf P acc n->R acc.toList {s with heap:=h',toks:=tk}): wpAny (model prog w) A (collect<|.ref r) R E s:=by have eB:=K.there _ aN;unfold collect;refine zc<|wpAny_runValue<|yR entry_proto_collect' ?_;rw[Around.under_plainId PySem.F.plain_proto_collect _];show wpAny _ A.in1 (newList [] >>=λl=>again<|.builtin "list.__iadd__" {[l,.ref r],[]}) _ _ s;refine zc<|yH ?_;refine zA {plainId_quiet PySem.F.plain_list_iadd _,yR entry_list_iadd' ?_};rw[Around.under_plainId PySem.F.plain_list_iadd _];have WW:(s.heap.push {cls:=.type "list",data:=.seq ([]:dL).toArray}).get? s.heap.objs.size=some {cls:=.type "list",data:=.seq #[]}:=zk _ rfl;show wpAny _ A.in1 (Builtin.List.listExtendWith (.ref s.heap.objs.size) (.ref r)<|.ref s.heap.objs.size) _ _ _;have key:=PySem.W.kdl_extend (A:=A) (s:={s with heap:=s.heap.push {cls:=.type "list",data:=.seq ([]:dL).toArray}}) (R:=λ(q:Result) (s':Shared)=>∃(h':Heap) (tk:Nat) (A9:ii) (c':Nat),q=.ok (.ret<|.ref s.heap.objs.size)/\s'={s with heap:=h',toks:=tk}/\(∀b o,s.heap.get? b=some o->h'.get? b=some o)/\h'.get? s.heap.objs.size=some {cls:=.type "list",dict:=none,data:=.seq A9 c',slots:=#[]}/\ItemsOf P A9 n) K hh (K.keep _ _ aN λb _ o e=>za _ e) s.heap.objs.size (yp eB.1) (yp eB.2) (.ref s.heap.objs.size) 0 WW (λh' tk A9 c' hk rq sj=>{h',tk,A9,c',rfl,rfl,λb o e=>hk b o (zG<|zB e)<|za _ e,rq,sj}) hn;refine yw key (λfin s' x=>?_) λe s' x=>?_;{cases fin with|done f=>(obtain⟨h',tk,A9,c',e,rfl,hk,rq,sj⟩:=x;cases e;show wpAny _ A (load s.heap.objs.size >>=_) _ _ _;exact zc<|wpAny_load rq<|zA<|h h' tk A9 hk (yP<|zB rq) sj)|again c₁=>refine{x.1,yW x.2 λq bB y=>?_};obtain⟨h',tk,A9,c',rfl,rfl,hk,rq,sj⟩:=y;show wpAny _ A (load s.heap.objs.size >>=_) _ _ _;exact zc<|wpAny_load rq<|zA<|h h' tk A9 hk (yP<|zB rq) sj};obtain⟨_,_,_,_,e',_⟩:=x;cases e'
theorem xb{X:Cx}(hc:X.calm=true):fh X (.builtin "sorted") (λxs H Q=>∃(a:Addr)(kvs:List (Key×V))(ss:j4),xs=[.ref a]/\H a=some (.dK kvs)/\kvs.map (·.1)=ss.map Sum.inr/\kvs.length<64/\∀Fm,Fm.Perm ss->sortedS Fm=true->∀l,H l=none->Q (.ref l) (upd H l<|.lst<|Fm.map V.str)):=by
 intro pins s σ H xs us Q I r h;obtain⟨a,kvs,ss,rfl,e,hk,hl,q⟩:=h;obtain⟨u,rfl,ru⟩:=vals1 r;cases ru;obtain⟨z,hd,vs,rel,dd⟩:=AK I.aN e;obtain⟨ep,Y1⟩:=dd.dictAt;have hlen:vs.length<64:=by rw[<-rel.length];exact hl
 have hh:=I.ok.hd hc;refine PySem.Calls.call_function_entry kind_sorted plain_sorted entry_sorted (args_sorted1 _) ?_;unfold Builtin.«sorted»;refine zc (m:=checkCount "sorted" 1 1 _)<|zA ?_;refine zc<|JT (A:=X.A.in1) (PySem.W.kdl_dict (knd:=aH X.prog X.w) (kvs:=vs) (ep:=ep) hd) hh Y1 (by rw[yf];omega) λh' tk acc Pt hB sj=>?_;have Rl:acc.toList.length=vs.length:=by rw[yu];exact sj.1
 refine zc<|wpAny_newList ?_ (by rw[Rl,yf];omega);have hS:StrsAre acc.toList ss:=by have hkv:=rel.aby;refine vL (P:=X.prog) (w:=X.w) (by rw[Rl,<-rel.length];have:=congrArg List.length hk;simpa using this) λj v ev=>?_;obtain⟨k,x,e1,e2⟩:=sj.2 j v (by rw[<-Array.getElem?_toList];exact ev);have e3:(vs.map (·.1))[j]?=some k:=(by rw[zh,e1];rfl);rw[hkv,hk,zh]at e3;cases q2:ss[j]? with|none=>(rw[q2]at e3;cases e3)|some y=>rw[q2]at e3;cases e3;exact⟨y,rfl,e2⟩
 have Ir:(h'.push<|seqObj "list" acc.toList.toArray 0).get? h'.objs.size=some (seqObj "list" acc.toList.toArray 0):=zk _ rfl;show wpAny _ _ _ _ _ {s with heap:=h'.push<|seqObj "list" acc.toList.toArray 0,toks:=tk};refine zc<|yM<|yN slot_list_sort {_,Ir,rfl} entry_list_sort (list_sort_treeK (s:={s with heap:=h'.push<|seqObj "list" acc.toList.toArray 0,toks:=tk}) strKind_oneLt Ir hS.keysOf (λoG oH rest e=>keyKind_strs<|by rw[<-e];exact hS) (by rw[Rl];exact hlen) λe_ hp hs=>!⟨?_⟩)<|args_list_sort _;refine zA !⟨?_⟩;obtain⟨Fm,h1,h2,h3⟩:=sorted_out_str hS hp hs;obtain⟨e1,he1⟩:=sortedHeap_at (vs:=acc.toList) (n:=0) (out:=(arrOf e_).map (·.2)) Ir;have WX:Fm.length<=sizeLine:=by rw[h2.length_eq,yf];have:=congrArg List.length hk;rw[zb,zb]at this;omega
 refine{.ref h'.objs.size,_,I.laid (a:=h'.objs.size) (o:=.lst<|Fm.map V.str) (λb u hb=>?_) hB {by rw[zb];exact WX,_,e1,vM h1,he1},rfl,q Fm h2 h3 _<|I.aN.fresh hB};have eB:=zB<|Pt b u hb;rw[sortedHeap_old (zG eB)<|by rw[yd];exact Nat.lt_succ_of_lt eB,za _<|Pt b u hb]
section
variable{K:Frag}
def Ny:List D->aq->KD->Prop:=λds S R=>∃(a:Addr)(kvs:List (Key×D))(ss:j4),ds=[.ref a]/\S a=some (.bY kvs)/\kvs.map (·.1)=ss.map Sum.inr/\kvs.length<64/\∀Fm,Fm.Perm ss->sortedS Fm=true->∀p,S p=none->R (.ref p) (S.set p<|.lst<|Fm.map D.str)
theorem bM.keys{κ:Type}{H:Hp}{ks:List<|κ×D}{vs:List<|κ×V}(h:bM K H ks vs):vs.map (·.1)=ks.map (·.1):=by unfold bM at h;induction h with|nil=>rfl|cons r t ih=>rw[zC,zC,ih,r.1]
theorem A_:iZ K (.builtin "sorted") Ny:=by rintro X hK hc pins s σ H xs us Q I rx ⟨ds,S,R,r,hS,⟨a,kvs,ss,e,e1,hk,hl,h⟩,hR⟩;subst e;obtain⟨v,rfl,r1⟩:=r.one;obtain⟨vs,e2,t⟩:=hS.bY e1;exact xb hc pins s σ H _ us Q I rx {a,vs,ss,by rw[r1.ref],e2,by rw[t.keys];exact hk,by rw[t.len];exact hl,λFm p1 p2 l hl=>hR.new hS hl (h Fm p1 p2 l)<|wZ Fm}
end
def Pu(K:Frag)(a:Addr)(n:Nat):It:={λi H=>∃xs x,jk K H a xs/\xs.length=n/\i<n/\xs[n-1-i]?=some x,λi H x H'=>H'=H/\∀xs,jk K H a xs->xs.length=n->xs[n-1-i]?=some x,λi _=>n<=i}
theorem JU{P:Program}{w:World}{K:Frag}{tg:Expr}(a it:Addr)(n:Nat):Turn P w K tg (Pu K a n) [it] it (λi h=>i<=n/\h.IsRevIter it a ((n:Int)-1-(i:Int))) where
 mem:=by simp
 obj:=λi h st b hb=>by
  have e:b=it:=by simpa using hb
  subst e
  obtain⟨_,o,e,c,d⟩:=st
  exact{o,e,λv z=>by rw[d]at z;cases z}
 keep:=λi h h' st k=>{st.1,st.2.at λo e=>k it (by simp) o e}
 item:=by
  intro X hP hw hK hc i pins s σ H E I hf st hg
  subst hP hw hK
  obtain⟨xs,x,hq,hn,hi,hx⟩:=hg
  obtain⟨ay,rv,p,hz⟩:=I.list hq
  obtain⟨u,hu,ru⟩:=rv.get hx
  obtain⟨f0,f1,f2,f3,f4,f5⟩:=hf it<|by simp
  have e:(n:Int)-1-(i:Int)=((n-1-i:Nat):Int):=by lia
  have hit:=st.2
  rw[e]at hit
  refine wpAny_pyNext_rev_item hit p.isList (x:=u) (by simpa using hu) λh' e_ sb=>?_
  have I1:Inv X pins σ H {s with heap:=h'}:=I.turned (t':=s.toks) (λb o hb e=>(sb.2 b hb).trans e) f0 f1 f3 f4 f5
  obtain⟨o,e1,c,d⟩:=id e_
  refine{u,rfl,vg (s:={s with heap:=h'}) e1 c d (by decide) {x,H,I1,ru,{rfl,λys hy _=>by rw[I.AE hy hq];exact hx},{hi,?_},λb hb=>(hf b hb).1}}
  have e2:(n:Int)-1-((i+1:Nat):Int)=((n-1-i:Nat):Int)-1:=by lia
  rw[e2];exact e_
 done:=by
  intro X hP hw hK hc i pins s σ H E I hf st hg
  subst hP hw hK
  obtain⟨f0,f1,f2,f3,f4,f5⟩:=hf it<|by simp
  have hg:n<=i:=hg
  have e:(n:Int)-1-(i:Int) = -1:=by have:=st.1;lia
  have hit:=st.2
  rw[e]at hit
  exact wpAny_pyNext_rev_end (I.ok.hd hc) hit λh' eb=>{rfl,I.turned (t':=s.toks) (λb o hb e=>eb b o hb e) f0 f1 f3 f4 f5}
 self:=λ_ _ _ _ _ st h=>wpAny_pyIter_revIter st.2 h
def abz(K:Frag)(ta:TA):TI:=λσ H R=>ta σ H λvs H1=>∃a xs,vs=[.ref a]/\jk K H1 a xs/\R (Pu K a xs.length) H1
theorem Sa{X:Cx}{tg a:Expr}{ta:TA}{p pos:Pos}(hg:Gl X "reversed")(hm:X.mg "reversed"= none)(ha:PA X [a] ta)(hs:starEach [a] X.env=[(false,eval a X.env)]):PI X tg (.Call (.Name "reversed" p) [a] [] pos) (abz X.K ta):=by
 intro pins s σ H R I h;refine Call_<|gC I hg hm boot_reversed<|PyProof.Rows.callWith_type1 (bb (ha pos pins s σ H _ I h) λus s1 ⟨vs,H1,I1,r1,q1⟩=>?_) hs rfl;obtain⟨l,xs,e,q,hR⟩:=q1;subst e;obtain⟨u,rfl,ru⟩:=vals1 r1;cases ru;obtain⟨ay,rv,pl,hz⟩:=I1.list q;have hn:ay.toArray.size=xs.length:=by rw[zt,rv.length]
 refine call_reversed_list pl.isList ?_;rw[hn];have st:(s1.heap.push<|revObj l<|(xs.length:Int)-1).IsRevIter s1.heap.objs.size l ((xs.length:Int)-1-((0:Nat):Int)):={_,zk _ rfl,rfl,by show Data.fields _=Data.fields _;simp};have I2:Inv X pins σ H1 {s1 with heap:=s1.heap.push<|revObj l<|(xs.length:Int)-1}:=I1.kept (t':=s1.toks) λb o e=>za _ e;refine wpAny_pyIter_revIter st {_,_,_,_,H1,rfl,I2,JU l s1.heap.objs.size xs.length,{zV _,st},λb hb=>?_,hR};have hb:b=s1.heap.objs.size:=by simpa using hb
 subst hb;exact I1.qz (zq _)<|I1.aN.fresh<|zq _
section
variable{K:Frag}{X:Cx}{tg:Expr}
def WY(t:je):A7:=λσ S R Z=>t σ S (λds S1=>∃x es,ds=[x]/\vI S1 x es/\R {es.reverse,λS=>vI S x es} S1) Z
theorem irv{t:je}(hm:X.mg "reversed"= none)(ha:DA K X [a] t)(hg:autoParam (Gl X "reversed") qQJ)(hs:autoParam (starEach [a] X.env=[(false,eval a X.env)]) qQJ)(hK:autoParam (X.K=K) qQJ):DI K X tg (.Call (.Name "reversed" p) [a] [] pos) (WY t):=by subst hK;exact⟨λy=>(Sa (X:=y.cx) hg hm (ha.of y) hs).mono <| by rintro τ H R ⟨σ,S,RI,Z,aC,hS,q,hR,hZ⟩;exact{σ,S,_,Z,aC,hS,q,by rintro ds S1 vs H1 ⟨x,es,e,h1,r1⟩ v1 s1 k1;subst e;obtain⟨v,rfl,r⟩:=v1.one;obtain⟨a,xs,rfl,hq,t⟩:=h1.at s1 r;refine{a,xs,rfl,hq,hR _ S1 _ H1 r1 (λi S2 H2 k2 s2 YZ=>?_) s1 k1};obtain⟨a',R7,e',Cu,t'⟩:=vI.at YZ s2<|Rv.ts k2 _ r;cases e';have hl:xs.length=es.length:=t.len;have hl':R7.length=es.length:=t'.len;refine{λd hd=>?_,λh=>by rw[zP]at h;show xs.length<=i;lia};have hi:i<es.length:=(by have:=(zf.mp hd).1;rwa [zP]at this);rw[List.getElem?_reverse hi]at hd;obtain⟨v,e1,r⟩:=t'.get hd;rw[<-hl]at e1;refine{{R7,v,Cu,by lia,by lia,e1},λx' H' ⟨e2,e3⟩=>?_};subst e2;have:=e3 R7 Cu (by lia);rw[e1]at this;cases this;exact{r,.refl _,s2},hZ}⟩
noncomputable def cC(xs ys:List D):List D:=List.zipWith (λa b=>D.tup [a,b]) xs ys
def WZ(t:je):A7:=λσ S R Z=>t σ S (λds S1=>∃xs ys,ds=[.tup xs,.tup ys]/\xs.length=ys.length/\R {cC xs ys,λ_=>True} S1) Z
theorem rA:∀v τ H Q,Tg K (Pq 2<|DC (UE i)<|DC (UE j) Pp) v τ H Q->Mt K 2 (rP (iU i)<|rP (iU j) Ms) v τ H Q:=by rintro v τ H Q ⟨d,σ,S,R,rv,aC,hS,⟨ds,e,hl,a,r,e1,b,r',e2,e3,q⟩,hR⟩;subst e e1 e2 e3;obtain⟨p,xs,rfl,hp,t⟩:=rv.tup;obtain⟨v1,v2,rfl,r1,r2⟩:=t.two;exact{p,_,rfl,.of hp,rfl,v1,[v2],rfl,v2,[],rfl,rfl,hR _ S _ H q ((aC.set i r1).set j r2) hS<|.refl _}
end
section
variable{K:Frag}{X:Cx}{b:Bool}{pos:Pos}
def W0(tl ti tv:TD):mM:=λDe σ S Z=>tv σ S (λv S1=>tl σ S1 (λx S2=>ti σ S2 (λy S3=>∃a es i j,x=.ref a/\y=.int i/\S3 a=some (.lst es)/\I_ es.length i=some j/\De.nx σ (S3.set a<|.lst<|es.set j v))<|Z σ)<|Z σ)<|Z σ
theorem sls{o i value:Expr}{tl ti tv:TD}{pos':Pos}(ho:DE K X o tl)(hi:DE K X i ti)(hv:DE K X value tv)
  (ha:autoParam (∀v,assign (.Subscript o i pos') X.env v=(do
   let ov <-holding [v] (eval o X.env)
   let iv <-holding [v,ov] (eval i X.env)
   standAt pos'
   holding [v,ov,iv] (setItem ov iv v)
   release [v,ov,iv] [])) qQ0)
  (hs:autoParam (swapsWithSole [.Subscript o i pos'] value pos.line X.env=pure false) qQJ) (hw:autoParam (swappedStores [.Subscript o i pos'] value X.env=pure none) qQJ) (h1:autoParam ((assignEach [.Subscript o i pos'] X.env).map (·.2)=[assign (.Subscript o i pos') X.env]) qQJ):
  DS K X b (.Assign [.Subscript o i pos'] value pos) (W0 tl ti tv):=
 ⟨λy=>(IP (X:=y.cx) (hv.of y) (QK (ho.of y) (hi.of y) set_list ha) hs hw h1).mono <| by rintro D τ H ⟨σ,S,De,Z,aC,hS,q,hD,hZ⟩;exact
  ⟨σ,S,_,_,aC,hS,q,λv S1 vv H1 r1 v1 s1 k1=>⟨σ,S1,_,_,aC.ts k1,s1,r1,λx S2 xv H2 r2 v2 s2 k2=>⟨σ,S2,_,_,aC.ts<|k1.trans k2,s2,r2,by
   rintro y S3 yv H3 ⟨a,es,i,j,e1,e2,e3,e4,r3⟩ v3 s3 k3
   subst e1 e2
   obtain⟨xs,e5,t⟩:=s3.lst e3
   have kk:=s3.gI (o:=.lst<|xs.set j vv) e3
   refine{a,xs,i,j,(Rv.ts k3 _ v2).ref,v3.int,e5,by rw[t.len];exact e4,?_}
   exact hD.nx _ _ _ _ r3 (aC.ts<|((k1.trans k2).trans k3).trans kk) (s3.put (c:=.lst _) e3 {_,aE,RvAll.ts kk _<|t.set j<|Rv.ts (k2.trans k3) _ v1})<|((k1.trans k2).trans k3).trans kk,hZ.on (k1.trans k2)<|aC.ts<|k1.trans k2⟩,hZ.on k1<|aC.ts k1⟩,hZ.at aC⟩⟩
noncomputable def fH(z:Str):List D:=z.cps.toList.map λc=>D.str ⟨#[c]⟩
def Pw(t:TD):A7:=λσ S R Z=>t σ S (λx S1=>∃z,x=.str z/\R {fH z,λ_=>True} S1) Z
theorem Sb{t:TD}(h:DE K X l t):DI K X tg l (Pw t):=⟨λy=>(Rz (X:=y.cx)<|h.of y).mono <| by rintro τ H R ⟨σ,S,RI,Z,aC,hS,q,hR,hZ⟩;exact⟨σ,S,_,Z,aC,hS,q,by
 rintro x S1 v H1 ⟨z,e,r1⟩ v1 s1 k1;subst e;refine{z,v1.str,hR _ S1 _ H1 r1 (λi S2 H2 k2 s2 _=>{λd hd=>?_,λhl=>?_}) s1 k1};unfold fH at hd;rw[zh,Array.getElem?_toList]at hd;cases q:z.cps[i]? with|none=>(rw[q]at hd;cases hd)|some c=>rw[q]at hd;cases hd;refine{(Array.getElem?_eq_some_iff.mp q).1,λx' H' ⟨e1,c',e2,e3⟩=>?_};rw[q]at e2;cases e2;subst e1 e3;exact{cA _,.refl _,s2}
 unfold fH at hl;rw[zb,yu]at hl;exact hl,hZ⟩⟩
def Nz(t:TD):TD:=λσ S R Z=>t σ S (λx S1=>∃ss:j4,vI S1 x (ss.map D.str)/\ss.length<4000/\R (.int (iX ss).length) S1) Z
theorem lse{t:TD}(h:DE K X e t)(hm:X.mg "len"= none)(hm':X.mg "set"= none)(hp:autoParam (isPlain e=true) qQJ)(hg:autoParam (Gl X "len") qQJ)(hg':autoParam (Gl X "set") qQJ)(he:autoParam (starEach [e] X.env=[(false,eval e X.env)]) qQJ)(UH:autoParam (starEach [Expr.Call (.Name "set" p') [e] [] pos'] X.env=[(false,eval (.Call (.Name "set" p') [e] [] pos') X.env)]) qQJ)(hK:autoParam (X.K=K) qQJ)(hc:autoParam (X.calm=true) qQJ): DE K X (.Call (.Name "len" p) [.Call (.Name "set" p') [e] [] pos'] [] pos) (Nz t):=by subst hK;refine⟨λy=>(AI (X:=y.cx) (He (X:=y.cx) rfl rfl) hg hm aI (pa2 (vo (X:=y.cx) (Hd (X:=y.cx) rfl rfl rfl hc) hg' hm' RE (pa2 (h.of y) CQ hp) (by decide) (by decide) he rfl) CQ rfl) (by decide) (by decide) UH rfl).mono λτ H Q ⟨σ,S,R,Z,aC,hS,q,hR,hZ⟩=>?_⟩;refine{σ,S,_,Z,aC,hS,q,λx S1 v H1 ⟨ss,h1,hl,r1⟩ v1 s1 k1=>?_,hZ};obtain⟨a,xs,rfl,hq,t⟩:=h1.at s1 v1;rw[t.strs]at hq;exact{a,ss,rfl,hq,hl,λl hl=>{l,ss,rfl,aE,hR _ _ _ _ r1 (aP _) (s1.grow hl)<|k1.trans<|.new hl}}
end
theorem fB:bootBuiltins "sorted"= some (.builtin "sorted"):=by trivial
def Sub(S S':aq):Prop:=∀b c,S b=some c->S' b=some c
theorem Sub.refl(S:aq):Sub S S:=λ_ _ h=>h
theorem Sub.trans(a:Sub S S1)(b:Sub S1 S2):Sub S S2:=λp c h=>b p c<|a p c h
theorem Sub.new(h:S p=none):Sub S (S.set p c):=λb c' hb=>by rw[ae<|gU hb h];exact hb
theorem Rs.sub{K:Frag}{S S':aq}{H:Hp}(h:Rs K S' H)(s:Sub S S'):Rs K S H:=λa c e=>h a c<|s a c e
inductive Fo(S':aq)(p:aq->Prop):Prop where
 |mk (S:aq)(h:Sub S S')(r:p S):Fo S' p
theorem fo(h:p S):Fo S p:={S,.refl S,h}
section
variable{P:Program}{w:World}{K:Frag}{mg:Str->Option Value}{base:Heap}
theorem xa.ok{x qual:Str}{st:Stmt}{f:Addr}{fd:FuncData}{N ps:j4}{k:Nat}{sp:rj}(F:xa K x qual st f fd)(S:gk N ps<|ai st)(len:∀ds S R Z,sp ds S R Z->ds.length=ps.length)(mD:∀(gT:Value)(A:Around)(outer:jp)(s:Shared)(H:Hp)(E:XK)(ds:List D)(S:aq)(R:KD)(Z:KX),bO k (A.deeper<|envOfC qual (ai st) s.heap.objs.size f gT)->sp ds S R Z->∃t,IB K (kC (fG P w mg) P w K mg base N qual (ai st) f gT A outer s H E) true (aX st) t/\t {nx:=λ_ S'=>Fo S'<|R .av,rt:=λd S'=>Fo S'<|R d} (jz N ds) S λ_ C S'=>Fo S'<|Z C):bG P w K mg base (fG P w mg) (k+1) f fd ps (rl K sp):=by
 have F2:bG P w K mg base (fG P w mg) (k+1) f fd ps (rl K λds S R' Z'=>∃R Z,sp ds S R Z/\R'=(λd S'=>Fo S'<|R d)/\Z'=λC S'=>Fo S'<|Z C):=by refine F.okD S (by rintro ds S R Z ⟨R0,Z0,h,_⟩;exact len _ _ _ _ h) λgT A outer s H E ds S R Z hr ⟨R0,Z0,h,e1,e2⟩=>?_;subst e1 e2;exact mD gT A outer s H E ds S R0 Z0 hr h
 refine F2.imp <| by rintro vs H Q E ⟨ds,S,R,Z,v,hS,h,hR,hZ⟩;exact{ds,S,_,_,v,hS,⟨R,Z,h,rfl,rfl⟩,by rintro d S' u H' ⟨S2,sb,r⟩ rv rs kp;exact hR d S2 u H' r rv (rs.sub sb) kp,by rintro C S' H' ⟨S2,sb,r⟩ rs kp;exact hZ C S2 H' r (rs.sub sb) kp}
end
section
variable{K:Frag}{X:Cx}{b:Bool}
def W2(t:mM):mM:=λDe σ S Z=>∃P:SD->aq->Prop,t {De with nx:=λaG S'=>Fo S'<|P aG} σ S Z/\∀aG S',P aG S'->De.nx aG S'
theorem Ba{st:Stmt}{t:mM}(h:DS K X b st t):DS K X b st (W2 t):=⟨λy=>(h.of y).mono <| by rintro D τ H ⟨σ,S,De,Z,aC,hS,⟨P,q,hP⟩,hD,hZ⟩;exact{σ,S,_,Z,aC,hS,q,{by rintro Aq S1 τ1 H1 ⟨S2,sb,r1⟩ a b c;exact hD.nx _ _ _ _ (hP _ _ r1) a (b.sub sb) c,hD.rt,hD.bk,hD.ct},hZ}⟩
def dFo(t:TD):TD:=λσ S R Z=>t σ S (λd S'=>Fo S'<|R d) Z
theorem uG{t:TD}(h:DE K X e t):DE K X e (dFo t):=⟨λy=>(h.of y).mono <| by rintro τ H Q ⟨σ,S,R,Z,aC,hS,q,hR,hZ⟩;exact{σ,S,_,Z,aC,hS,q,by rintro d S' v H' ⟨S2,sb,r⟩ rv rs kp;exact hR d S2 v H' r rv (rs.sub sb) kp,hZ}⟩
theorem cg1(nd:N.Nodup)(h0:autoParam (N[0]?=some a) qQJ)(hx:autoParam (∀C s H ex pn,Loc (gm X N scope C s H ex pn).env.scope a/\(gm X N scope C s H ex pn).env.scope.names.lookup a=some .local) qJX): ∀C s H ex pn,PG (gm X N scope C s H ex pn) (.Name a p) (iU 0):=λC s H ex pn=>qZ (i:=0) nd h0 (hx C s H ex pn).1<|.inr (hx C s H ex pn).2
theorem Y2(nd:N.Nodup)(h0:autoParam (N[0]?=some a) qQJ)(h1:autoParam (N[1]?=some c) qQJ)(hx:autoParam (∀C s H ex pn,Loc (gm X N scope C s H ex pn).env.scope a/\(gm X N scope C s H ex pn).env.scope.names.lookup a=some .local) qJX)(hy:autoParam (∀C s H ex pn,Loc (gm X N scope C s H ex pn).env.scope c/\(gm X N scope C s H ex pn).env.scope.names.lookup c=some .local) qJX)(hl:∀env:Env,(assignEach [.Name a p,.Name c p'] env).length=2/\(assignEach [.Name a p,.Name c p'] env).findIdx? (·.1)=none/\(assignEach [.Name a p,.Name c p'] env).map (·.2)=assign (.Name a p) env::(assignEach [.Name c p'] env).map (·.2)/\(assignEach [.Name c p'] env).map (·.2)=assign (.Name c p') env::(assignEach [] env).map (·.2):=by intro _;exact⟨rfl,rfl,rfl,rfl⟩)(hK:autoParam (X.K=K) qQJ)(hc:autoParam (X.calm=true) qQJ): ∀C s H ex pn,PG (gm X N scope C s H ex pn) (.Tuple [.Name a p,.Name c p'] j p2) (Mt K 2<|rP (iU 0)<|rP (iU 1) Ms):=λC s H ex pn=>by subst hK;have e:=hl (gm X N scope C s H ex pn).env;exact IM (X:=gm X N scope C s H ex pn) hc (rQ (qZ (i:=0) nd h0 (hx C s H ex pn).1<|.inr (hx C s H ex pn).2) (rQ (qZ (i:=1) nd h1 (hy C s H ex pn).1<|.inr (hy C s H ex pn).2) EW e.2.2.2) e.2.2.1) e.1 e.2.1
end
theorem sG:∀{ss:j4}{ay:dL},Vals (ss.map V.str) ay->StrsAre ay ss|[],_,.nil=>.nil|z::ss,_,.cons r t=>by obtain⟨tk,rfl⟩:=r;exact .cons z tk<|sG t
end L2
namespace HT
open PySem PySem.Spec PyProof.Rows
end HT
namespace L2
open PySem PySem.Spec PyProof.Rows
inductive JV(S:aq):List D->List PyData->Prop where
 |nil:JV S [] []
 |cons {d:D}{p:PyData}{ds:v0}{ps:u8} : Dl S d p->JV S ds ps->JV S (d::ds) (p::ps)
section
variable{K:Frag}
noncomputable def Fn(p:Str×D):D:=.tup [.str p.1,p.2]
noncomputable def fI(l:wl):wf:=l.foldl (λc p=>dput c (.inr p.1) p.2) []
theorem Fp:∀{kvs:wl}{ys:cr},RvAll K H (kvs.map Fn) ys->∃kv:ge,Prs H ys kv/\∀c c',bM K H c c'->bM K H (kvs.foldl (λc p=>dput c (.inr p.1) p.2) c) (kv.foldl (λc p=>putK c (.inr p.1) p.2) c')|[],ys,h=>(by rw[h.nil];exact{[],{rfl,λi x p e=>(by cases i<;>cases e)},λc c' h=>h})|p::kvs,ys,h=>by obtain⟨y,ys,rfl,r1,r2⟩:=h.cons;obtain⟨b,zs,rfl,hb,tz⟩:=Rv.tup<|show Rv K H (.tup [.str p.1,p.2]) y from r1;obtain⟨v,u,rfl,rv,ru⟩:=tz.two;have ev:=rv.str;subst ev;obtain⟨kv,⟨hl,hp⟩,hf⟩:=Fp r2;refine{(p.1,u)::kv,{by rw[zQ,zQ,hl],λi x q e1 e2=>?_},λc c' h=>hf _ _<|h.put (.inr p.1) ru};cases i with|zero=>(cases e1;cases e2;exact⟨b,rfl,hb⟩)|succ i=>exact hp i x q e1 e2
def W3:List D->aq->KD->Prop:=λds S R=>∃kvs:wl,ds=[.tup<|kvs.map Fn]/\∀p,S p=none->R (.ref p) (S.set p<|.bY<|fI kvs)
theorem JW:iZ K (.type "dict") W3:=by rintro X hK hc pins s σ H xs us Q I rx ⟨ds,S,R,r,hS,⟨kvs,e,h⟩,hR⟩;subst hK e;obtain⟨v,rfl,r1⟩:=r.one;obtain⟨a,ys,rfl,q,t⟩:=r1.tup;obtain⟨kv,hp,hf⟩:=Fp t;refine C9 hc pins s σ H _ us Q I rx {a,ys,kv,rfl,q,hp,λl hl=>?_};have kn:Kp X.K H (upd H l<|.dK<|Fd kv):=.new hl;exact hR _ _ _ _ (h l<|hS.fresh hl) (gH l) (hS.new (c:=.bY<|fI kvs) hl {_,aE,(hf [] [] .nil).ts kn}) kn
theorem Bb(kvs:wf)(k k':Key)(d:D):bP (dput kvs k d) k'=if k'=k then some d else bP kvs k':=by
 unfold dput;by_cases hk:(kvs.any λkv=>decide<|kv.1=k)=true;rw[if_pos hk];unfold bP;induction kvs with|nil=>(cases hk)|cons r kvs ih=>rw[zC,yc,yc];by_cases e:r.1=k;rw[if_pos e];by_cases e2:k'=k;rw[if_pos e2,show decide (r.1=k')=true from zr (e.trans e2.symm)];rfl;rw[if_neg e2,show decide (r.1=k')=false from zo λq=>e2<|q.symm.trans e];by_cases dk:(kvs.any λkv=>decide<|kv.1=k)=true;have:=ih dk;rw[if_neg e2]at this;exact this;have em:kvs.map (λkv=>if kv.1=k then (kv.1,d) else kv)=kvs:=(by(conv=>rhs;rw[<-List.map_id kvs]);refine zU λx hx=>?_;rw[if_neg λq=>dk<|List.any_eq_true.mpr {x,hx,zr q}];rfl);rw[em];rw[if_neg e];have dk:(kvs.any λkv=>decide<|kv.1=k)=true:=(by rw[yT,zo e,Bool.false_or]at hk;exact hk);by_cases e3:r.1=k';rw[zr e3,if_neg λq=>e<|e3.trans q];rw[zo e3];exact ih dk
 rw[if_neg hk];unfold bP;rw[List.find?_append];have hn:∀x∈kvs,x.1≠k:=λx hx q=>hk<|List.any_eq_true.mpr {x,hx,zr q};by_cases e:k'=k;subst e;rw[if_pos rfl,List.find?_eq_none.mpr λx hx=>by simp[hn x hx]];simp;rw[if_neg e];have:([(k,d)].find? λkv=>decide<|kv.1=k')=none:=by rw[yc,show decide (k=k')=false from zo λq=>e q.symm];rfl
 rw[this,Option.or_none]
theorem vN(l:wl)(z:Str):(bP (fI l)<|.inr z).isSome=l.any λp=>decide (p.1=z):=by
 have all:∀(l:wl)(c:wf),(bP (l.foldl (λc p=>dput c (.inr p.1) p.2) c)<|.inr z).isSome=((bP c<|.inr z).isSome||l.any λp=>decide<|p.1=z):=by intro l;induction l with|nil=>intro c;simp|cons p l ih=>intro c;rw[yQ,ih,Bb,yT];by_cases e:p.1=z;rw[if_pos<|by rw[e],zr e];simp;rw[if_neg λq=>e (yL q).symm,zo e];simp
 exact(all l []).trans<|by rfl
def W4(a:Addr)(kvs:ge):w4:=λx y S R=>∃z,x=.str z/\y=.ref a/\R (.bl (kvs.lookup z).isSome) S
theorem cmk{X:Cx}{a b:Expr}{ta tb:TD}{pos:Pos}{w:World}{ad:Addr}{kvs:ge}(d:Iy w K ad kvs)(ha:DE K X a ta)(hb:DE K X b tb)(hw:autoParam (X.w=w) qQJ)(hm:autoParam (behindInMarks .In b=false) qQ2)(hK:autoParam (X.K=K) qQJ): DE K X (.Compare a [.In] [b] pos) (RV (W4 ad kvs) ta tb):=by refine⟨λy=>(E1 (X:=y.cx) (r:=Lr K<|W4 ad kvs) ?_ (ha.of y) (hb.of y) hm).mono λ_ _ _ h=>h.op⟩;rintro pins s σ H x y' v u Q I rx ry ⟨d',e,S,R,r1,r2,hS,⟨z,e1,e2,h⟩,hR⟩;subst e1 e2;exact JC (X:=y.cx) hw hK pins s σ H x y' v u Q I rx ry {z,ad,kvs,r1.str,r2.ref,d,hR.now hS h<|bS _}
end
structure W5(k:Nat)(A:Around):Prop where
 dp:A.depth+3*k+5<recursionLimit
 un:A.units+16*k+200<cLine
structure FnH(P:Program)(w:World)(K:Frag)(mg:Str->Option Value)(base:Heap)(k:Nat)(f:Addr)(fd:FuncData)(ps:j4)(sp:rj):Prop where
 len:∀ds S R Z,sp ds S R Z->ds.length=ps.length
 run:∀(A:Around)(outer:jp)(s:Shared)(H:Hp)(args:Args)(us:dL)(vs:cr)(Q:VK),W5 k A->AG P w K mg base A outer s H->BindsTo s fd args (ps.zip us)->Vals vs us->rl K sp vs H Q E0 ->
  codeAny (model P w) A (.call (.ref f) args) (CR (fG P w mg) outer P w H s Q E0) s
def PEg(pre:Nat)(X:Cx)(e:Expr)(t:TE):Prop:=∀(pins:io)(s:Shared)(σ:St)(H:Hp)(Q:VK),Inv X pins σ H s->pre<=s.toks->t σ H Q->wpAny (model X.prog X.w) X.A (eval e X.env) (λu s'=>EP X pins σ Q u s'/\1<=s'.toks) X.xe s
structure DEg(pre:Nat)(K:Frag)(X:Cx)(e:Expr)(t:TD):Prop where
 of:∀{b:Bool}(y:Ev X b),PEg pre y.cx e<|T K y.E t
theorem abC{a b:Str}(h:a.cps.toList=b.cps.toList):a=b:=by obtain⟨⟨x⟩⟩:=a;obtain⟨⟨y⟩⟩:=b;cases h;rfl
end L2
namespace HT
open PySem PySem.Spec PyProof.Rows
end HT
namespace L2
open PySem PySem.Spec PyProof.Rows
section
variable{K:Frag}{X:Cx}
def W6:IA:=λx ds S R=>∃a es fs,x=.ref a/\ds=[.tup fs]/\S a=some (.lst es)/\es.length+fs.length<=sizeLine/\R .av (S.set a<|.lst<|es++fs)
theorem Hn:Pl K "list.extend" W6:=by rintro X hK pins s σ H x xs v us Q I rx rs ⟨d,ds,S,R,r1,r2,hS,⟨a,es,fs,e1,e2,e3,hl,h⟩,hR⟩;subst e1 e2;obtain⟨w0,rfl,q2⟩:=r2.one;obtain⟨zs,e5,t⟩:=hS.lst e3;obtain⟨p,ys,rfl,q,t2⟩:=q2.tup;exact Dq pins s σ H x _ v us Q I rx rs {a,p,zs,ys,r1.ref,rfl,e5,q,by rw[t.len,t2.len];exact hl,hR.put hS e3 h jw<|t.app t2}
end
section
variable{K:Frag}{X:Cx}{E:XK}
structure DEx(K:Frag)(X:Cx)(E:XK)(e:Expr)(t:TD):Prop where
 of:∀(y:Ev X true),y.E=(λ_=>E)->dh y.cx E->PE y.cx e (T K y.E t)
structure DAx(K:Frag)(X:Cx)(E:XK)(es:li)(t:je):Prop where
 of:∀(y:Ev X true),y.E=(λ_=>E)->dh y.cx E->PA y.cx es (Ta K y.E t)
structure DSx(K:Frag)(X:Cx)(E:XK)(b:mt)(t:mM):Prop where
 of:∀(y:Ev X true),y.E=(λ_=>E)->dh y.cx E->ET y.cx b (Tl K y.E t)
variable{N:j4}{src:ul}{scope:Scope}{tg iter elt:Expr}{ifs:li}{ti:A7}{g:TG}{gd:A6}{tc:mw}{te:TD}
end
open PySem.Builtin PySem.Builtin.Str
structure M3(X:Cx)(o:Expr)(m:Str)(apos:Pos)(e f g:Expr)(aO:Pos):Prop where
 base:attributeBase o m X.env (eval o X.env)=eval o X.env
 Iu:((backTo aO<|starEach [e,f,g] X.env).all (λx=>!x.1)&&(backToKw aO<|keywordEach [] X.env).all (λx=>x.1.isSome)
  && decide (([e,f,g]:li).length+([]:py).length+(if ([]:py).isEmpty then 0 else 1)<30))=true
 line:(apos.endLine==aO.line)=true
 trees:backTo aO (starEach [e,f,g] X.env)=[(false,eval e X.env),(false,eval f X.env),(false,eval g X.env)]
section
variable{X:Cx}{t:TE}
def PAg(pre:Nat)(X:Cx)(es:li)(t:TA):Prop:=∀(pos:Pos)(pins:io)(s:Shared)(σ:St)(H:Hp)(Q:List V->Hp->Prop),Inv X pins σ H s->pre<=s.toks->t σ H Q->wpAny (model X.prog X.w) X.A (spliced<|backTo pos<|starEach es X.env) (AP X pins σ Q) X.xe s
end
section
variable{K:Frag}{X:Cx}
structure DAg(pre:Nat)(K:Frag)(X:Cx)(es:li)(t:je):Prop where
 of:∀{b:Bool}(y:Ev X b),PAg pre y.cx es<|Ta K y.E t
end
structure Gh(a₀:Array Keyed)(g:Nat->Nat)(xs:Array Keyed):Prop where
 at_:∀k,k<a₀.size->xs[k]?=a₀[g k]?
 lt:∀k,k<a₀.size->g k<a₀.size
 inj:∀i j,i<a₀.size->j<a₀.size->g i=g j->i=j
def Log(κ:KeyKind)(a₀:Array Keyed)(i j:Nat):Prop:=κ.klt (KK κ a₀ i) (KK κ a₀ j)\/(KK κ a₀ i=KK κ a₀ j/\i<j)
def DH(κ:KeyKind)(a₀:Array Keyed)(g:Nat->Nat)(k:Nat):Prop:=∀i j,i<j->j<k->Log κ a₀ (g i) (g j)
def Y3(κ:KeyKind)(a₀:Array Keyed)(g:Nat->Nat)(k:Nat):Prop:=∀i j,i<j->j<k->Log κ a₀ (g j) (g i)
def Ho(g:Nat->Nat)(m n:Nat):Prop:=∀k,m<=k->k<n->g k=k
noncomputable def JX(g:Nat->Nat)(i j k:Nat):Nat:=if i<=k/\k<j then g (i+j-1-k) else g k
noncomputable def NA(g:Nat->Nat)(src l k:Nat):Nat:=if k=l then g src else if l<k/\k<=src then g (k-1) else g k
section
variable{κ:KeyKind}{a₀ xs:Array Keyed}{g:Nat->Nat}
theorem Log.kle(h:Log κ a₀ i j):κ.kle (KK κ a₀ i) (KK κ a₀ j):=by rcases h with h|⟨h,_⟩;exact KeyOrd.kle_of_klt h;rw[h];exact KeyOrd.kle_refl _
theorem Px(h:κ.kle (KK κ a₀ i)<|KK κ a₀ j)(hl:i<j):Log κ a₀ i j:=by cases q:κ.blt (KK κ a₀ i) (KK κ a₀ j) with|true=>exact .inl q|false=>exact .inr {KeyOrd.kle_antisymm h q,hl}
theorem Gh.low(h:Gh a₀ g xs)(t:Ho g m a₀.size)(hm:m<=a₀.size)(hi:i<m):g i<m:=by refine Nat.lt_of_not_le λq=>?_;have h1:=h.lt i (by lia);have h2:=h.inj (g i) i h1 (by lia)<|t (g i) q h1;lia
theorem Gh.key(h:Gh a₀ g xs)(hk:k<a₀.size):KK κ xs k=KK κ a₀ (g k):=KK_congr<|h.at_ k hk
theorem Gh.mirror(h:Gh a₀ g xs)(hs:xs.size=a₀.size)(hj:j<=a₀.size):Gh a₀ (JX g i j) (mirror xs i j<|(j-i)/2) where
 at_:=λk hk=>by
  rw[getElem?_mirror_all<|by lia]
  unfold JX
  by_cases q:i<=k/\k<j
  ·rw[if_pos q,if_pos q];exact h.at_ _<|by lia
  ·rw[if_neg q,if_neg q];exact h.at_ _ hk
 lt:=λk hk=>by
  unfold JX
  by_cases q:i<=k/\k<j
  ·rw[if_pos q];exact h.lt _<|by lia
  ·rw[if_neg q];exact h.lt _ hk
 inj:=λa b ha hb e=>by
  unfold JX at e
  by_cases q:i<=a/\a<j<;>by_cases r:i<=b/\b<j
  ·rw[if_pos q,if_pos r]at e;have:=h.inj _ _ (by lia) (by lia) e;lia
  ·rw[if_pos q,if_neg r]at e;have:=h.inj _ _ (by lia) (by lia) e;lia
  ·rw[if_neg q,if_pos r]at e;have:=h.inj _ _ (by lia) (by lia) e;lia
  ·rw[if_neg q,if_neg r]at e;exact h.inj _ _ ha hb e
theorem Gh.bubble(h:Gh a₀ g xs)(hs:xs.size=a₀.size)(hl:l<=src)(hj:src<a₀.size):Gh a₀ (NA g src l) (bubble xs src<|src-l) where
 at_:=λk hk=>by
  rw[getElem?_bubble (by lia) _<|by lia,show src-(src-l)=l by lia]
  unfold NA
  by_cases q:k=l
  ·rw[if_pos q,if_pos q];exact h.at_ _ hj
  ·rw[if_neg q,if_neg q]
   by_cases r:l<k/\k<=src
   ·rw[if_pos r,if_pos r];exact h.at_ _<|by lia
   ·rw[if_neg r,if_neg r];exact h.at_ _ hk
 lt:=λk hk=>by
  unfold NA
  by_cases q:k=l
  ·rw[if_pos q];exact h.lt _ hj
  ·rw[if_neg q]
   by_cases r:l<k/\k<=src
   ·rw[if_pos r];exact h.lt _<|by lia
   ·rw[if_neg r];exact h.lt _ hk
 inj:=λa b ha hb e=>by
  unfold NA at e
  repeat' split at e
  all_goals (have:=h.inj _ _ (by lia) (by lia) e;lia)
theorem iA(h:i<=k/\k<j):JX g i j k=g (i+j-1-k):=by unfold JX;rw[if_pos h]
theorem gp(h:¬(i<=k/\k<j)):JX g i j k=g k:=by unfold JX;rw[if_neg h]
end
section
variable{prog:Program}{w:World}{A:Around}{E:lc}{s:Shared}{a₀:Array Keyed}{κ:KeyKind}
theorem Py{st:SortSt}{g:Nat->Nat}{a top:Nat}{Q:AscSt->SortSt->Prop}(hO:κ.OneLt)(h0:KeysOf κ a₀)(ht:top<=a₀.size)(h1:1<=a)(h2:a<=top)(B:SBase a₀ st)(G:Gh a₀ g<|arrOf st)(T:Ho g a a₀.size)(U:DH κ a₀ g a)(h:∀n,a<=n->n<=top->DH κ a₀ g n->(n=top\/κ.klt (KK κ a₀<|g n) (KK κ a₀<|g<|n-1))->Q (none,n) st):wpS (model prog w) A E s (ascLoop a top) Q st:=by
 unfold ascLoop;refine wpS_forRange (I:=λx c t=>t=st/\c=(none,x)/\DH κ a₀ g x) ?_ ?_ ⟨rfl,rfl,U⟩;rintro x c t IC Nu ⟨rfl,rfl,V⟩;dsimp only;refine wpS_bind<|wpS_ltKK hO B h0 (by lia) (by lia) ?_;rw[G.key<|by lia,G.key<|by lia];cases q:κ.blt (KK κ a₀<|g x) (KK κ a₀<|g<|x-1) with|true=>exact wpS_pure (h x IC (by lia) V<|.inr q)|false=>refine wpS_pure {rfl,rfl,λi j lS hj=>?_};rcases Nat.lt_or_ge j x with z|z;exact V i j lS z;obtain rfl:j=x:=(by lia);have lw:=G.low (m:=j) (λk hk dk=>T k (by lia) dk) (by lia) lS;rw[T j IC<|by lia]at q⊢;refine Px ?_ lw;rcases Nat.lt_or_ge i (j-1) with y|y;exact KeyOrd.kle_trans (V i (j-1) y<|by lia).kle q;obtain rfl:i=j-1:=(by lia);exact q
 rintro c t ⟨rfl,rfl,V⟩;rw[show max a top=top by lia]at V⊢;exact h top h2 (zq _) V<|.inl rfl
theorem JY{st:SortSt}{g:Nat->Nat}{n top:Nat}{Q:Option Nat->SortSt->Prop}(hO:κ.OneLt)(h0:KeysOf κ a₀)(ht:top<=a₀.size)(h1:1<=n)(h2:n<=top)(B:SBase a₀ st)(G:Gh a₀ g<|arrOf st)(T:Ho g n a₀.size)(D:Y3 κ a₀ g n)(h:∀m g' e_,SBase a₀ e_->Gh a₀ g' (arrOf e_)->Ho g' m a₀.size->1<=m->m<=top->DH κ a₀ g' m->Q (some m) e_):wpS (model prog w) A E s (tail3 n top) Q st:=by
 unfold tail3;refine wpS_bind<|wpS_reverse ?_;have B':SBase a₀ (setArr st<|mirror (arrOf st) 0 n<|(n-0)/2):=B.setArr<|mirror_perm _ _ _ _;have G':Gh a₀ (JX g 0 n) (arrOf<|setArr st<|mirror (arrOf st) 0 n<|(n-0)/2):=G.mirror B.size (by lia);have T':Ho (JX g 0 n) n a₀.size:=λk hk dk=>by rw[gp<|by lia];exact T k hk dk
 refine wpS_bind<|Py hO h0 ht h1 h2 B' G' T' (λi j lS hj=>?_) λm W7 Pz V _=>wpS_pure<|h m _ _ B' G' (λk hk dk=>T' k (by lia) dk) (by lia) Pz V;rw[iA<|by lia,iA<|by lia];exact D _ _ (by lia)<|by lia
structure L_(κ:KeyKind)(a₀:Array Keyed)(g:Nat->Nat)(x q:Nat):Prop where
 le:q+1<=x
 tl:Ho g (x-(q+1)) a₀.size
 dn:∀i j,i<j->j<x->i<x-(q+1)->Log κ a₀ (g j) (g i)
 eq:∀i,x-(q+1)<=i->i<x->KK κ a₀ (g i)=KK κ a₀ (g<|x-1)
theorem L_.full(F:L_ κ a₀ g x q)(hx:x<=a₀.size):Y3 κ a₀ (JX g (x-(q+1)) x) x:=λi j lS hj=>by have le:=F.le;by_cases hi:i<x-(q+1);rw[gp (k:=i)<|by lia];by_cases Y4:j<x-(q+1);rw[gp<|by lia];exact F.dn i j lS hj hi;rw[iA<|by lia];exact F.dn i _ (by lia) (by lia) hi;rw[iA<|by lia,iA<|by lia];refine .inr {(F.eq _ (by lia)<|by lia).trans (F.eq _ (by lia)<|by lia).symm,?_};rw[F.tl _ (by lia)<|by lia,F.tl _ (by lia)<|by lia];lia
theorem L_.PB(F:L_ κ a₀ g x 0):Y3 κ a₀ g x:=λi j lS hj=>F.dn i j lS hj<|by lia
theorem L_.next(D:Y3 κ a₀ g x)(T:Ho g x a₀.size)(hx:x<a₀.size)(h1:1<=x)(hl:κ.klt (KK κ a₀<|g x)<|KK κ a₀<|g<|x-1):L_ κ a₀ g (x+1) 0 where
 le:=by lia
 tl:=λk hk dk=>T k (by lia) dk
 dn:=λi j lS hj hi=>by
  by_cases Y4:j<x
  ·exact D i j lS Y4
  ·obtain rfl:j=x:=by lia
   refine .inl ?_
   by_cases q:i=j-1
   ·rw[q];exact hl
   ·exact KeyOrd.klt_of_klt_of_kle hl (D i (j-1) (by lia)<|by lia).kle
 eq:=λi hi hj=>by rw[show i=x+1-1 by lia]
theorem Se{st:SortSt}{g:Nat->Nat}{n top:Nat}{Q:DescSt->SortSt->Prop}(hO:κ.OneLt)(h0:KeysOf κ a₀)(ht:top<=a₀.size)(h1:1<=n)(h2:n<=top)(B:SBase a₀ st)(G:Gh a₀ g<|arrOf st)(F:L_ κ a₀ g n 0)(h:∀m q g' e_,SBase a₀ e_->Gh a₀ g' (arrOf e_)->n<=m->m<=top->L_ κ a₀ g' m q->Q (none,m,q) e_):wpS (model prog w) A E s (descLoop n top) Q st:=by
 unfold descLoop;refine wpS_forRange (I:=λx c t=>∃q g',c=(none,x,q)/\SBase a₀ t/\Gh a₀ g' (arrOf t)/\L_ κ a₀ g' x q) ?_ ?_ {0,g,rfl,B,G,F};rintro x c t IC Nu ⟨q,g',rfl,B',G',F'⟩;have le:=F'.le;dsimp only;refine wpS_bind<|wpS_ltKK hO B' h0 (by lia) (by lia) ?_;rw[G'.key<|by lia,G'.key<|by lia];cases hl:κ.blt (KK κ a₀<|g' x) (KK κ a₀<|g'<|x-1) with|true=>(simp only[if_true];by_cases hq:q>0;rw[if_pos hq];refine wpS_bind<|wpS_reverse<|wpS_pure {0,_,rfl,B'.setArr<|mirror_perm _ _ _ _,G'.mirror B'.size<|by lia,?_};refine .next (F'.full<|by lia) (λk hk dk=>?_) (by lia) (by lia) ?_;rw[gp<|by lia];exact F'.tl k (by lia) dk;rw[gp<|by lia,iA<|by lia,F'.eq (x-(q+1)+x-1-(x-1)) (by lia)<|by lia];exact hl;rw[if_neg hq];obtain rfl:q=0:=(by lia);exact wpS_pure {0,g',rfl,B',G',.next F'.PB (λk hk dk=>F'.tl k (by lia) dk) (by lia) (by lia) hl})|false=>simp only[Bool.false_eq_true,if_false];refine wpS_bind<|wpS_ltKK hO B' h0 (by lia) (by lia) ?_;rw[G'.key<|by lia,G'.key<|by lia];cases hg:κ.blt (KK κ a₀<|g'<|x-1) (KK κ a₀<|g' x) with|true=>exact wpS_pure (h x q g' t B' G' IC (by lia) F')|false=>have e:KK κ a₀ (g' x)=KK κ a₀ (g'<|x-1):=KeyOrd.kle_antisymm hg hl;refine wpS_pure {q+1,g',rfl,B',G',{by lia,λk hk dk=>F'.tl k (by lia) dk,λi j lS hj hi=>?_,λi hi hj=>?_}};by_cases Y4:j<x;exact F'.dn i j lS Y4 (by lia);obtain rfl:j=x:=(by lia);have:=F'.dn i (j-1) (by lia) (by lia) (by lia);rcases this with z|⟨_,z⟩;exact .inl (by rw[e];exact z);rw[F'.tl (j-1) (by lia)<|by lia]at z;have:=G'.low (m:=j-(q+1)) F'.tl (by lia) (i:=i) (by lia);lia;rw[show x+1-1=x by lia];by_cases WU:i=x;rw[WU];rw[e];exact F'.eq i (by lia)<|by lia
 rintro c t ⟨q,g',rfl,B',G',F'⟩;rw[show max n top=top by lia]at F'⊢;exact h top q g' t B' G' h2 (zq _) F'
theorem JZ{st:SortSt}{g:Nat->Nat}{n top:Nat}{Q:Option Nat->SortSt->Prop}(hO:κ.OneLt)(h0:KeysOf κ a₀)(ht:top<=a₀.size)(h2:n+1<=top)(B:SBase a₀ st)(G:Gh a₀ g<|arrOf st)(F:L_ κ a₀ g (n+1) 0)(h:∀m g' e_,SBase a₀ e_->Gh a₀ g' (arrOf e_)->Ho g' m a₀.size->1<=m->m<=top->DH κ a₀ g' m->Q (some m) e_):wpS (model prog w) A E s (descPart n top) Q st:=by
 unfold descPart;refine wpS_bind<|wpS_lift<|wpAny_rule {rfl,?_};refine wpS_bind<|Se hO h0 ht (by lia) h2 B G F λm q g' e_ B' G' W7 Pz F'=>?_;have le:=F'.le;dsimp only;by_cases hq:q>0;rw[if_pos hq];refine wpS_bind<|wpS_reverse<|JY hO h0 ht (by lia) Pz (B'.setArr<|mirror_perm _ _ _ _) (G'.mirror B'.size<|by lia) (λk hk dk=>?_) (F'.full<|by lia) h;rw[gp<|by lia];exact F'.tl k (by lia) dk;rw[if_neg hq];obtain rfl:q=0:=by lia
 exact JY hO h0 ht (by lia) Pz B' G' (λk hk dk=>F'.tl k (by lia) dk) F'.PB h
theorem W8{st:SortSt}{g:Nat->Nat}{top:Nat}{Q:Option Nat->SortSt->Prop}(hO:κ.OneLt)(h0:KeysOf κ a₀)(ht:top<=a₀.size)(h1:1<=top)(B:SBase a₀ st)(G:Gh a₀ g<|arrOf st)(T:Ho g 0 a₀.size)(h:∀m g' e_,SBase a₀ e_->Gh a₀ g' (arrOf e_)->Ho g' m a₀.size->1<=m->m<=top->DH κ a₀ g' m->Q (some m) e_):wpS (model prog w) A E s (countRun' 0 top) Q st:=by
 rw[countRun0_eq];refine wpS_bind<|Py hO h0 ht (zq 1) h1 B G (λk hk dk=>T k (by lia) dk) (λi j lS hj=>by lia) λn PC O5 U hor=>?_;dsimp only;have Tn:∀m,Ho g m a₀.size:=λm k hk dk=>T k (by lia) dk;by_cases PD:n=top;rw[if_pos<|by simpa using PD];exact wpS_pure<|h n g st B G (Tn n) PC O5 U;rw[if_neg<|by simpa using PD];have eB:=hor.resolve_left PD;by_cases Y5:n>1;rw[if_pos Y5];refine wpS_bind<|wpS_ltKK hO B h0 (by lia) (by lia) ?_;rw[G.key<|by lia,G.key<|by lia];cases hr:κ.blt (KK κ a₀<|g 0) (KK κ a₀<|g<|n-1) with|true=>exact wpS_pure (h n g st B G (Tn n) PC O5 U)|false=>simp only[Bool.false_eq_true,if_false];have all:∀k,k<n->KK κ a₀ (g k)=KK κ a₀ (g<|n-1):=λk hk=>(by have a1:κ.kle (KK κ a₀<|g 0) (KK κ a₀<|g k):=(by by_cases z:k=0;rw[z];exact KeyOrd.kle_refl _;exact(U 0 k (by lia) hk).kle);have a2:κ.kle (KK κ a₀<|g k) (KK κ a₀<|g<|n-1):=(by by_cases z:k=n-1;rw[z];exact KeyOrd.kle_refl _;exact(U k (n-1) (by lia)<|by lia).kle);exact KeyOrd.kle_antisymm a2<|KeyOrd.kle_trans hr a1);refine wpS_bind<|wpS_reverse<|JZ hO h0 ht (by lia) (B.setArr<|mirror_perm _ _ _ _) (G.mirror B.size<|by lia) ?_ h;refine .next (λi j lS hj=>?_) (λk hk dk=>by rw[gp<|by lia];exact T k (by lia) dk) (by lia) (by lia) ?_;rw[iA<|by lia,iA<|by lia];refine .inr {(all _<|by lia).trans (all _<|by lia).symm,?_};rw[T _ (by lia)<|by lia,T _ (by lia)<|by lia];lia;rw[gp<|by lia,iA<|by lia,all (0+n-1-(n-1))<|by lia];exact eB
 rw[if_neg Y5];obtain rfl:n=1:=by lia
 exact JZ hO h0 ht (by lia) B G (.next (λi j lS hj=>by lia) (Tn 1) (by lia) (by lia) eB) h
theorem W9{st:SortSt}{g:Nat->Nat}{n ok:Nat}{Q:Bool->SortSt->Prop}(hO:κ.OneLt)(h0:KeysOf κ a₀)(hn:n<=a₀.size)(aN:ok<=n)(B:SBase a₀ st)(G:Gh a₀ g<|arrOf st)(T:Ho g ok a₀.size)(U:DH κ a₀ g ok)(h:∀g' e_,SBase a₀ e_->Gh a₀ g' (arrOf e_)->DH κ a₀ g' n->Q true e_):wpS (model prog w) A E s (binarySort' 0 n ok) Q st:=by
 rw[binarySort'_eq];simp only[Nat.zero_add];refine wpS_bind<|wpS_mono (wpS_forRange (I:=λk c t=>c=(none,())/\∃g',SBase a₀ t/\Gh a₀ g' (arrOf t)/\Ho g' k a₀.size/\DH κ a₀ g' (min k n)) (Q:=λc t=>c=(none,())/\∃g',SBase a₀ t/\Gh a₀ g' (arrOf t)/\DH κ a₀ g' n) ?_ ?_ ?_) ?_;rintro k c t uj dk ⟨rfl,g',B',G',T',V⟩;rw[show min k n=k by lia]at V;have hk:k<a₀.size:=by lia
 refine wpS_bind<|wpS_mono (wpS_forRange (I:=λx c t2=>t2=t/\∃l r,c=(none,l,r)/\l<=r/\r<=k/\r-l<=k-x/\(∀i,i<l->κ.kle (KK κ a₀<|g' i) (KK κ a₀<|g' k))/\(∀i,r<=i->i<k->κ.klt (KK κ a₀<|g' k) (KK κ a₀<|g' i))) (Q:=λc t2=>t2=t/\∃l r,c=(none,l,r)/\l<=k/\(∀i,i<l->κ.kle (KK κ a₀<|g' i) (KK κ a₀<|g' k))/\(∀i,l<=i->i<k->κ.klt (KK κ a₀<|g' k) (KK κ a₀<|g' i))) ?_ ?_ ?_) ?_;rintro x c t2 _ hxk ⟨rfl,l,r,rfl,J1,hrk,hm,lo,hi⟩;dsimp only;by_cases Y6:l>=r;rw[if_pos Y6];obtain rfl:l=r:=by lia
 exact wpS_pure ⟨rfl,l,l,rfl,hrk,lo,hi⟩;rw[if_neg Y6];refine wpS_bind<|wpS_ltKK hO B' h0 hk (by lia) ?_;rw[G'.key hk,G'.key<|by lia];cases hl:κ.blt (KK κ a₀<|g' k) (KK κ a₀<|g'<|(l+r)/2) with|true=>refine wpS_pure {rfl,l,(l+r)/2,rfl,by lia,by lia,by lia,lo,λi a b=>?_};by_cases z:i=(l+r)/2;rw[z];exact hl;exact KeyOrd.klt_of_klt_of_kle hl (V _ _ (by lia) b).kle|false=>refine wpS_pure {rfl,(l+r)/2+1,r,rfl,by lia,by lia,by lia,λi a=>?_,hi};by_cases z:i=(l+r)/2;rw[z];exact hl;exact KeyOrd.kle_trans (V i ((l+r)/2) (by lia)<|by lia).kle hl
 rintro c t2 ⟨rfl,l,r,rfl,J1,hrk,hm,lo,hi⟩;obtain rfl:l=r:=by lia
 exact⟨rfl,l,l,rfl,hrk,lo,hi⟩;exact{rfl,0,k,rfl,by lia,by lia,by lia,λi hi=>by lia,λi a b=>by lia};rintro c t2 ⟨rfl,l,r,rfl,W_,lo,hi⟩;show wpS _ _ _ _ (do moveDown' k l;pure (ForInStep.yield (none,()))) _ _;rw[moveDown'_eq];refine wpS_bind<|wpS_modify<|wpS_pure {rfl,_,B'.setArr<|bubble_perm _ _ _,G'.bubble B'.size W_ hk,λx IC Nu=>?_,?_};show NA g' k l x=x;unfold NA;rw[if_neg<|by lia,if_neg<|by lia];exact T' x (by lia) Nu;rw[show min (k+1) n=k+1 by lia];have lw:∀i,i<k->g' i<k:=λi q=>G'.low T' (by lia) q;have ek:=T' k (zq _) hk;intro i j lS hj;show Log κ a₀ (NA g' k l i) (NA g' k l j);unfold NA;by_cases i1:i=l;rw[if_pos i1,if_neg<|by lia,if_pos<|by lia];exact .inl<|hi _ (by lia) (by lia);rw[if_neg i1];by_cases j1:j=l;rw[if_pos j1,if_neg<|by lia];have h1:=lo i (by lia);have h2:=lw i (by lia);rw[ek]at h1⊢;exact Px h1 h2;rw[if_neg j1];by_cases i2:l<i/\i<=k<;>by_cases j2:l<j/\j<=k;rw[if_pos i2,if_pos j2];exact V _ _ (by lia) (by lia);lia;rw[if_neg i2,if_pos j2];exact V _ _ (by lia) (by lia);rw[if_neg i2,if_neg j2];exact V _ _ (by lia) (by lia);rintro c t ⟨hc,g',B',G',T',V⟩;refine{hc,g',B',G',?_};rwa [show min (max (max ok 1) n) n=n by lia]at V;refine{rfl,g,B,G,λk hk dk=>T k (by lia) dk,λi j lS hj=>?_};exact U i j lS (by lia);rintro c t ⟨rfl,g',B',G',V⟩;exact wpS_pure<|h g' t B' G' V
def Sf(κ:KeyKind)(a₀:Array Keyed)(st:SortSt):Prop:=failedOf st=none/\pendingOf st=#[(0,a₀.size,0)]/\∃g,(arrOf st).size=a₀.size/\Gh a₀ g (arrOf st)/\DH κ a₀ g a₀.size
theorem Sh{st:SortSt}{Q:Unit->SortSt->Prop}(hO:κ.OneLt)(h0:KeysOf κ a₀)(B:SBase a₀ st)(e0:arrOf st=a₀)(h2:2<=a₀.size)(ID:a₀.size<64)(h:∀e_ g,failedOf e_=none->(arrOf e_).size=a₀.size->Gh a₀ g (arrOf e_)->DH κ a₀ g a₀.size->Q () e_):wpS (model prog w) A E s sortRuns' Q st:=by
 have G:Gh a₀ (λk=>k) (arrOf st):={λk _=>by rw[e0],λk hk=>hk,λ_ _ _ _ e=>e};have fin:∀(t:SortSt)(g:Nat->Nat),SBase a₀ t->Gh a₀ g (arrOf t)->DH κ a₀ g a₀.size->Sf κ a₀ (setPending t<|(pendingOf t).push (0,a₀.size,0)):=λt g B' G' U=>{B'.failed,by show(pendingOf t).push _=_;rw[B'.pend];rfl,g,B'.size,G',U};rw[sortRuns'_eq];refine wpS_bind<|wpS_get ?_;dsimp only;have hm:minRun' a₀.size a₀.size 0=a₀.size:=by obtain⟨f,hf⟩:∃f,a₀.size=f+1:={a₀.size-1,by lia};have:minRun' (f+1) a₀.size 0=a₀.size:=(by rw[minRun'_succ,if_pos ID];rfl);rwa [<-hf]at this
 simp only[B.size,hm];refine wpS_bind<|wpS_mono (wpS_forRange (I:=λx c t=>(x=0/\c=(none,0)/\t=st)\/(1<=x/\c=(none,a₀.size)/\Sf κ a₀ t)) (Q:=λc t=>c=(none,a₀.size)/\Sf κ a₀ t) ?_ ?_<|.inl ⟨rfl,rfl,rfl⟩) ?_;rintro x c t _ hx (⟨rfl,rfl,rfl⟩|⟨IC,rfl,D⟩);dsimp only;rw[if_neg<|by lia];simp only[Nat.sub_zero,Nat.min_self,Nat.zero_add];refine wpS_bind<|W8 hO h0 (zq _) (by lia) B G (λ_ _ _=>rfl) λm g' t2 B2 G2 T2 W7 Pz U2=>?_;dsimp only;by_cases eB:m<a₀.size;rw[if_pos eB];refine wpS_bind<|wpS_lift<|wpAny_rule {rfl,?_};refine wpS_bind<|W9 hO h0 (zq _) Pz B2 G2 T2 U2 λg3 t3 B3 G3 U3=>?_;simp only[Bool.not_true,Bool.false_eq_true,if_false];refine wpS_bind<|wpS_get ?_;rw[show(pendingOf t3).back?=none by rw[B3.pend];rfl];dsimp only;exact wpS_bind<|wpS_modify<|wpS_pure<|.inr {by lia,rfl,fin t3 g3 B3 G3 U3};rw[if_neg eB];obtain rfl:m=a₀.size:=by lia
 refine wpS_bind<|wpS_get ?_;rw[show(pendingOf t2).back?=none by rw[B2.pend];rfl];dsimp only;exact wpS_bind<|wpS_modify<|wpS_pure<|.inr {by lia,rfl,fin t2 g' B2 G2 U2};dsimp only;rw[if_pos<|zq _];exact wpS_pure ⟨rfl,D⟩;rintro c t (⟨hx,_,_⟩|⟨_,hc,D⟩);lia;exact⟨hc,D⟩;rintro c t ⟨rfl,D⟩;dsimp only;obtain⟨d1,d2,g,d3,d4,d5⟩:=D;refine wpS_bind<|wpS_mono (wpS_forRange (I:=λ_ c t2=>t2=t/\c=(none,())) (Q:=λc t2=>t2=t/\c=(none,())) ?_ (λ_ _ z=>z) ⟨rfl,rfl⟩) ?_;rintro x c t2 _ _ ⟨rfl,rfl⟩;refine wpS_bind<|wpS_get ?_;rw[if_pos<|by rw[d2];exact zq 1];exact wpS_pure ⟨rfl,rfl⟩;rintro c t2 ⟨rfl,rfl⟩;exact wpS_pure<|h _ g d1 d3 d4 d5
end
noncomputable abbrev NB(X:Cx)(qual:Str)(scope:Scope)(L f:Addr)(cv:Value):Env:=envX qual scope L f cv<|clOf X.env.cells scope.names
noncomputable def UI(X:Cx)(N:j4)(qual:Str)(scope:Scope)(f:Addr)(cv:Value)(A:Around)(s:Shared)(H:Hp):Cx:={X with A:=A.deeper<|NB X qual scope s.heap.objs.size f cv,N:=N,dw:=s,wG:=H,env:=NB X qual scope s.heap.objs.size f cv,outer:=X.stack,stack:=NB X qual scope s.heap.objs.size f cv::X.stack,ex:=[],fn:=λ_=>false,calm:=true,pn:=[],xe:=λ_ _=>False}
noncomputable abbrev Bc(X:Cx)(qual:Str)(params:Arguments)(body:Expr)(scope:Scope)(pm cv mx:Value):Obj:={cls:=.type "function",data:=.func<|kla_fn "<lambda>" qual params body scope (clOf X.env.cells scope.names) pm cv mx}
section
variable{X:Cx}{pins:io}{σ:St}{H:Hp}{s:Shared}{N:j4}{src:ul}{scope:Scope}{params:Arguments}{body:Expr}{qual p:Str}{pm cv mx u:Value}{f:Addr}{A:Around}{v:V}{te:TE}{Q:VK}
theorem NC(I:Inv X pins σ H s)(S:bc X N src scope)(ND:N[0]?=some p)(hp:scope.names.lookup p=some .local)(h0:src[0]?=some none)(Ar:A.frames=some X.stack)(hh:A.handled=none)(r:RelV v u)(Si:h₁.Ns s.heap.objs.size λx=>[(p,u)].reverse.lookup x)(old:∀b o,s.heap.get? b=some o->h₁.get? b=some o): Inv (UI X N qual scope f cv A s H) [] ((pick σ src).set 0<|some v) H {s with heap:=h₁,toks:=tk}:=by
 have iW:∀x c,(clOf X.env.cells scope.names).lookup x=some c->X.env.cells.lookup x=some c:=r9 X.env.cells scope.names [] (by intro x c h;simp at h);have ME:∀b:Addr,b∉(UI X N qual scope f cv A s H).ex:=λb z=>absurd (show b∈([]:im) from z) (by simp);have Cr:∀x,scope.names.lookup x=some .free->∃c,(clOf X.env.cells scope.names).lookup x=some c:=λx hl=>by have hm:=yi hl;obtain⟨c,MP⟩:=I.ok.has x<|S.Cr _ hm rfl;exact{c,jt X.env.cells scope.names [] x c (by intro x c h;simp at h) hm MP}
 refine{{I.ok.mod,S.kind,rfl,rfl,zq _,λx y c h1 h2=>I.ok.inj x y c (iW _ _ h1)<|iW _ _ h2,λx hk=>?_,λx c h=>(nomatch h),λ_=>hh,Around.frames_deeper Ar,.inr ⟨rfl,rfl⟩,λb z=>absurd z<|ME b,I.bs,zO I.ok.Ml I.sz,λb _ _=>ME b,λb z=>absurd z<|ME b,I.stack,I.qX},rfl,I.bare,Un.kept old,{_,Si,λi x w e1 e2 e3=>?_},λx c e=>?_,I.aN.fresh<|zq _,λx c e=>I.gf x c<|iW x c e,λq hq=>absurd (show q∈([]:io) from hq)<|by simp,I.aN.kept old,?_};have hk:scope.names.lookup x=some .cell\/scope.names.lookup x=some .free:=hk;rcases hk with hk|hk;exact absurd rfl<|S.gF _<|yi hk;exact Cr x hk;have e1:N[i]?=some x:=e1;by_cases hi:i=0;subst hi;rw[ND]at e1;cases e1;have hl:0<(pick σ src).length:=by unfold pick;rw[zb];exact(zf.mp h0).1
 rw[yr hl]at e2;cases e2;exact{u,r,.inl {hp,by simp[zW]}};rw[yo<|Ne.symm hi]at e2;unfold pick at e2;rw[zh]at e2;cases es:src[i]? with|none=>(rw[es]at e2;cases e2)|some o=>rw[es]at e2;cases o with|none=>(cases e2)|some j=>have e3:(σ[j]?).join=some w:=zT e2;have e4:σ[j]?=some (some w):=(by cases q:σ[j]? with|none=>(rw[q]at e3;cases e3)|some z=>rw[q]at e3;exact congrArg some e3);obtain⟨a1,a2,a3⟩:=S.src i j x es e1;obtain⟨m0,_,hl⟩:=I.loc;obtain⟨u',r',l⟩:=hl j x w a1 e4 a3;have hm:=yi a2;have hk:=S.Cr _ hm rfl;rcases l with⟨k,_⟩|⟨_,c,MP,⟨o,ho,hd⟩⟩;rcases hk with hk|hk<;>(rw[k]at hk;cases hk);exact{u',r',.inr {.inr a2,c,jt X.env.cells scope.names [] x c (by intro x c h;simp at h) hm MP,o,old _ _ ho,hd}}
 obtain⟨w,o,ho,hd⟩:=I.cell x c<|iW x c e;exact{w,o,old _ _ ho,hd};show((pick σ src).set 0<|some v).length=N.length;unfold pick;rw[List.length_set,zb,S.len]
theorem J2(I:Inv X pins σ H s)(S:bc X N src scope)(ND:N[0]?=some p)(hp:scope.names.lookup p=some .local)(h0:src[0]?=some none)(Ar:A.frames=some X.stack)(hh:A.handled=none)(Xa:A.depth<recursionLimit)(r:RelV v u)(ho:s.heap.get? f=some (Bc X qual params body scope pm cv mx))(uh:s.heap.CodeRec cv qual)(NF:scope.isCoroutine=false)(DJ:scope.isGenerator=false)(hb:bindArgs (kla_fn "<lambda>" qual params body scope (clOf X.env.cells scope.names) pm cv mx) {[u],[]}=pure [(p,u)])(he:PE (UI X N qual scope f cv A s H) body te)(h:te ((pick σ src).set 0<|some v) H Q): codeAny (model X.prog X.w) A (.call (.ref f) {[u],[]}) (λq s'=>∃w,q=.ok (.ret w)/\CE X.stack X.prog X.w H s Q w s') s:=by refine PySem.W.kla_callFunE Xa ho rfl NF DJ rfl uh ?_;show wpAny _ _ (bindArgs (kla_fn "<lambda>" qual params body scope (clOf X.env.cells scope.names) pm cv mx) {[u],[]}) _ _ _;rw[hb];refine zA<|wpAny_newFunctionEnv S.gF (λx hx=>?_) (λh₁ Si MZ=>{I.nolimit.fresh _ MZ,?_}) S.kind;rw[zE.mp hx];exact hp;have old:∀b o,s.heap.get? b=some o->h₁.get? b=some o:=λb o e=>MZ.extBut b o (zG<|zB e)<|za _ e;show codeAny _ _ (.expr body<|NB X qual scope s.heap.objs.size f cv) _ _;refine PySem.W.kla_codeExpr<|yw (he [] _ _ H Q (NC I S ND hp h0 Ar hh r Si old) h) (by rintro w s' ⟨x,H',J,rv,q⟩;exact⟨w,rfl,x,H',J.os,J.bare,J.base,J.aN,rv,q⟩) λ_ _ z=>z.elim
end
@[reducible] def intK:KeyKind where
 α:=Int
 blt a b:=decide<|a<b
 irrefl a:=by simp
 trans a b c h1 h2:=by simp only[zZ]at *;lia
 negTrans a b c h:=by simp only[zZ]at *;lia
 total a b h1 h2:=by simp only[yj]at *;lia
 keyOf v:=match v with|.int x _=>some x|_=>none
 dflt:=0
theorem J3:intK.OneLt:=by intro prog w A E s x y a b Q ha hb h;cases x<;>simp only[intK,reduceCtorEq,Option.some.injEq]at ha;cases y<;>simp only[intK,reduceCtorEq,Option.some.injEq]at hb;cases ha;cases hb;exact oneLt_int h
structure Y7(κ:KeyKind)(b:Bool)(key:Nat->κ.α)(n:Nat)(g:Nat->Nat):Prop where
 lt:∀k,k<n->g k<n
 inj:∀i j,i<n->j<n->g i=g j->i=j
 ord:∀i j,i<j->j<n->(if b=true then κ.klt (key<|g j) (key<|g i) else κ.klt (key<|g i) (key<|g j))\/(key (g i)=key (g j)/\g i<g j)
noncomputable def i4(κ:KeyKind)(us:dL)(j:Nat):κ.α:=(κ.keyOf<|us.getD j .none).getD κ.dflt
theorem J4{us vs:dL}(hl:us.length=vs.length){j:Nat}(hj:j<vs.length):(us.toArray.zip vs.toArray)[j]?=some (us.getD j .none,vs.getD j .none):=by have e:(us.zip vs)[j]?=some (us.getD j .none,vs.getD j .none):=List.getElem?_zip_eq_some.mpr {by show us[j]?=some (us.getD j .none);rw[zw,ze<|by lia];rfl,by show vs[j]?=some (vs.getD j .none);rw[zw,ze hj];rfl};rw[<-Array.getElem?_toList,ksk_zip,List.toList_toArray];exact e
theorem xc{κ:KeyKind}{us vs:dL}(hl:us.length=vs.length){j:Nat}(hj:j<vs.length):KK κ (us.toArray.zip vs.toArray) j=i4 κ us j:=by unfold KK i4;rw[J4 hl hj]
theorem Bd{l m:dL}{n:Nat}(h1:l.length=n)(h2:m.length=n)(h:∀k,k<n->l[k]?=m[k]?):l=m:=by apply List.ext_getElem?;intro k;by_cases hk:k<n;exact h k hk;rw[yn<|by lia,yn<|by lia]
section
variable{prog:Program}{w:World}{A:Around}{E:lc}{s:Shared}{a kS:Addr}{b:Bool}{us vs:dL}{e e1:Nat}{P:PySem.Fin->Shared->Prop}{κ:KeyKind}
theorem Fq{st:SortSt}{keys:ii}(hk:s.heap.get? kS=some (seqObj "list" keys e))(ha:s.heap.get? a=some (seqObj "list" #[] e1))(Sj:kS≠a)(hz:keys.size<64)(Sk:(arrOf st).size<64)(V5:failedOf st=none)(h:∀h' c,(∀b o,b≠a->b≠kS->s.heap.get? b=some o->h'.get? b=some o)->h'.get? a=some (seqObj "list" (if b then ((arrOf st).map (·.2)).reverse else (arrOf st).map (·.2)) c)->P (.done<|.ret .none) {s with heap:=h'}): wpAny (model prog w) A (ksk_tail a b e1 (.ref kS) st) P E s:=by
 have s1:=yC s.heap kS<|Obj.mapSeq λ_=>(#[]:ii);have na1:(s.heap.update kS<|Obj.mapSeq λ_=>(#[]:ii)).get? a=some (seqObj "list" #[] e1):=(s1.2 a Sj.symm).trans ha;have DK:∀o:ii,o=(if b then ((arrOf st).map (·.2)).reverse else (arrOf st).map (·.2))->o.size<64:=by rintro o rfl;cases b with|false=>rw[if_neg zd,Array.size_map];exact Sk|true=>rw[if_pos rfl,Array.size_reverse,Array.size_map];exact Sk
 generalize ho:(if b then ((arrOf st).map (·.2)).reverse else (arrOf st).map (·.2))=out at h DK;have DK:=DK out rfl;have s2:=yC (s.heap.update kS<|Obj.mapSeq λ_=>(#[]:ii)) a<|Obj.mapSeq λ_=>out;obtain⟨c2,hc2⟩:∃c2,((s.heap.update kS<|Obj.mapSeq λ_=>(#[]:ii)).update a<|Obj.mapSeq λ_=>out).get? a=some (seqObj "list" out c2):={_,get?_update_seq na1 λ_=>out};unfold ksk_tail;try dsimp only
 refine zc<|listUpdate_at hk rfl ?_ (by rw[yf];lia)<|zV _;refine zc<|wpAny_letGo ?_;refine zc<|seqEpoch_at na1 rfl ?_;rw[ho];refine zc<|listUpdate_at na1 rfl ?_ (zV _)<|zO (yP DK) (by rw[yf];lia);rw[V5];simp only[bne_self_eq_false,Bool.false_eq_true,if_false];exact zA<|h _ c2 (λb o h1 h2 q=>(s2.2 b h1).trans<|(s1.2 b h2).trans q) hc2
theorem J5{xs:Array Keyed}{g:Nat->Nat}(hl:us.length=vs.length)(hs:xs.size=vs.length)(G:Gh (if b=true then (us.toArray.zip vs.toArray).reverse else us.toArray.zip vs.toArray) g xs)(U:DH κ (if b=true then (us.toArray.zip vs.toArray).reverse else us.toArray.zip vs.toArray) g vs.length): ∃g',Y7 κ b (i4 κ us) vs.length g'/\(if b then (xs.map (·.2)).reverse else xs.map (·.2)).toList=(List.range vs.length).map λk=>vs.getD (g' k) .none:=by
 have As:(us.toArray.zip vs.toArray).size=vs.length:=by rw[Array.size_zip,zt,zt,hl,Nat.min_self]
 have zat:∀k,k<vs.length->(us.toArray.zip vs.toArray)[k]?=some (us.getD k .none,vs.getD k .none):=λk hk=>J4 hl hk;cases b with|false=>rw[if_neg zd]at G U;refine{g,{λk hk=>by have:=G.lt k (by rw[As];exact hk);rwa [As]at this,λi j hi hj=>G.inj i j (by rw[As];exact hi)<|by rw[As];exact hj,λi j lS hj=>?_},?_};have h1:=G.lt i (by rw[As];lia);have h2:=G.lt j (by rw[As];lia);rw[As]at h1 h2;have:=U i j lS hj;unfold Log at this;rw[xc hl h1,xc hl h2]at this;rw[if_neg zd];exact this;rw[if_neg zd];refine Bd (n:=vs.length) (by rw[yu,Array.size_map,hs]) (by simp) λk hk=>?_;have h1:=G.lt k (by rw[As];lia);rw[As]at h1;rw[Array.getElem?_toList,Array.getElem?_map,G.at_ k<|by rw[As];exact hk,zat _ h1,zh,List.getElem?_range hk];rfl|true=>rw[if_pos rfl]at G U;have uk:(us.toArray.zip vs.toArray).reverse.size=vs.length:=(by rw[Array.size_reverse,As]);have lt:∀k,k<vs.length->g k<vs.length:=λk hk=>(by have:=G.lt k (by rw[uk];exact hk);rwa [uk]at this);have rat:∀k,k<vs.length->(us.toArray.zip vs.toArray).reverse[k]?=(us.toArray.zip vs.toArray)[vs.length-1-k]?:=λk hk=>(by rw[Array.getElem?_reverse<|by rw[As];exact hk,As]);refine{λk=>vs.length-1-g (vs.length-1-k),{λk hk=>by have:=lt (vs.length-1-k) (by lia);lia,λi j hi hj e=>?_,λi j lS hj=>?_},?_};have h1:=lt (vs.length-1-i) (by lia);have h2:=lt (vs.length-1-j) (by lia);have:=G.inj (vs.length-1-i) (vs.length-1-j) (by rw[uk];lia) (by rw[uk];lia) (by lia);lia;have h1:=lt (vs.length-1-i) (by lia);have h2:=lt (vs.length-1-j) (by lia);have:=U (vs.length-1-j) (vs.length-1-i) (by lia) (by lia);unfold Log at this;have e1:KK κ (us.toArray.zip vs.toArray).reverse (g<|vs.length-1-i)=i4 κ us (vs.length-1-g (vs.length-1-i)):=(KK_congr<|rat _ h1).trans<|xc hl (by lia);have e2:KK κ (us.toArray.zip vs.toArray).reverse (g<|vs.length-1-j)=i4 κ us (vs.length-1-g (vs.length-1-j)):=(KK_congr<|rat _ h2).trans<|xc hl (by lia);rw[e1,e2]at this;rw[if_pos rfl];rcases this with z|⟨z1,z2⟩;exact .inl z;exact .inr {z1.symm,by lia};rw[if_pos rfl];refine Bd (n:=vs.length) (by rw[yu,Array.size_reverse,Array.size_map,hs]) (by simp) λk hk=>?_;have h1:=lt (vs.length-1-k) (by lia);rw[Array.getElem?_toList,Array.getElem?_reverse<|by rw[Array.size_map,hs];exact hk,Array.size_map,hs,Array.getElem?_map,G.at_ _<|by rw[uk];lia,rat _ h1,zat _<|by lia,zh,List.getElem?_range hk];rfl
theorem Sl(hO:κ.OneLt)(hk:s.heap.get? kS=some (seqObj "list" us.toArray e))(ha:s.heap.get? a=some (seqObj "list" #[] e1))(Sj:kS≠a)(hl:us.length=vs.length)(ID:vs.length<64)(h0:∀u∈us,∃x,κ.keyOf u=some x)(hkk:∀oG oH rest,us=oG::oH::rest->keyKind' (oG::oH::rest).toArray=pure oneType')(h:∀h' c g out,(∀b o,b≠a->b≠kS->s.heap.get? b=some o->h'.get? b=some o)->h'.get? a=some (seqObj "list" out c)->Y7 κ b (i4 κ us) vs.length g->out.toList=(List.range vs.length).map (λk=>vs.getD (g k) .none)->P (.done<|.ret .none) {s with heap:=h'}): wpAny (model prog w) A (ksk_end a b vs.toArray e1 (.ref kS) us.toArray) P E s:=by
 have As:(us.toArray.zip vs.toArray).size=vs.length:=by rw[Array.size_zip,zt,zt,hl,Nat.min_self]
 have step:∀t:Sem PySem.Fin,wpAny (model prog w) A t P E s->wpAny (model prog w) A (if b=true then (do let _ <-rule "list.sort.reverse";t) else t) P E s:=by intro t ht;split;exact zc<|wpAny_rule ht;exact ht
 have hsz:(if b=true then (us.toArray.zip vs.toArray).reverse else us.toArray.zip vs.toArray).size=vs.length:=by cases b with|false=>exact As|true=>rw[if_pos rfl,Array.size_reverse,As]
 have keys:KeysOf κ (if b=true then (us.toArray.zip vs.toArray).reverse else us.toArray.zip vs.toArray):=λp hp=>by have hp:p∈us.zip vs:=(by have e2:(us.toArray.zip vs.toArray).toList=us.zip vs:=(by rw[ksk_zip]);cases b with|false=>rw[if_neg zd,e2]at hp;exact hp|true=>rw[if_pos rfl,Array.toList_reverse,e2]at hp;exact List.mem_reverse.mp hp);obtain⟨x,y⟩:=p;exact h0 _ (List.of_mem_zip hp).1
 unfold ksk_end;try dsimp only
 refine step _ ?_;by_cases h2:vs.toArray.size<2;{rw[if_pos h2,if_pos h2];refine zc<|zA ?_;rw[StateT.run_pure];refine zc<|zA ?_;(try dsimp only);rw[zt]at h2;refine Fq (st:=SortSt.mk' general' (if b=true then (us.toArray.zip vs.toArray).reverse else us.toArray.zip vs.toArray) #[] 7 none) hk ha Sj (by rw[zt];lia) (by show(if b=true then (us.toArray.zip vs.toArray).reverse else us.toArray.zip vs.toArray).size<64;lia) rfl λh' c k1 k2=>?_;obtain⟨g,g1,g2⟩:=J5 (κ:=κ) (b:=b) (xs:=if b=true then (us.toArray.zip vs.toArray).reverse else us.toArray.zip vs.toArray) (g:=λk=>k) hl hsz {λ_ _=>rfl,λ_ hk=>hk,λ_ _ _ _ e=>e} (λi j lS hj=>by lia);exact h h' c g _ k1 k2 g1 g2};{rw[if_neg h2,if_neg h2];rw[zt]at h2;obtain⟨oG,oH,rest,eu⟩:∃oG oH rest,us=oG::oH::rest:=(by match us,hl with|[],hl=>simp at hl;lia|[_],hl=>simp at hl;lia|oG::oH::rest,_=>exact⟨oG,oH,rest,rfl⟩);have ek:keyKind' us.toArray=pure oneType':=(by rw[eu];exact hkk _ _ _ eu);rw[ek];refine zc<|zA ?_;refine zc<|yw (Sh (κ:=κ) hO (a₀:=if b=true then (us.toArray.zip vs.toArray).reverse else us.toArray.zip vs.toArray) (st:=SortSt.mk' oneType' (if b=true then (us.toArray.zip vs.toArray).reverse else us.toArray.zip vs.toArray) #[] 7 none) (Q:=λ_ e_=>failedOf e_=none/\(arrOf e_).size=vs.length/\∃g,Gh (if b=true then (us.toArray.zip vs.toArray).reverse else us.toArray.zip vs.toArray) g (arrOf e_)/\DH κ (if b=true then (us.toArray.zip vs.toArray).reverse else us.toArray.zip vs.toArray) g vs.length) keys {Array.Perm.refl _,rfl,rfl,rfl} rfl (by lia) (by lia) λe_ g q1 q2 q3 q4=>{q1,q2.trans hsz,g,q3,by rw[hsz]at q4;exact q4}) ?_ λ_ _ e=>e;rintro⟨⟨⟩,e_⟩ s' ⟨rfl,hf,hss,g,G,U⟩;(try dsimp only);have hss:(arrOf e_).size=vs.length:=hss;refine Fq hk ha Sj (by rw[zt];lia) (by lia) hf λh' c k1 k2=>?_;obtain⟨g',g1,g2⟩:=J5 (κ:=κ) hl hss G U;exact h h' c g' _ k1 k2 g1 g2}
end
structure PF(X:Cx)(pins:io)(b:Addr):Prop where
 loc:b≠X.env.locals
 fs:b∉X.fs
 cell:∀x c,X.env.cells.lookup x=some c->c≠b
 pin:∀p∈X.pn++pins,p.1≠b
 new:X.dw.heap.objs.size<=b
section
variable{X:Cx}{pins:io}{σ:St}{H:Hp}{s:Shared}
theorem Inv.Y8(I:Inv X pins σ H s)(h:s.heap.objs.size<=b):PF X pins b:={yp<|zu I.lt h,I.U9 h,λx c e=>by obtain⟨v,q⟩:=I.cell x c e;exact zG<|zu q.lt h,λp hp=>zG<|zu (zB (I.pin p hp).1) h,zO I.sz h}
theorem Inv.NG(I:Inv X pins σ H s)(kp:∀b o,b≠a->b≠k->s.heap.get? b=some o->h'.get? b=some o)(ha:H a=none)(hk:H k=none)(Aa:PF X pins a)(Ak:PF X pins k):Inv X pins σ H {s with heap:=h',toks:=t'}:=by have Qz:∀b u,H b=some u->b≠a/\b≠k:=λb u e=>{λz=>(by rw[z,ha]at e;cases e),λz=>(by rw[z,hk]at e;cases e)};refine I.step (g':=s.gens) (d':=s.drawn) (ch:=[a,k]) (λb hb=>?_) (λb o _ _ hc e _=>kp b o (λz=>hc<|by simp[z]) (λz=>hc<|by simp[z]) e) (λb o _ _ hc e _=>{o.slots,kp b o (λz=>hc<|by simp[z]) (λz=>hc<|by simp[z]) e}) (λ_ _ _ _ n=>n) (λb o hc e=>{o,kp b o (λz=>hc<|by simp[z]) (λz=>hc<|by simp[z]) e}) (λ_ _ e=>e) (λ_ _ _ e=>e) (λb ps e=>{#[],by rw[e];simp}) (λm hm=>?_) (λb u e=>?_) I.bare;simp only[zm,zM,or_false]at hb;rcases hb with rfl|rfl;exact{.inr Aa.new,Aa.loc,Aa.cell,Aa.pin};exact{.inr Ak.new,Ak.loc,Ak.cell,Ak.pin};obtain⟨o,es,ep,ho,r⟩:=hm;exact{o,es,ep,kp _ o (Ne.symm Aa.loc) (Ne.symm Ak.loc) ho,r};refine(I.aN b u e).qx (λc v hc q=>?_) (λ_ q=>q) λ_ _ q=>q;rcases hc with z|z;rw[z]at q⊢;exact kp b v (Qz b u e).1 (Qz b u e).2 q;exact kp c v (Qz c _ z).1 (Qz c _ z).2 q
theorem Inv.Xb(I:Inv X pins σ H s)(ha:H a=none)(A:PF X pins a)(new:bj X.prog X.w (upd H a o) s.heap a o):Inv X pins σ (upd H a o) s:=by refine I.step (h':=s.heap) (g':=s.gens) (d':=s.drawn) (t':=s.toks) (ch:=[a]) (λb hb=>?_) (λb o _ _ hc e _=>e) (λb o _ _ hc e _=>⟨o.slots,e⟩) (λb u hc e n=>?_) (λb o hc e=>⟨o,e⟩) (λb xs e=>?_) (λb u v e=>?_) (λb ps e=>?_) (λm hm=>hm) (λb u e=>?_) I.bare;rw[zE.mp hb];exact{.inr A.new,A.loc,A.cell,A.pin};rw[az λz=>hc<|by simp[z]];exact n;rw[az<|aF e ha];exact e;rw[az<|aF e ha];exact e;exact{#[],by rw[az<|aF e ha,e];simp};by_cases hb:b=a;subst hb;rw[aE]at e;cases e;exact new;rw[az hb]at e;exact(I.aN b u e).qx (λc v _ q=>q) (λc q=>by rw[az<|aF q ha];exact q) λc xs q=>by rw[az<|aF q ha];exact q
end
def J6(X:Cx)(pins:io)(σ:St)(A:Around)(f:Addr)(xs:cr)(W:Nat->List V->Hp->Prop):Prop:=∀i x u ks s' H' more,Inv X (pins++more) σ H' s'->W i ks H'->xs[i]?=some x->RelV x u->codeAny (model X.prog X.w) A (.call (.ref f) {[u],[]}) (λq CU=>∃w,q=.ok (.ret w)/\CE X.stack X.prog X.w H' s' (λk H''=>W (i+1) (ks++[k]) H'') w CU) s'
structure PH(κ:KeyKind)(us:dL):Prop where
 all:∀u∈us,∃x,κ.keyOf u=some x
 kind:∀oG oH rest,us=oG::oH::rest->keyKind' (oG::oH::rest).toArray=pure oneType'
section
variable{X:Cx}{pins:io}{σ:St}{H:Hp}{s:Shared}{A:Around}{E:lc}{xs:cr}{vs:dL}{f:Addr}{b:Bool}{κ:KeyKind}{W:Nat->List V->Hp->Prop}
theorem Hq{P:PySem.Fin->Shared->Prop}(hO:κ.OneLt)(I:Inv X pins σ H s)(ha:s.heap.get? a=some (seqObj "list" #[] e1))(hk:s.heap.get? kS=some (seqObj "list" #[] 0))(Sj:kS≠a)(na:H a=none)(nk:H kS=none)(Aa:PF X pins a)(Ak:PF X pins kS)(hv:Vals xs vs)(ID:vs.length<64)(T:J6 X pins σ A f xs W)(w0:W 0 [] H)(G:∀ks us H',W vs.length ks H'->Vals ks us->ks.length=vs.length->PH κ us)(h:∀s' H' ks us c g out,Inv X pins σ H' s'->H' a=none->s'.heap.get? a=some (seqObj "list" out c)->W vs.length ks H'->Vals ks us->ks.length=vs.length->Y7 κ b (i4 κ us) vs.length g->out.toList=(List.range vs.length).map (λk=>vs.getD (g k) .none)->P (.done<|.ret .none) s'): wpAny (model X.prog X.w) A (ksk_rest a (.ref f) b vs.toArray e1<|.ref kS) P E s:=by
 have nc:∀(k:ii) (n:Nat) (v:Option Value),(seqObj "list" k n).data≠.cell v:=λ_ _ _ z=>nomatch z;unfold ksk_rest;refine zc<|wpAny_rule ?_;rw[List.forIn_toArray];refine zc<|ksk_fold (λi s'=>∃ks kA e H',Inv X pins σ H' s'/\W i ks H'/\Vals ks kA.toList/\ks.length=i/\H' a=none/\H' kS=none/\s'.heap.get? a=some (seqObj "list" #[] e1)/\s'.heap.get? kS=some (seqObj "list" kA e)) vs 0 s {[],#[],0,H,I,w0,.nil,rfl,na,nk,ha,hk} ?_ ?_;rintro j x s' hx ⟨ks,kA,e,H',I',w',v',l',Y9,nk',ha',Jq⟩;simp only[Nat.zero_add]at l' w'⊢;have hj:j<vs.length:=(zf.mp hx).1;have hl:xs.length=vs.length:=hv.length;obtain⟨y,hy⟩:∃y,xs[j]?=some y:={_,ze<|by lia};obtain⟨u,hu,ru⟩:=hv.get hy;rw[hx]at hu;cases hu;have Ip:Inv X (pins++[(a,seqObj "list" #[] e1),(kS,seqObj "list" kA e)]) σ H' s':=by refine{I'.ok,I'.os,I'.bare,I'.base,I'.loc,I'.cell,I'.free,I'.gf,λp hp=>?_,I'.aN,I'.len};rcases zN.mp hp with hp|hp;exact I'.pin p<|yk _ hp;rcases zN.mp hp with hp|hp;exact I'.pin p<|zJ _ hp;simp only[zm,zM,or_false]at hp;rcases hp with rfl|rfl;exact{ha',Y9,Aa.loc,Aa.fs,nc _ _};exact{Jq,nk',Ak.loc,Ak.fs,nc _ _}
 have hz:kA.size=j:=by have h1:ks.length=kA.toList.length:=v'.length;have h2:kA.toList.length=kA.size:=yu;lia
 refine zc<|wpAny_attempt<|wpAny_call<|yW (T j y x ks s' H' _ Ip w' hy ru) λr s2 hq=>?_;obtain⟨w,rfl,ce⟩:=hq;obtain⟨k,H2,I2,rk,w2⟩:=Ip.after ce;dsimp only;have pa:=I2.pin (a,seqObj "list" #[] e1)<|zJ _<|zJ _ (by simp);have pk:=I2.pin (kS,seqObj "list" kA e)<|zJ _<|zJ _ (by simp);have I3:Inv X pins σ H2 s2:={I2.ok,I2.os,I2.bare,I2.base,I2.loc,I2.cell,I2.free,I2.gf,λp hp=>I2.pin p<|by rcases zN.mp hp with z|z;exact yk _ z;exact zJ _<|yk _ z,I2.aN,I2.len};have s1:=yC s2.heap kS (Obj.mapSeq (·.push w));obtain⟨c2,hc2⟩:∃c2,(s2.heap.update kS (Obj.mapSeq (·.push w))).get? kS=some (seqObj "list" (kA.push w) c2):={_,get?_update_seq pk.1 (·.push w)};refine zc<|listUpdate_at pk.1 rfl ?_ (by rw[yf];lia)<|zO (Nat.le_of_eq<|Array.size_push ..) (by rw[yf];lia);refine zA {rfl,ks++[k],kA.push w,c2,H2,I3.turned (t':=s2.toks) (it:=kS) (λb o hb q=>(s1.2 b hb).trans q) pk.2.1 Ak.loc (.inr Ak.new) Ak.cell Ak.pin,w2,?_,by simp[l'],pa.2.1,pk.2.1,(s1.2 a Sj.symm).trans pa.1,hc2};rw[show(kA.push w).toList=kA.toList++[w] by simp];exact v'.append<|.cons rk .nil;rintro s' ⟨ks,kA,e,H',I',w',v',l',Y9,nk',ha',Jq⟩;simp only[Nat.zero_add]at l' w';refine zc<|listItems_at Jq rfl ?_;have eA:kA=kA.toList.toArray:=by simp
 have good:=G ks kA.toList H' w' v' l';have hl:kA.toList.length=vs.length:=by have h1:ks.length=kA.toList.length:=v'.length;lia
 rw[eA]at Jq;show wpAny _ _ (ksk_end a b vs.toArray e1 (.ref kS) kA) _ _ _;rw[eA];refine Sl (κ:=κ) hO Jq ha' Sj hl ID good.all good.kind λh' c g out k1 k2 k3 k4=>?_;exact h _ H' ks kA.toList c g out (I'.NG (t':=s'.toks) k1 Y9 nk' Aa Ak) Y9 k2 w' v' l' k3 k4
theorem vO(hO:κ.OneLt)(I:Inv X pins σ H s)(hl:jk X.K H l xs)(ID:xs.length<64)(Y_:argsOk "sorted" {[.ref l],kw})(Za:∀x,argsOk "list.sort" {[.ref x],kw})(ht:∀x,Builtin.«list.sort» {[.ref x],kw}=ksk_tree x (.ref f) b)(T:J6 X pins σ A.in1.in1 f xs W)(w0:W 0 [] H)(G:∀ks us H',W xs.length ks H'->Vals ks us->ks.length=xs.length->PH κ us)(h:∀H' ks us g D,W xs.length ks H'->Vals ks us->ks.length=xs.length->Y7 κ b (i4 κ us) xs.length g->H' D=none->Q (.ref D) (upd H' D<|.lst<|(List.range xs.length).map λk=>xs.getD (g k) .av)): wpAny (model X.prog X.w) A (call (.builtin "sorted") [.ref l] kw) (EP X pins σ Q) E s:=by
 obtain⟨vs,hv,pl,_⟩:=I.list hl;have UJ:xs.length=vs.length:=hv.length;rw[UJ]at ID G h;refine call_function_entry_kw kind_sorted plain_sorted entry_sorted Y_ ?_;unfold Builtin.«sorted»;refine zc (m:=checkCount "sorted" 1 1 _)<|zA ?_;refine zc<|collect_list pl.isList ?_ (by rw[yf];lia);refine zc<|wpAny_newList ?_ (by rw[yf];lia);have hsz:((s.heap.push<|seqObj "list" #[] 0).update s.heap.objs.size (Obj.mapSeq (·++vs.toArray))).objs.size=s.heap.objs.size+1:=by rw[Heap.size_update,size_push']
 have Ir:(((s.heap.push<|seqObj "list" #[] 0).update s.heap.objs.size (Obj.mapSeq (·++vs.toArray))).push<|seqObj "list" vs.toArray 0).get? (s.heap.objs.size+1)=some (seqObj "list" vs.toArray 0):=by rw[<-hsz];exact zk _ rfl
 have keep:∀b o,s.heap.get? b=some o->(((s.heap.push<|seqObj "list" #[] 0).update s.heap.objs.size (Obj.mapSeq (·++vs.toArray))).push<|seqObj "list" vs.toArray 0).get? b=some o:=λb o q=>by have eB:b<s.heap.objs.size:=zB q;rw[Heap.get?_push_ne _ _ _<|by rw[hsz];exact zG<|Nat.lt_succ_of_lt eB,Heap.get?_update_ne _ _ _ _<|zG eB,Heap.get?_push_ne _ _ _<|zG eB];exact q
 show wpAny _ _ _ _ _ {s with heap:=((s.heap.push<|seqObj "list" #[] 0).update s.heap.objs.size (Obj.mapSeq (·++vs.toArray))).push<|seqObj "list" vs.toArray 0};rw[hsz];generalize hg:((s.heap.push<|seqObj "list" #[] 0).update s.heap.objs.size (Obj.mapSeq (·++vs.toArray))).push (seqObj "list" vs.toArray 0)=h1 at Ir keep⊢;have I1:Inv X pins σ H {s with heap:=h1}:=I.kept (t':=s.toks) keep;have Aa:PF X pins (s.heap.objs.size+1):=I.Y8<|yV _;have na:H (s.heap.objs.size+1)=none:=I.aN.fresh<|yV _;generalize s.heap.objs.size+1=a at Ir Aa na⊢;refine zc<|yM<|wpAny_call_entry_kw slot_list_sort {_,Ir,rfl} entry_list_sort ?_<|Za _;show wpAny (model X.prog X.w) A.in1.in1 (Builtin.«list.sort» {[.ref a],kw}) _ _ _;rw[ht a];have s1:=yC h1 a<|Obj.mapSeq λ_=>(#[]:ii);obtain⟨e1,UK⟩:∃e1,(h1.update a<|Obj.mapSeq λ_=>(#[]:ii)).get? a=some (seqObj "list" #[] e1):={_,get?_update_seq Ir λ_=>#[]};have I2:Inv X pins σ H {s with heap:=h1.update a<|Obj.mapSeq λ_=>(#[]:ii)}:=Inv.turned (s:={s with heap:=h1}) (h':=h1.update a<|Obj.mapSeq λ_=>(#[]:ii)) (t':=s.toks) (it:=a) I1 (λb o hb q=>(s1.2 b hb).trans q) na Aa.loc (.inr Aa.new) Aa.cell Aa.pin;unfold ksk_tree;refine zc<|listItems_at Ir rfl ?_;refine zc<|listUpdate_at Ir rfl ?_ (by rw[zt,yf];lia)<|zV _;refine zc<|seqEpoch_at UK rfl ?_;refine zc<|wpAny_newTuple ?_ (by show vs.length<=_;rw[yf];lia);refine zc<|wpAny_newList ?_<|zV _;refine yM ?_;generalize h1.update a (Obj.mapSeq λ_=>(#[]:ii))=h2 at UK I2⊢;have k3:∀b u,h2.get? b=some u->((h2.push<|seqObj "tuple" vs.toArray 0).push<|seqObj "list" #[] 0).get? b=some u:=λb u q=>za _<|za _ q;have I3:Inv X pins σ H {s with heap:=(h2.push<|seqObj "tuple" vs.toArray 0).push<|seqObj "list" #[] 0}:=I2.kept (t':=s.toks) k3;have DL:h2.objs.size<=(h2.push<|seqObj "tuple" vs.toArray 0).objs.size:=by rw[size_push'];exact yV _
 refine Hq (s:={s with heap:=(h2.push<|seqObj "tuple" vs.toArray 0).push<|seqObj "list" #[] 0}) (kS:=(h2.push<|seqObj "tuple" vs.toArray 0).objs.size) hO I3 (k3 _ _ UK) (zk _ rfl) (yp<|zu (zB UK) DL) na (I2.aN.fresh DL) Aa (I2.Y8 DL) hv ID T w0 G λs' H' ks us c g out J n1 o1 w1 v1 l1 q1 q2=>{.none,rfl,?_};refine zA !{.ref a,_,J.Xb (o:=.lst<|(List.range vs.length).map λk=>xs.getD (g k) .av) n1 Aa {?_,out.toList,c,?_,?_},rfl,h H' ks us g a w1 v1 l1 q1 n1};rw[zb,yI,yf];lia;rw[q2];have:∀(ns:wp),(∀k∈ns,g k<vs.length)->Vals (ns.map λk=>xs.getD (g k) .av) (ns.map λk=>vs.getD (g k) .none):=λns=>by induction ns with|nil=>exact λ_=>.nil|cons k ns ih=>intro hk;have Sm:=hk k zj;obtain⟨y,hy⟩:∃y,xs[g k]?=some y:={_,ze<|by lia};obtain⟨u,hu,ru⟩:=hv.get hy;refine .cons ?_<|ih λk dk=>hk k<|zg _ dk;show RelV (xs.getD (g k) .av) (vs.getD (g k) .none);rw[zw,hy,zw,hu];exact ru
 exact this _ λk hk=>q1.lt k<|zS.mp hk;rw[o1]
end
def Bm(mg:Str->Option Value)(base:Heap):Prop:=∃bm o,mg "__builtins__"= some (.ref bm)/\bm≠builtinsNs/\base.get? bm=some o/\o.cls=.type "module"/\o.dict=some builtinsNs/\o.data=.plain
structure Mkr(K:Frag)(mg:Str->Option Value)(base:Heap)(c P:Addr):Prop where
 hd:codeHdIn K c P=true
 bm:Bm mg base
theorem DM{pos p2:Pos}{c cv:Value}(l:dL)(h:TriplesOk l)(e:codeAmong pos (l++[rawInt p2.line,rawInt p2.col,c])=some cv):codeAmong pos l=some cv\/cv=c:=by fun_induction TriplesOk l with|case1=>(simp only[List.nil_append,rawInt,codeAmong]at e;split at e;cases e;exact .inr rfl;cases e)|case2 a t b u x rest ih=>simp only[List.cons_append,codeAmong]at e⊢;split at e;rename_i hc;rw[if_pos hc];exact .inl e;rename_i hc;rw[if_neg hc];exact ih h e|case3 l h1 h2=>exact h.elim
section
variable{X:Cx}{pins:io}{σ:St}{H:Hp}{s:Shared}
theorem Inv.tab{h':Heap}{tk:Nat}{P c:Addr}{ps UL:ii}{oc fo:Obj}(I:Inv X pins σ H s)(hP:H P=some (.qW ps))(hx:Heap.ExtBut P s.heap h')(h1:s.heap.objs.size<=c)(h2:c<h'.objs.size)(hc:h'.get? c=some oc)(hp:h'.get? P=some (tabObj<|ps++UL)): Inv X pins σ (upd (upd H P<|.qW<|ps++UL) c<|.lM oc<|.own 0) {s with heap:=h'.push fo,toks:=tk}:=by
 have hcP:c≠P:=λz=>absurd (zu (I.aN.lt hP)<|z ▸ h1)<|yB _;have nc:H c=none:=I.aN.fresh h1;have other:∀b,b≠P->b≠c->upd (upd H P<|.qW<|ps++UL) c (.lM oc<|.own 0) b=H b:=λb z1 z2=>by rw[az z2,az z1]
 have nP:∀b o,H b=some o->(∀q,o≠.qW q)->b≠P:=λb o e z q=>by rw[q,hP]at e;cases e;exact z _ rfl
 have nP0:∀b,H b=none->b≠P:=λb e q=>by rw[q,hP]at e;cases e
 have lt:∀b o,s.heap.get? b=some o->b≠c:=λb o e=>zG<|zu (zB e) h1;refine I.un (h':=h'.push fo) {λb o e n _ _=>za _<|hx b o (nP0 b n) e,λb o e n _ _=>{o.slots,za _<|hx b o (nP0 b n) e},λb o e n _=>by rw[other b (nP0 b n)<|lt b o e];exact n,λb o e _=>?_,λb xs e=>by rw[other b (nP b _ e λ_=>nofun)<|aF e nc];exact e,λb o u e=>by rw[other b (nP b _ e λ_=>nofun)<|aF e nc];exact e,λb q e=>?_} λb u e=>?_;by_cases hb:b=P;rw[hb];exact{_,za _ hp};exact{o,za _<|hx b o hb e};by_cases hb:b=P;subst hb;rw[hP]at e;cases e;exact{UL,by rw[az<|Ne.symm hcP,aE]};exact{#[],by rw[other b hb<|aF e nc,e];simp};by_cases UM:b=c;subst UM;rw[aE]at e;cases e;exact{za _ hc,_,za _ hc};rw[az UM]at e;by_cases hb:b=P;subst hb;rw[aE]at e;cases e;exact za _ hp;rw[az hb]at e;refine(I.aN b u e).qx (λd v hd q=>?_) (λd q=>by rw[other d (nP d _ q λ_=>nofun)<|aF q nc];exact q) λd xs q=>by rw[other d (nP d _ q λ_=>nofun)<|aF q nc];exact q
 rcases hd with rfl|hd;exact za _<|hx d v hb q;exact za _<|hx d v (nP d _ hd λ_=>nofun) q
theorem Inv.Ft(I:Inv X pins σ H s)(ho:s.heap.get? f=some o)(hn:H f=none)(A:PF X pins f)(d:∀v,o.data≠.cell v):Inv X (pins++[(f,o)]) σ H s:=by refine{I.ok,I.os,I.bare,I.base,I.loc,I.cell,I.free,I.gf,λp hp=>?_,I.aN,I.len};rcases zN.mp hp with hp|hp;exact I.pin p<|yk _ hp;rcases zN.mp hp with hp|hp;exact I.pin p<|zJ _ hp;rw[zE.mp hp];exact⟨ho,hn,A.loc,A.fs,d⟩
structure Xc(X:Cx)(pins:io)(σ:St)(H H':Hp)(P:Addr)(q:Str)(params:Arguments)(body:Expr)(scope:Scope)(u:Value)(s':Shared)(f:Addr)(pm cv mx:Value):Prop where
 u:u=.ref f
 inv:Inv X (pins++[(f,Bc X q params body scope pm cv mx)]) σ H' s'
 code:∃c o vs t,cv=.ref c/\H' c=some (.lM o<|.own 0)/\o.data=.fields vs/\vs[1]?=some (.str q t)
 same:∀b,H' b=H b\/(b=P/\∃ps,H' b=some (.qW ps)/\Ff H' q ps)\/(H b=none/\∃o,H' b=some (.lM o<|.own 0))
theorem Be{M:Model}{A:Around}{E:lc}{N:j4}{src:List<|Option Nat}{scope:Scope}{params:Arguments}{body:Expr}{pos:Pos}{c P:Addr}{q:Str}{ps:ii}{Q:lc}(I:Inv X pins σ H s)(S:bc X N src scope)(pV:X.env.code=.ref c)(mk:Mkr X.K X.mg X.base c P)(hP:H P=some (.qW ps))(ok:Ff H q ps)(hq:X.env.qual ++ "<lambda>"= q)(J_:defaultsOf params X.env=([],[]))(h:∀u s' H' f pm cv mx,Xc X pins σ H H' P q params body scope u s' f pm cv mx->Q u s'):wpAny M A (eval (.Lambda params body scope pos) X.env) Q E s:=by
 have Cs:closureFor scope X.env=pure (clOf X.env.cells scope.names):=gE λy hy hf=>I.ok.has y.1<|S.Cr y hy hf;have Ma:s.heap.get? P=some (tabObj ps):=I.aN P _ hP;have hg:s.heap.Ns mainGlobals X.mg:=I.mod.glob.keeps I.bk;have hC:=codeHd_of_K I.pN mk.hd;obtain⟨bm,ob,b1,b2,b3,b4,b5,b6⟩:=mk.bm;have Sn:s.heap.get? bm=some ob:=I.bk _ _ b3;have hgP:mainGlobals≠P:=λz=>by obtain⟨o,es,ep,e,d,_⟩:=id hg;rw[z,Ma]at e;cases e;cases d
 have hbG:bm≠mainGlobals:=λz=>by obtain⟨o,es,ep,e,d,_⟩:=id hg;rw[<-z,Sn]at e;cases e;rw[b6]at d;cases d
 have hbP:bm≠P:=λz=>by rw[z,Ma]at Sn;cases Sn;cases b4
 have hB:s.heap.BuiltinsAt X.mg P:=⟨bm,ob,b1,b2,hbG,hbP,Sn,b4,b5,b6⟩;have hqs:H P≠none:=by rw[hP];nofun
 refine PySem.W.kla_eval J_ ?_;rw[hq];cases hf:codeAmong pos ps.toList with|none=>(refine PySem.W.kla_makeFunction Cs I.ok.glob hg pV hC Ma ok.1 hf hgP hB λc' mx h' tk hx h1 h2 hr hp=>?_;obtain⟨c2,oc,vs,t,e2,YC,hd,hv⟩:=hr;cases e2;have J:=I.tab (tk:=tk) (fo:=Bc X q params body scope ((X.mg "__name__").getD .none) (.ref c') mx) hP hx h1 h2 YC hp;have hcP:c'≠P:=λz=>absurd (zu (I.aN.lt hP)<|z ▸ h1)<|yB _;have nc:H c'=none:=I.aN.fresh h1;have fresh:∀b,h'.objs.size<=b->upd (upd H P<|.qW<|ps++#[rawInt pos.line,rawInt pos.col,.ref c']) c' (.lM oc<|.own 0) b=none:=λb hb=>(by have AF:s.heap.objs.size<=b:=zO (zO h1<|yP h2) hb;rw[az<|yp<|zu h2 hb,az<|yp<|zu (I.aN.lt hP) AF];exact I.aN.fresh AF);have hsz:s.heap.objs.size<=h'.objs.size:=zO h1<|yP h2;refine h _ _ _ h'.objs.size _ _ _ {rfl,J.Ft (zk _ rfl) (fresh _<|zq _) (I.Y8 hsz) (λv z=>nomatch z),⟨c',oc,vs,t,rfl,aE,hd,hv⟩,λb=>?_};by_cases UM:b=c';subst UM;exact .inr<|.inr ⟨nc,oc,aE⟩;by_cases hb:b=P;subst hb;refine .inr<|.inl {rfl,_,by rw[az UM,aE],?_,λp2 cv e=>?_};rw[Array.toList_append];exact TriplesOk_snoc _ _ _ _ ok.1;rw[Array.toList_append]at e;rcases DM _ ok.1 e with e|e;obtain⟨d,o,ws,t2,z1,z2,z3⟩:=ok.2 p2 cv e;exact{d,o,ws,t2,z1,by rw[az<|aF z2 nc,az λz=>by rw[z,hP]at z2;cases z2];exact z2,z3};exact⟨c',oc,vs,t,e,aE,hd,hv⟩;exact .inl<|by rw[az UM,az hb])|some cv=>refine PySem.W.kla_makeFunctionHit Cs I.ok.glob hg pV hC Ma ok.1 hf hB λmx h' tk hk hsz=>?_;have J:Inv X pins σ H {s with heap:=h'.push<|Bc X q params body scope ((X.mg "__name__").getD .none) cv mx,toks:=tk}:=I.kept λb u e=>za _<|hk b u e;exact h _ _ _ h'.objs.size _ _ _ {rfl,J.Ft (zk _ rfl) (I.aN.fresh hsz) (I.Y8 hsz) (λv z=>nomatch z),ok.2 pos cv hf,λb=>.inl rfl}
end
def Xd:D->D->Prop|.int a,.int b=>a<b|.str a,.str b=>a.cps.toList<b.cps.toList|_,_=>False
def Bf(ks:v0):Prop:=(∃zs:j4,ks=zs.map D.str)\/∃ns:rp,ks=ns.map D.int
structure So(b:Bool)(key:Nat->D)(n:Nat)(g:Nat->Nat):Prop where
 lt:∀k,k<n->g k<n
 inj:∀i j,i<n->j<n->g i=g j->i=j
 ord:∀i j,i<j->j<n->(if b=true then Xd (key<|g j) (key<|g i) else Xd (key<|g i) (key<|g j))\/(key (g i)=key (g j)/\g i<g j)
def Bh(b:Bool)(P:Addr)(q:Str)(src:List<|Option Nat)(te:TD)(σ:SD)(R:KD)(d:D)(S1:aq):Prop:=∃(l:Addr)(xs:v0)(f:D->D),d=.ref l/\S1 l=some (.lst xs)/\xs.length<64/\S1 P=some (.tab q)/\Bf (xs.map f)/\(∀x,x∈xs->∀S',Sub S1 S'->∀Qk:KD,(∀S2,Sub S' S2->Qk (f x) S2)->te ((mO σ src).set 0<|some x) S' Qk Zf)/\∀g S2 p,So b (λj=>f<|xs.getD j .av) xs.length g->Sub S1 S2->S2 p=none->R (.ref p) (S2.set p<|.lst<|(List.range xs.length).map λk=>xs.getD (g k) .av)
def PJ(b:Bool)(P:Addr)(q:Str)(src:List<|Option Nat)(tl te:TD):TD:=λσ S R Z=>tl σ S (λd S1=>Bh b P q src te σ R d S1) Z
def Ka(F:D->aq->Prop):List D->aq->Prop|[d],S=>F d S|_,_=>False
theorem Fu{F:D->aq->Prop}{ds:v0}{S:aq}(h:Ka F ds S):∃d,ds=[d]/\F d S:=by match ds,h with|[d],h=>exact⟨d,rfl,h⟩
theorem sH:∀{ss:rp}{ay:dL},Vals (ss.map V.int) ay->IntsAre ay ss|[],_,.nil=>.nil|z::ss,_,.cons r t=>by obtain⟨tk,rfl⟩:=r;exact .cons z tk<|sH t
theorem sI:∀{us:dL}{zs:j4},StrsAre us zs->∀j,j<zs.length->i4 strKind us j=(zs.getD j "").cps.toList|_,_,.cons z t h,0,_=>rfl|_,_,.cons z t h,j+1,hj=>by have:=sI h j (by simpa using hj);unfold i4 at this⊢;rw[List.getD_cons_succ,List.getD_cons_succ];exact this
theorem sJ:∀{us:dL}{zs:rp},IntsAre us zs->∀j,j<zs.length->i4 intK us j=zs.getD j 0|_,_,.cons z t h,0,_=>rfl|_,_,.cons z t h,j+1,hj=>by have:=sJ h j (by simpa using hj);unfold i4 at this⊢;rw[List.getD_cons_succ,List.getD_cons_succ];exact this
theorem Kb(h:StrsAre us zs):∀u∈us,∃x,strKind.keyOf u=some x:=by induction h with|nil=>(intro u hu;cases hu)|cons z t h ih=>intro u hu;rcases zm.mp hu with rfl|hu;exact{_,rfl};exact ih u hu
theorem Kc(h:IntsAre us zs):∀u∈us,∃x,intK.keyOf u=some x:=by induction h with|nil=>(intro u hu;cases hu)|cons z t h ih=>intro u hu;rcases zm.mp hu with rfl|hu;exact{_,rfl};exact ih u hu
theorem Ke{xs:v0}{f:D->D}{j:Nat}(hj:j<xs.length):(xs.map f)[j]?=some (f<|xs.getD j .av):=by rw[zh,zw,ze hj];rfl
theorem xf{K:Frag}{H:Hp}{ds:v0}{xs:cr}(h:RvAll K H ds xs)(g:Nat->Nat):∀(ns:wp),(∀k∈ns,g k<ds.length)->RvAll K H (ns.map λk=>ds.getD (g k) .av) (ns.map λk=>xs.getD (g k) .av)|[],_=>bt|k::ns,hk=>by have Sm:=hk k zj;obtain⟨v,e,r⟩:=h.get<|ze Sm;refine aT ?_<|xf h g ns λk dk=>hk k<|zg _ dk;show Rv K H (ds.getD (g k) .av) (xs.getD (g k) .av);rw[zw,ze Sm,zw,e];exact r
section
variable{K:Frag}{Y:Cx}{pins:io}{τ:St}{H H2:Hp}{s:Shared}{N:j4}{src:ul}{scope:Scope}{params:Arguments}{body:Expr}{q p:Str}{pm cv mx:Value}{f l:Addr}{te:TD}{b:Bool}{kw:pc}{k:Nat}
theorem Bi{σ:SD}{S1:aq}{xs:v0}{fD:D->D}{Q:VK}{R:KD}{E:lc}(I:Inv Y (pins++[(f,Bc Y q params body scope pm cv mx)]) τ H s)(hK:Y.K=K)(Xe:Y.calm=true)(hr:bO k Y.A)(pV:∃c o vs t,cv=.ref c/\H c=some (.lM o<|.own 0)/\o.data=.fields vs/\vs[1]?=some (.str q t))(CS:bc Y N src scope)(ND:N[0]?=some p)(hp:scope.names.lookup p=some .local)(h0:src[0]?=some none)(NF:scope.isCoroutine=false)(DJ:scope.isGenerator=false)(hb:∀cl pm cv mx u,bindArgs (kla_fn "<lambda>" q params body scope cl pm cv mx) {[u],[]}=pure [(p,u)])(he:∀cv s H,DE K (UI Y N q scope f cv Y.A.in1.in1 s H) body te)(aC:iu K H σ τ)(hS:Rs K S1 H)(hl:S1 l=some (.lst xs))(ID:xs.length<64)(kd:Bf<|xs.map fD)(step:∀x,x∈xs->∀S',Sub S1 S'->∀Qk:KD,(∀S2,Sub S' S2->Qk (fD x) S2)->te ((mO σ src).set 0<|some x) S' Qk Zf)(hR:Cn K H R Q)(fin:∀g S2 p,So b (λj=>fD<|xs.getD j .av) xs.length g->Sub S1 S2->S2 p=none->R (.ref p) (S2.set p<|.lst<|(List.range xs.length).map λk=>xs.getD (g k) .av))(Y_:argsOk "sorted" {[.ref l],kw})(Za:∀x,argsOk "list.sort" {[.ref x],kw})(ht:∀x,Builtin.«list.sort» {[.ref x],kw}=ksk_tree x (.ref f) b): wpAny (model Y.prog Y.w) Y.A (call (.builtin "sorted") [.ref l] kw) (EP Y pins τ Q) E s:=by
 subst hK;obtain⟨vs,hv,rv⟩:=hS.lst hl;have UJ:vs.length=xs.length:=rv.len;obtain⟨c,oc,ws,tk,ecv,hc,uh,hcq⟩:=pV;have drop:∀{u:Value}{s':Shared},EP Y (pins++[(f,Bc Y q params body scope pm cv mx)]) τ Q u s'->EP Y pins τ Q u s':=λ⟨v,H',J,r,q⟩=>{v,H',{J.ok,J.os,J.bare,J.base,J.loc,J.cell,J.free,J.gf,λp hp=>J.pin p<|by rcases zN.mp hp with z|z;exact yk _ z;exact zJ _<|yk _ z,J.aN,J.len},r,q};have T:J6 Y (pins++[(f,Bc Y q params body scope pm cv mx)]) τ Y.A.in1.in1 f vs λi ks H'=>∃S',Sub S1 S'/\Rs Y.K S' H'/\Kp Y.K H H'/\RvAll Y.K H' ((xs.take i).map fD) ks:=by rintro i x u ks s' H' more I' ⟨S',sb,rs,kp,rk⟩ hx ru;have hi:i<xs.length:=(by have:=(zf.mp hx).1;lia);obtain⟨v,e1,r1⟩:=rv.get<|ze hi;rw[hx]at e1;cases e1;have po:=(I'.pin (f,Bc Y q params body scope pm cv mx)<|zJ _<|yk _<|zJ _<|by simp).1;have hcr:s'.heap.CodeRec cv q:={c,oc,ws,tk,ecv,(I'.aN c _<|kp.f _ _ _ hc).1,uh,hcq};refine J2 (A:=Y.A.in1.in1) I' CS ND hp h0 I'.ok.frames (I'.ok.hd Xe) (by have:=hr.dp;show Y.A.depth<_;lia) ru po hcr NF DJ (hb _ _ _ _ _) ((he cv s' H').of<|.none _ rfl) ?_;refine{_,S',λkk S2=>kk=fD xs[i]/\Sub S' S2,Zf,((aC.ts kp).pick src).set 0<|Rv.ts kp _ r1,rs,step _ (List.getElem_mem hi) S' sb _ λS2 h2=>⟨rfl,h2⟩,λkk S2 v2 H2 ⟨e2,L7⟩ UN PK Zb=>?_,.f};subst e2;refine{S2,sb.trans L7,PK,kp.trans Zb,?_};rw[show xs.take (i+1)=xs.take i++[xs[i]] by rw[List.take_add_one,ze hi];rfl,zI];exact(RvAll.ts Zb _ rk).app<|aT UN bt
 have w0:∃S',Sub S1 S'/\Rs Y.K S' H/\Kp Y.K H H/\RvAll Y.K H ((xs.take 0).map fD) []:={S1,.refl _,hS,.refl _,by rw[List.take_zero];exact bt};have YH:jk Y.K H l vs:=.of hv;rcases kd with⟨zs,ez⟩|⟨zs,ez⟩;have Zc:zs.length=xs.length:=by have:=congrArg List.length ez;rw[zb,zb]at this;exact this.symm
 have ka:∀j,j<xs.length->fD (xs.getD j .av)=.str (zs.getD j ""):=λj hj=>by have e1:=Ke (f:=fD) hj;rw[ez,zh,ze<|by lia]at e1;rw[zw (l:=zs),ze<|by lia];exact(zT e1).symm
 have kv:∀ks us H',(∃S',Sub S1 S'/\Rs Y.K S' H'/\Kp Y.K H H'/\RvAll Y.K H' ((xs.take vs.length).map fD) ks)->Vals ks us->StrsAre us zs:=λks us H' ⟨S',_,_,_,rk⟩ hu=>by rw[UJ,yG,ez]at rk;rw[rk.strs]at hu;exact sG hu
 refine yw (vO (κ:=strKind) (Q:=Q) (b:=b) strKind_oneLt I YH (by lia) Y_ Za ht T w0 (λks us H' w1 v1 l1=>{Kb<|kv ks us H' w1 v1,λoG oH rest e=>keyKind_strs<|by rw[<-e];exact kv ks us H' w1 v1}) λH' ks us g D w1 v1 l1 sr hD=>?_) (λu s' z=>drop z) λ_ _ z=>z;have sk:=kv ks us H' w1 v1;obtain⟨S',sb,rs,kp,rk⟩:=w1;rw[UJ]at sr⊢;refine(hR.kp kp).new rs hD (λhp=>fin g S' D {sr.lt,sr.inj,λi j lS hj=>?_} sb hp)<|xf (RvAll.ts kp _ rv) g _ λk hk=>sr.lt k<|zS.mp hk;have h1:=sr.lt i (by lia);have h2:=sr.lt j hj;have:=sr.ord i j lS hj;rw[sI sk _<|by lia,sI sk _<|by lia]at this;rw[ka _ h1,ka _ h2];rcases this with z|⟨z1,z2⟩;left;cases b with|false=>rw[if_neg zd]at z⊢;show(zs.getD (g i) "").cps.toList<(zs.getD (g j) "").cps.toList;exact zy z|true=>rw[if_pos rfl]at z⊢;show(zs.getD (g j) "").cps.toList<(zs.getD (g i) "").cps.toList;exact zy z
 exact .inr {by rw[abC z1],z2};have Zc:zs.length=xs.length:=by have:=congrArg List.length ez;rw[zb,zb]at this;exact this.symm
 have ka:∀j,j<xs.length->fD (xs.getD j .av)=.int (zs.getD j 0):=λj hj=>by have e1:=Ke (f:=fD) hj;rw[ez,zh,ze<|by lia]at e1;rw[zw (l:=zs),ze<|by lia];exact(zT e1).symm
 have kv:∀ks us H',(∃S',Sub S1 S'/\Rs Y.K S' H'/\Kp Y.K H H'/\RvAll Y.K H' ((xs.take vs.length).map fD) ks)->Vals ks us->IntsAre us zs:=λks us H' ⟨S',_,_,_,rk⟩ hu=>by rw[UJ,yG,ez]at rk;rw[rk.ints]at hu;exact sH hu
 refine yw (vO (κ:=intK) (Q:=Q) (b:=b) J3 I YH (by lia) Y_ Za ht T w0 (λks us H' w1 v1 l1=>{Kc<|kv ks us H' w1 v1,λoG oH rest e=>keyKind_ints<|by rw[<-e];exact kv ks us H' w1 v1}) λH' ks us g D w1 v1 l1 sr hD=>?_) (λu s' z=>drop z) λ_ _ z=>z;have sk:=kv ks us H' w1 v1;obtain⟨S',sb,rs,kp,rk⟩:=w1;rw[UJ]at sr⊢;refine(hR.kp kp).new rs hD (λhp=>fin g S' D {sr.lt,sr.inj,λi j lS hj=>?_} sb hp)<|xf (RvAll.ts kp _ rv) g _ λk hk=>sr.lt k<|zS.mp hk;have h1:=sr.lt i (by lia);have h2:=sr.lt j hj;have:=sr.ord i j lS hj;rw[sJ sk _<|by lia,sJ sk _<|by lia]at this;rw[ka _ h1,ka _ h2];rcases this with z|⟨z1,z2⟩;left;cases b with|false=>rw[if_neg zd]at z⊢;show zs.getD (g i) 0<zs.getD (g j) 0;exact zy z|true=>rw[if_pos rfl]at z⊢;show zs.getD (g j) 0<zs.getD (g i) 0;exact zy z
 exact .inr {by rw[z1],z2}
end
section
variable{K:Frag}{X:Cx}{N:j4}{src:ul}{scope:Scope}{params:Arguments}{e body:Expr}{q p x:Str}{np pos lp kq kq2 cp:Pos}{ci}{tl te:TD}{k:Nat}{c P:Addr}
theorem Xc.kp{pins:io}{τ:St}{H H':Hp}{u:Value}{s':Shared}{f:Addr}{pm cv mx:Value}{Y:Cx}(L:Xc Y pins τ H H' P q params body scope u s' f pm cv mx){ps:ii}(hP:H P=some (.qW ps)):Kp K H H':=.of λb o e=>by rcases L.same b with z|⟨z,_⟩|⟨z,_⟩;exact .inl (by rw[z];exact e);rw[z,hP]at e;cases e;exact .inr {λ_=>nofun,λ_ _=>nofun};rw[z]at e;cases e
theorem Xc.rs{pins:io}{τ:St}{H H':Hp}{u:Value}{s':Shared}{f:Addr}{pm cv mx:Value}{Y:Cx}{S:aq}(L:Xc Y pins τ H H' P q params body scope u s' f pm cv mx)(hS:Rs K S H)(ht:S P=some (.tab q)):Rs K S H':=λb x hb=>by obtain⟨ps,hP,_⟩:=hS P _ ht;have kp:Kp K H H':=L.kp hP;rcases L.same b with z|⟨rfl,UL,z1,z2⟩|⟨z,_⟩;exact(hS b x hb).keep (λo e=>by rw[z];exact e) kp;rw[ht]at hb;cases hb;exact⟨UL,z1,z2⟩;obtain⟨o,e,_⟩:=(hS b x hb).has;rw[z]at e;cases e
theorem Xf(pV:X.env.code=.ref c)(mk:Mkr K X.mg X.base c P)(hr:bO k X.A)(CS:bc X N src scope)(hl:DE K X e tl)(he:∀f cv s H,DE K (UI X N q scope f cv X.A.in1.in1 s H) body te)(hm:X.mg x=none)(hv:bootBuiltins x=some (.builtin "sorted"))(hq:autoParam (X.env.qual ++ "<lambda>"= q) qQJ)(ND:autoParam (N[0]?=some p) qQJ)(hp:autoParam (scope.names.lookup p=some .local) qQJ)(h0:autoParam (src[0]?=some none) qQJ)(NF:autoParam (scope.isCoroutine=false) qQJ)(DJ:autoParam (scope.isGenerator=false) qQJ)(hb:autoParam (∀cl pm cv mx u,bindArgs (kla_fn "<lambda>" q params body scope cl pm cv mx) {[u],[]}=pure [(p,u)]) qJ5)(J_:autoParam (defaultsOf params X.env=([],[])) qQJ)(hg:autoParam (Gl X x) qQJ)(hn:autoParam (x≠"__name__") qQZ)(qB:autoParam ((x==("__debug__": Str))=false) qQZ)(hse:autoParam (backTo pos (starEach [e] X.env)=(false,eval e X.env)::backTo pos (starEach [] X.env)) qQJ)(dy:autoParam ((backTo pos<|starEach [e] X.env).any (·.1)=false) qQJ)(hpe:autoParam (isPlain e=true) qQJ)(hK:autoParam (X.K=K) qQJ)(hC:autoParam (X.calm=true) qQJ): DE K X (.Call (.Name x np) [e] [{some "key",.Lambda params body scope lp,kq}] pos) (PJ false P q src tl te):=by subst hK;refine⟨λy=>?_⟩;rintro pins s τ H Q I ⟨σ,S,R,Z,aC,hS,t,hR,hZ⟩;refine wpAny_Call_Name_kw<|gC I hg hm hv ?_ hn qB;refine callWith_kw (bb (((ac hl an hpe).of y) pos pins s τ H (λvs H1=>∃ds S1,Ka (Bh false P q src te σ R) ds S1/\RvAll X.K H1 ds vs/\Rs X.K S1 H1/\Kp X.K H H1) I {σ,S,Ka<|Bh false P q src te σ R,Z,aC,hS,t,λds S1 vs H1 r rv rs k1=>⟨ds,S1,r,rv,rs,k1⟩,hZ}) λus s1 ⟨vs,H1,I1,r1,ds,S1,r,rv,rs,k1⟩=>?_) hse dy;obtain⟨d,rfl,l,xs,fD,rfl,el,ID,et,kd,step,fin⟩:=Fu r;obtain⟨v,vs',rfl,Xg,UN⟩:=rv.cons;cases UN.nil;cases Xg.ref;obtain⟨u,rfl,ru⟩:=vals1 r1;cases ru;obtain⟨ps,hP,aN⟩:=rs P _ et;refine kws_cons<|Be I1 ⟨CS.kind,CS.gF,CS.loc,CS.Cr,CS.len,CS.src⟩ pV mk hP aN hq J_ λw s2 H2 f pm cv mx L=>?_;refine kws_nil ?_;cases L.u;have k2:Kp X.K H1 H2:=L.kp hP;exact Bi L.inv rfl hC hr L.code ⟨CS.kind,CS.gF,CS.loc,CS.Cr,CS.len,CS.src⟩ ND hp h0 NF DJ hb (he f) ((aC.ts k1).ts k2) (L.rs rs et) el ID kd step (hR.kp<|k1.trans k2) fin (ksk_s1 _ _) (λx=>ksk_l1 _ _) λx=>ksk_t1 _ _
theorem PL(pV:X.env.code=.ref c)(mk:Mkr K X.mg X.base c P)(hr:bO k X.A)(CS:bc X N src scope)(hl:DE K X e tl)(he:∀f cv s H,DE K (UI X N q scope f cv X.A.in1.in1 s H) body te)(hm:X.mg x=none)(hv:bootBuiltins x=some (.builtin "sorted"))(hq:autoParam (X.env.qual ++ "<lambda>"= q) qQJ)(ND:autoParam (N[0]?=some p) qQJ)(hp:autoParam (scope.names.lookup p=some .local) qQJ)(h0:autoParam (src[0]?=some none) qQJ)(NF:autoParam (scope.isCoroutine=false) qQJ)(DJ:autoParam (scope.isGenerator=false) qQJ)(hb:autoParam (∀cl pm cv mx u,bindArgs (kla_fn "<lambda>" q params body scope cl pm cv mx) {[u],[]}=pure [(p,u)]) qJ5)(J_:autoParam (defaultsOf params X.env=([],[])) qQJ)(hg:autoParam (Gl X x) qQJ)(hn:autoParam (x≠"__name__") qQZ)(qB:autoParam ((x==("__debug__": Str))=false) qQZ)(hse:autoParam (backTo pos (starEach [e] X.env)=(false,eval e X.env)::backTo pos (starEach [] X.env)) qQJ)(dy:autoParam ((backTo pos<|starEach [e] X.env).any (·.1)=false) qQJ)(hpe:autoParam (isPlain e=true) qQJ)(hK:autoParam (X.K=K) qQJ)(hC:autoParam (X.calm=true) qQJ): DE K X (.Call (.Name x np) [e] [{some "key",.Lambda params body scope lp,kq},{some "reverse",.Constant (.bool true) ci cp,kq2}] pos) (PJ true P q src tl te):=by subst hK;refine⟨λy=>?_⟩;rintro pins s τ H Q I ⟨σ,S,R,Z,aC,hS,t,hR,hZ⟩;refine wpAny_Call_Name_kw<|gC I hg hm hv ?_ hn qB;refine callWith_kw (bb (((ac hl an hpe).of y) pos pins s τ H (λvs H1=>∃ds S1,Ka (Bh true P q src te σ R) ds S1/\RvAll X.K H1 ds vs/\Rs X.K S1 H1/\Kp X.K H H1) I {σ,S,Ka<|Bh true P q src te σ R,Z,aC,hS,t,λds S1 vs H1 r rv rs k1=>⟨ds,S1,r,rv,rs,k1⟩,hZ}) λus s1 ⟨vs,H1,I1,r1,ds,S1,r,rv,rs,k1⟩=>?_) hse dy;obtain⟨d,rfl,l,xs,fD,rfl,el,ID,et,kd,step,fin⟩:=Fu r;obtain⟨v,vs',rfl,Xg,UN⟩:=rv.cons;cases UN.nil;cases Xg.ref;obtain⟨u,rfl,ru⟩:=vals1 r1;cases ru;obtain⟨ps,hP,aN⟩:=rs P _ et;refine kws_cons<|Be I1 ⟨CS.kind,CS.gF,CS.loc,CS.Cr,CS.len,CS.src⟩ pV mk hP aN hq J_ λw s2 H2 f pm cv mx L=>?_;refine kws_cons<|bb (OV (X:=y.cx) _ s2 τ H2 (λv H'=>v=.bl true/\H'=H2) L.inv ⟨rfl,rfl⟩) ?_;rintro w2 s3 ⟨v2,H3,I3,r3,e3,e4⟩;subst e3 e4;obtain rfl:w2=Value.bool true:=r3;refine kws_nil ?_;cases L.u;have k2:Kp X.K H1 H3:=L.kp hP;exact Bi I3 rfl hC hr L.code ⟨CS.kind,CS.gF,CS.loc,CS.Cr,CS.len,CS.src⟩ ND hp h0 NF DJ hb (he f) ((aC.ts k1).ts k2) (L.rs rs et) el ID kd step (hR.kp<|k1.trans k2) fin (ksk_s2 _ _ _) (λx=>ksk_l2 _ _ _) λx=>ksk_t2 _ _ _
end
section
variable{P:Program}{w:World}{K:Frag}{mg:Str->Option Value}{base:Heap}
theorem xa.okC{x qual:Str}{st:Stmt}{f:Addr}{fd:FuncData}{N ps:j4}{k:Nat}{sp:rj}(F:xa K x qual st f fd)(S:gk N ps<|ai st)(len:∀ds S R Z,sp ds S R Z->ds.length=ps.length)(mD:∀(gT:Value)(A:Around)(outer:jp)(s:Shared)(H:Hp)(E:XK)(ds:v0)(S:aq)(R:KD)(Z:KX),gT=fd.code->bO k (A.deeper<|envOfC qual (ai st) s.heap.objs.size f gT)->sp ds S R Z->∃t,IB K (kC (fG P w mg) P w K mg base N qual (ai st) f gT A outer s H E) true (aX st) t/\t {nx:=λ_ S'=>Fo S'<|R .av,rt:=λd S'=>Fo S'<|R d} (jz N ds) S λ_ C S'=>Fo S'<|Z C):bG P w K mg base (fG P w mg) (k+1) f fd ps (rl K sp):=by
 obtain⟨oc,od,dV,kV,doc,pm,an,gT,ct,Q7,rfl,lk,uh⟩:=F.ex;have dy:ps.length<=N.length:=by have:=congrArg List.length S.pre;rw[ym]at this;lia
 refine O7 lk uh S (by rintro vs H Q E ⟨ds,S',R,Z,v,_,h,_⟩;exact by rw[v.len];exact len _ _ _ _ h) λA outer s H vs Q E hr ⟨ds,S',R,Z,v,hS,h,hR,hZ⟩=>?_;obtain⟨t,ht,q⟩:=mD gT A outer s H E ds S' R Z rfl hr h;have L:dh (kC (fG P w mg) P w K mg base N qual (ai st) f gT A outer s H E) E:=vG;let y:Ev (kC (fG P w mg) P w K mg base N qual (ai st) f gT A outer s H E) true:={_,(kC (fG P w mg) P w K mg base N qual (ai st) f gT A outer s H E).xe,λ_=>E,{λp2 τ H1 s1 e s' I h=>Pd L p2 τ H1 s1 e s' I h,λ_ p2 τ H1 s1 h' a cls args I hx he=>pS L I hx he,λ_=>PassesOwn.leaving}};refine{L2.Tl K (λ_=>E) t,ht.of y,jz N ds,S',_,λ_ C S'=>Fo S'<|Z C,?_,hS,q,{by rintro σ S1 τ H1 ⟨S2,sb,r⟩ a b c;exact(hR.kp c).now (b.sub sb) r jw,by rintro d S1 v H1 ⟨S2,sb,r⟩ a b c;exact hR _ _ _ _ r a (b.sub sb) c,λ_ _ _ _ z=>z.elim,λ_ _ _ _ z=>z.elim},by rintro σ τ C S1 H1 ⟨S2,sb,r⟩ a b c;exact hZ C S2 H1 r (b.sub sb) c};unfold jz start;refine(sD v).app ?_;rw[v.len];exact sC _ _<|by rw[List.length_replicate]
end
structure Bj(ts:im)(H:Hp):Prop where
 all:∀b,H b=none\/(∃o xs,H b=some (.lM o<|.lst xs))\/(b∈ts/\H b=some (.qW #[]))
 tab:∀b∈ts,H b=some (.qW #[])
theorem Hr{P:Program}{w:World}{K:Frag}{mg mb:Str->Option Value}{CX:CT}{k:Nat}{fa a:Addr}{fd:FuncData}{x:Str}{sp:Sp}{aU:Shared}{vs:dL}{ns:rp}{ts:im}(KX:K.In aU.heap)(Si:aU.heap.Ns mainGlobals mg)(hb:aU.heap.Ns builtinsNs mb)(hbb:∀x:Str,x≠"__name__"->mb x=bootBuiltins x)(abN:aU.heap.NoLimit)(hbm:Bm mg aU.heap)(hg:aU.gens=#[])(hT:∀b∈ts,aU.heap.get? b=some (tabObj #[]))(hC:∀b∈ts,isCodeTable aU.heap b)(hN:∀b∈ts,K.lookup b=none)(ha:aU.heap.get? a=some {cls:=.type "list",data:=.seq vs.toArray})(hi:IntsAre vs ns)(hl:ns.length<=sizeLine)(hr:bO k callerA)(F:∀base:Heap,Bm mg base->K.In base->base.Ns mainGlobals mg->bG P w K mg base CX k fa fd [x] sp)(Xh:∀(s:Shared) (u:Value),BindsTo s fd {[u],[]} [(x,u)])(Uq:∀H:Hp,Bj ts H->jk K H a (ns.map V.int)->sp [.ref a] H (λv _=>v=.bl true) λ_ _ _=>False)(hCX:∀H e s',CX [] H aU (λ_ _ _=>False) e s'->False): codeAny (model P w) callerA (.call (.ref fa) {[.ref a],[]}) (λr s'=>r=.ok (.ret<|.bool true)/\OldK aU.heap s'.heap/\s'.os=aU.os/\AllBare s'.gens) aU:=by
 have rv:=vA hi;have abP:=hi.length;have Y1:a∉ts:=λz=>by rw[hT a z]at ha;cases ha
 have core:∀H:Hp,Bj ts H->jk K H a (ns.map V.int)->lN P w H aU.heap->(∀b,H b≠none->b=a\/b∈ts)->(H a≠none->K.lookup a=none)->codeAny (model P w) callerA (.call (.ref fa) {[.ref a],[]}) (λr s'=>r=.ok (.ret<|.bool true)/\OldK aU.heap s'.heap/\s'.os=aU.os/\AllBare s'.gens) aU:=by intro H hO hS aN hA hK;have xg:∀{b:Addr}{o:Obj},aU.heap.get? b=some o->H b=none->(uu aU.heap H).get? b=some o:=λe n=>IH e n;have ME:∀{b:Addr}{o:Obj}{es:Array DictEntry}{ep:Nat},aU.heap.get? b=some o->o.data=.dict es ep->H b=none:=λ{b o es ep} e d=>(by cases q:H b with|none=>rfl|some u=>rcases hA b (by rw[q];simp) with e'|e';subst e';rw[ha]at e;cases e;have d':Data.seq vs.toArray _=Data.dict es ep:=d;cases d';rw[hT b e']at e;cases e;cases d);have Zd:∀{b:Addr}{m:Str->Option Value},aU.heap.Ns b m->(uu aU.heap H).Ns b m:=λ{b m} ⟨o,es,ep,e,d,r⟩=>{o,es,ep,xg e<|ME e d,d,r};have hKb:K.In (uu aU.heap H):=λb o e=>xg (KX b o e) (by cases q:H b with|none=>rfl|some u=>rcases hA b (by rw[q];simp) with e'|e';subst e';rw[hK<|by rw[q];simp]at e;cases e;rw[hN b e']at e;cases e);have hM:Mod K mg (uu aU.heap H):={hKb,Zd Si,{mb,Zd hb,hbb},by obtain⟨mc,h1,h2⟩:=abN;exact{mc,Zd h1,h2}};have e0:AG P w K mg (uu aU.heap H) callerA [] aU H:={rfl,hM,λb o e=>Mi e,Nat.le_of_eq<|GI _ _,trivial,λb hb=>absurd (show b∈([]:im) from hb)<|by simp,aN,.of_eq hg};have hBm:Bm mg (uu aU.heap H):=(by obtain⟨bm,ob,b1,b2,b3,b4,b5,b6⟩:=hbm;refine{bm,ob,b1,b2,xg b3 ?_,b4,b5,b6};cases q:H bm with|none=>rfl|some u=>rcases hA bm (by rw[q];simp) with e'|e';rw[e',ha]at b3;cases b3;cases b6;rw[hT bm e']at b3;cases b3;cases b4);refine yW ((F _ hBm hKb<|Zd Si).run callerA [] aU H {[.ref a],[]} [.ref a] [.ref a] _ _ hr e0 (Xh aU<|.ref a) (.cons rfl .nil)<|Uq H hO hS) λr s' h=>?_;cases r with|error e=>exact(hCX H e s' h).elim|ok fl=>cases fl with|next=>exact False.elim h|brk=>exact False.elim h|cont=>exact False.elim h|ret u=>obtain⟨v,H',os,bare,un,Xi,r',q⟩:=h;have q':v=.bl true:=q;subst q';obtain rfl:u=Value.bool true:=r';refine{rfl,{λb o e=>?_,λb o e=>un.there b o e<|by simp},os,bare};rcases hO.all b with z|⟨ob,xs,z⟩|⟨z1,z⟩;exact .inl<|un.keep b o e z (by intro z;exact absurd (show b∈([]:im) from z)<|by simp) (by simp);have z2:=un.lO b ob _ z;obtain⟨e1,_⟩:=aN b _ z;obtain⟨e2,_⟩:=Xi b _ z2;rw[e]at e1;cases e1;exact .inl e2;obtain⟨more,z2⟩:=un.lP b _ z;have e2:=hT b z1;rw[e]at e2;cases e2;exact .inr<|.inl {hC b z1,rfl,#[],more,rfl,by have:=Xi b _ z2;exact this}
 have tabs:∀(H:Hp),(∀b,b∈ts->H b=some (.qW #[]))->∀b u,b∈ts->H b=some u->bj P w H aU.heap b u:=λH h b u hb e=>by rw[h b hb]at e;cases e;exact hT b hb
 cases hk:K.lookup a with|some o=>(have e:=KX a o hk;rw[ha]at e;cases e;refine core (λb=>if b∈ts then some (.qW #[]) else none) {λb=>?_,λb hb=>if_pos hb} (.inr {_,vs.toArray,_,hk,rfl,rfl,rfl,by rw[zt,abP];exact hl,by simpa using rv}) (λb u z=>?_) (λb z=>?_) λz=>absurd (if_neg Y1) z;by_cases hb:b∈ts;exact .inr<|.inr {hb,if_pos hb};exact .inl<|if_neg hb;by_cases hb:b∈ts;exact tabs _ (λb hb=>if_pos hb) b u hb z;have z':=(if_neg hb).symm.trans z;cases z';by_cases hb:b∈ts;exact .inr hb;exact absurd (if_neg hb) z)|none=>refine core (λb=>if b=a then some (.lM {cls:=.type "list",data:=.seq vs.toArray}<|.lst<|ns.map V.int) else if b∈ts then some (.qW #[]) else none) {λb=>?_,λb hb=>?_} (.inl<|.inr {{cls:=.type "list",data:=.seq vs.toArray},if_pos rfl}) (λb u z=>?_) (λb z=>?_) λ_=>hk;by_cases hb:b=a;exact .inr<|.inl {_,_,if_pos hb};by_cases Fv:b∈ts;exact .inr<|.inr {Fv,(if_neg hb).trans<|if_pos Fv};exact .inl<|(if_neg hb).trans<|if_neg Fv;have:b≠a:=λz=>Y1<|z ▸ hb;exact(if_neg this).trans<|if_pos hb;by_cases hb:b=a;have z':=(if_pos hb).symm.trans z;cases z';subst hb;exact{ha,by rw[zb];exact hl,vs,_,rv,ha};have z':=(if_neg hb).symm.trans z;by_cases Fv:b∈ts;have z2:=(if_pos Fv).symm.trans z';cases z2;exact hT b Fv;have z2:=(if_neg Fv).symm.trans z';cases z2;by_cases hb:b=a;exact .inl hb;by_cases Fv:b∈ts;exact .inr Fv;exact absurd ((if_neg hb).trans<|if_neg Fv) z
theorem Fw:∀{K:Frag},b∉K.map (·.1)->K.lookup b=none|[],_=>rfl| (a,o)::K,h=>by rw[zC,zm,not_or]at h;rw[zW,show(b==a)=false from beq_false_of_ne h.1];exact Fw h.2
theorem NH{K:Params->Frag}{as:im}{e:∀P,as=(K P).map (·.1)}{ts:im}{w:World}{h:Heap}(_:(PySem.W.kmHook K as e ts).says w h)(d:∀b∈ts,b∉as):∀b∈ts,(K w.params).lookup b=none:=λb hb=>Fw<|by rw[<-e];exact d b hb
theorem Kf{l:PySem.W.OpenLaw}{n k:Nat}{q:Program}{loose:j4}{XP:(Str->Option Value)->Heap->Prop}{YP:World->Heap->Prop}{d:DefRec}{K:Params->Frag}{CX:CT}{x:Str}{ts:im}(hn:l.most=some n)(O5:n<=sizeLine)(VP:d.params.defaults=[])(hr:bO k callerA)(hY:∀(w:World)(h:Heap),YP w h->(K w.params).In h)(hT:∀(w:World)(h:Heap),YP w h->∀b∈ts,h.get? b=some (tabObj #[]))(hN:∀(w:World)(h:Heap),YP w h->∀b∈ts,(K w.params).lookup b=none)(F:∀(w:World)(mg:Str->Option Value)(fa:Addr)(h:Heap),(K w.params).In h->h.Ns mainGlobals mg->mg d.name=some (.ref fa)->∃(fd:FuncData)(sp:Sp),(∀b∈ts,∃c,codeHdIn (K w.params) c b=true)/\(∀(s:Shared)(u:Value),BindsTo s fd {[u],[]} [(x,u)])/\(∀base:Heap,Bm mg base->(K w.params).In base->base.Ns mainGlobals mg->bG l.prog w (K w.params) mg base CX k fa fd [x] sp)/\∀(H:Hp)(a:Addr)(ns:rp),ns.length<=n->Bj ts H->jk (K w.params) H a (ns.map V.int)->sp [.ref a] H (λv _=>v=.bl true) λ_ _ _=>False)(hCX:∀(H:Hp)(s:Shared)(e:Value)(s':Shared),CX [] H s (λ_ _ _=>False) e s'->False): PySem.W.WalkO q loose XP YP l.row.toRowW d [] (λf vs=>PySem.call f vs):=by refine Att.AO hn VP λw dw aU mg mb fa o pm cd doc a vs ns G Y ho hd uh Rx Ry hints hlen hg=>?_;have KX:=hY w _ Y;obtain⟨fd,sp,hC,hb,hF,Uq⟩:=F w mg fa _ KX G.T.g Rx;have hT':=hT w _ Y;exact Hr KX G.T.g G.T.b G.T.builtins G.T.nolimit G.T.bmain hg hT' (λb z=>by obtain⟨c,hc⟩:=hC b z;exact((codeHd_of_K KX hc).tab<|hT' b z).isCodeTable) (hN w _ Y) Ry hints (zO hlen O5) hr hF hb (λH hO hS=>Uq H a ns hlen hO hS) λH e s'=>hCX H aU e s'
namespace Rt
theorem own:Manifest.owners.lookup (String.ofList ['d','e','s','r','e','v','e','r'].reverse)=some Manifest.sig_reversed:=by kernel_rfl
theorem mQ:Slot "reversed" "__next__" "reversed.__next__":=.of (owner:="reversed") (n:="__next__") (by rw[typeLookup_type,builtinLookup_eq_fast];kernel_rfl) (by trivial) (by trivial) (by trivial) (by first|exact .inl (by trivial)|exact .inr (by trivial))<|by rw[isSubtype_type];kernel_rfl
theorem Fx:entryFor table "reversed.__next__"= some Builtin.«reversed.__next__»:=entryFor_of_tree<|by kernel_rfl
theorem Fy(a:Value):argsOk "reversed.__next__" {[a],[]}:=by unfold argsOk;rw[signature?_of (id:="reversed.__next__") (n:=['_','_','t','x','e','n','_','_']) (o:=['d','e','s','r','e','v','e','r']) (by kernel_rfl) own];kernel_rfl
theorem Fz:Slot "reversed" "__iter__" "reversed.__iter__":=.of (owner:="reversed") (n:="__iter__") (by rw[typeLookup_type,builtinLookup_eq_fast];kernel_rfl) (by trivial) (by trivial) (by trivial) (by first|exact .inl (by trivial)|exact .inr (by trivial))<|by rw[isSubtype_type];kernel_rfl
theorem NI(a:Value):argsOk "reversed.__iter__" {[a],[]}:=by unfold argsOk;rw[signature?_of (id:="reversed.__iter__") (n:=['_','_','r','e','t','i','_','_']) (o:=['d','e','s','r','e','v','e','r']) (by kernel_rfl) own];kernel_rfl
theorem NJ:entryFor table "reversed.__iter__"= some Builtin.«dict_keyiterator.__iter__»:=entryFor_alias (id':="dict_keyiterator.__iter__") (by kernel_rfl) (by first|rfl|decide +kernel|(unfold String.splitOn;simp +decide [String.splitOnAux])) (by trivial)<|by kernel_rfl
theorem NK:Slot "reversed" "__init__" "object.__init__":=.of (owner:="object") (n:="__init__") (by rw[typeLookup_type,builtinLookup_eq_fast];kernel_rfl) (by trivial) (by trivial) (by trivial) (by first|exact .inl (by trivial)|exact .inr (by trivial))<|by rw[isSubtype_type];kernel_rfl
theorem called:TypeCalled "reversed" "reversed.__new__" "object.__init__":={by trivial,by trivial,{_,_,F.mro_reversed},F.made_reversed,by trivial,by rw[isSubtype_type];kernel_rfl,NK}
theorem Sr:typeLookup (.type "tuple") "__reversed__"= pure none:=by rw[typeLookup_type,builtinLookup_eq_fast];kernel_rfl
theorem FA:typeLookup (.type "tuple") "__getitem__"= pure (some<|.builtin "tuple.__getitem__"):=by rw[typeLookup_type,builtinLookup_eq_fast];kernel_rfl
theorem NL:isSubtype (.type "tuple") (.type "dict")=pure false:=by rw[isSubtype_type];kernel_rfl
end Rt
noncomputable def Bk(l:Addr)(i:Int):Obj:={cls:=.type "reversed",data:=.fields #[.ref l,rawInt i]}
def sL(h:Heap)(a l:Addr)(i:Int):Prop:=∃o,h.get? a=some o/\o.cls=.type "reversed"/\o.data=.fields #[.ref l,rawInt i]
section
variable{prog:Program}{w:World}{A:Around}{E:lc}{s:Shared}
theorem sL.typeIs(x:sL s.heap a l i):s.TypeIs (.ref a) "reversed":=by obtain⟨o,ho,hc,_⟩:=x;exact⟨o,ho,hc⟩
theorem sL.keep(x:sL h a l i)(e:∀o,h.get? a=some o->h'.get? a=some o):sL h' a l i:=by obtain⟨o,ho,r⟩:=x;exact{o,e _ ho,r}
theorem Ss(hl:IsTup s.heap l items)(hz:items.size<=sizeLine)(h:Q₁ (.ref s.heap.objs.size) {s with heap:=s.heap.push<|Bk l<|(items.size:Int)-1,toks:=s.toks+1+1}): codeAny (model prog w) A (.call (.builtin "reversed.__new__") {[.type "reversed",.ref l],[]}) (wants Q₁ E) s:=by
 refine codeAny_of_tree ?_;show wpAny _ A.in1 (do checkBuiltinCall "reversed.__new__" {[.type "reversed",.ref l],[]};again (.builtin "reversed.__new__" {[.type "reversed",.ref l],[]})) _ _ s;refine zc<|yY (F.newCall_reversed_1 _)<|zA {plainId_quiet F.plain_reversed_new _,yR F.entry_reversed_new ?_};rw[Around.under_plainId F.plain_reversed_new _];unfold Builtin.«reversed.__new__»;refine zc<|yY (newClass_reversed _) ?_;refine zc<|yY (a:=()) (by first|rfl|kernel_rfl)<|zc<|yY (a:=()) (by first|rfl|kernel_rfl) ?_;refine zc<|wpAny_specialOf hl.typeIs Rt.Sr ?_;refine zc<|zc<|wpAny_isInstance hl.typeIs Rt.NL<|zc<|wpAny_specialOf hl.typeIs Rt.FA ?_;show wpAny _ _ (if (["tuple.__getitem__","str.__getitem__","bytes.__getitem__","bytearray.__getitem__","memoryview.__getitem__","numpy.ndarray.__getitem__","sqlite3.Row.__getitem__"]:List String).contains "tuple.__getitem__"= true then pure true else _) _ _ _;rw[if_pos<|by trivial];refine zA ?_
 show wpAny _ _ (do
     let oI <-call (Value.builtin "len") [Value.ref l]
     let __x <-asInt? oI
     match __x with
      |some n=>do
       let oI <-Builtin.SmallTypes.newRecord (Value.type "reversed") [Value.ref l,rawInt (n-1)]
       ret oI
      |x=>unsupported "internal:reversed.__new__") _ _ _
 refine zc<|len_tuple hl (by rw[yf]at hz;lia) ?_;refine zc<|yY (a:=some ((items.size:Nat):Int)) rfl ?_;exact zc (m:=newObj (.type "reversed")<|.fields #[.ref l,rawInt<|((items.size:Nat):Int)-1])<|yH<|zA h
theorem NM(hl:IsTup s.heap l items)(hz:items.size<=sizeLine)(h:Q (.ref s.heap.objs.size) {s with heap:=s.heap.push<|Bk l<|(items.size:Int)-1,toks:=s.toks+1+1}): wpAny (model prog w) A (call (.type "reversed") [.ref l]) Q E s:=by refine callType_codes Rt.called (F.typeCall_reversed_1 _) F.entry_object_init (Q₁:=λobj aU=>aU.TypeIs obj "reversed"/\Q obj aU) (Ss hl hz {{_,zk _ rfl,rfl},h}) λobj aU h₁=>?_;exact{h₁.1,F.args_object_init_2 obj _,object_init_meets Rt.called.init.lookup Rt.called.made (by decide) prog w A.in1 _ aU ⟨h₁.1,rfl,h₁.2⟩}
theorem sqx(h:k<n):seqIndex? ((k:Nat):Int) n=some k:=by have e:(if ((k:Nat):Int)<0 then ((k:Nat):Int)+(n:Int) else ((k:Nat):Int))=((k:Nat):Int):=if_neg (by lia);unfold seqIndex?;dsimp only;rw[e,if_pos<|by simp;lia];rfl
theorem NN{it l:Addr}{i:Nat}{items:ii}{x:Value}{Q:Option Value->Shared->Prop}(hit:sL s.heap it l (i:Int))(hl:IsTup s.heap l items)(hz:items.size<=sizeLine)(hx:items[i]?=some x)(hQ:∀h' tk,sL h' it l ((i:Int)-1)->Heap.SameBut it s.heap h'->Q (some x) {s with heap:=h',toks:=tk}):wpAny (model prog w) A (pyNext<|.ref it) Q E s:=by obtain⟨o,ho,hc,hd⟩:=id hit;have hi:i<items.size:=(Array.getElem?_eq_some_iff.mp hx).1;unfold pyNext;refine zc<|wpAny_attempt<|wpAny_callSpecial?_slot (name:=Str.ofString "__next__") hit.typeIs Rt.mQ<|yN Rt.mQ hit.typeIs Rt.Fx ?_<|Rt.Fy _;unfold Builtin.«reversed.__next__»;refine zc<|yY (a:=(Value.ref it,[])) rfl<|zc<|yh ho hd (x:=.ref l) rfl<|zc<|yh ho hd (x:=rawInt (i:Int)) rfl ?_;show wpAny _ _ (if (i:Int)<0 then _ else _) _ _ s;rw[if_neg<|by lia];show wpAny _ _ (specialOf (.ref l) "__getitem__" >>=_) _ _ s;refine zc<|wpAny_specialOf hl.typeIs Rt.FA ?_;show wpAny _ _ (mkInt (i:Int) >>=_) _ _ s;refine zc<|wpAny_mkInt ?_;refine zc<|wpAny_attempt<|getItem_tuple (j:=i) hl (by lia) (by rw[yf]at hz;lia) (sqx hi) hx ?_;refine zc<|yh ho hd (x:=rawInt (i:Int)) rfl ?_;show wpAny _ _ (setField (.ref it) 1 (rawInt<|(i:Int)-1) >>=λ_=>ret x) _ _ _;refine zc<|yU ho hd (by simp)<|zA {x,rfl,zA<|hQ _ _ ?_<|yC ..};exact{_,yy _ ho<|Obj.isFreed_of_fields<|yA hd _,(Obj.cls_mapFields ..).trans hc,by rw[yA hd];simp}
theorem Su(hh:A.handled=none)(hit:sL s.heap it l (-1))(hQ:∀h',Heap.ExtBut it s.heap h'->Q none {s with heap:=h'}):wpAny (model prog w) A (pyNext<|.ref it) Q E s:=by
 obtain⟨o,ho,hc,hd⟩:=id hit;unfold pyNext;refine zc<|wpAny_attempt<|wpAny_callSpecial?_slot (name:=Str.ofString "__next__") hit.typeIs Rt.mQ<|yN Rt.mQ hit.typeIs Rt.Fx ?_<|Rt.Fy _;unfold Builtin.«reversed.__next__»;refine zc<|yY (a:=(Value.ref it,[])) rfl<|zc<|yh ho hd (x:=.ref l) rfl<|zc<|yh ho hd (x:=rawInt (-1)) rfl ?_;show wpAny _ _ (if (-1:Int)<0 then _ else _) _ _ s;rw[if_pos<|by decide];refine zc<|wpAny_rule ?_;have hd1:=yA hd (·.setIfInBounds 1 (rawInt (-1)));have UK:=yy (Obj.mapFields (·.setIfInBounds 1 (rawInt (-1)))) ho<|Obj.isFreed_of_fields hd1;refine zc (m:=setField (.ref it) 1 (rawInt (-1)) >>=λ_=>setField (.ref it) 0 .none)<|zc<|yU ho hd (by simp)<|yU UK hd1 (by simp) ?_;have eb:Heap.ExtBut it s.heap ((s.heap.update it (Obj.mapFields (·.setIfInBounds 1 (rawInt (-1))))).update it (Obj.mapFields (·.setIfInBounds 0 Value.none))):=λb u hb e=>by rw[yt _ _<|Ne.symm hb,yt _ _<|Ne.symm hb];exact e
 refine zc ?_;show wpAny _ _ (newExc (.type "StopIteration") [] >>=_) _ _ _;refine zc ?_;simp only[newExc,newTuple];refine zc<|yH ?_ (by size_fits);refine zc (m:=firstArgMember _ _)<|yY (a:=Value.none) (by first|rfl|(simp only[firstArgMember];rfl)) ?_;refine yH ?_ (by size_fits);simp only[raiseNew];refine zc<|wpAny_handled ?_;first|rw[show A.in1.handled=none from hh]|rw[hh]
 refine zc<|zA<|wpAny_throw ?_;refine zc<|wpAny_isInstance (T:="StopIteration") (b:=true) {_,zk _ rfl,rfl} isSubtype_stop ?_;exact zA<|hQ _<|(eb.push _).push _
theorem FC(hit:sL s.heap it l i)(h:Q (.ref it) s):wpAny (model prog w) A (pyIter<|.ref it) Q E s:=by refine wpAny_pyIter_slot hit.typeIs Rt.Fz<|yN Rt.Fz hit.typeIs Rt.NJ ?_<|Rt.NI _;show wpAny _ _ (ret<|.ref it) _ _ s;exact zA !{"reversed",_,hit.typeIs,Rt.mQ.lookup,h}
end
end L2
namespace L2
open PySem PySem.Spec PyProof.Rows
def Xj(K:Frag)(a:Addr)(n:Nat):It:={λi H=>∃xs x,jc K H a xs/\xs.length=n/\i<n/\xs[n-1-i]?=some x,λi H x H'=>H'=H/\∀xs,jc K H a xs->xs.length=n->xs[n-1-i]?=some x,λi _=>n<=i}
theorem NO{P:Program}{w:World}{K:Frag}{tg:Expr}(a it:Addr)(n:Nat):Turn P w K tg (Xj K a n) [it] it (λi h=>i<=n/\sL h it a ((n:Int)-1-(i:Int))) where
 mem:=by simp
 obj:=λi h st b hb=>by
  have e:b=it:=by simpa using hb
  subst e
  obtain⟨_,o,e,c,d⟩:=st
  exact{o,e,λv z=>by rw[d]at z;cases z}
 keep:=λi h h' st k=>{st.1,st.2.keep λo e=>k it (by simp) o e}
 item:=by
  intro X hP hw hK hc i pins s σ H E I hf st hg
  subst hP hw hK
  obtain⟨xs,x,hq,hn,hi,hx⟩:=hg
  obtain⟨ay,rv,p,hz⟩:=I.tuple hq
  obtain⟨u,hu,ru⟩:=rv.get hx
  obtain⟨f0,f1,f2,f3,f4,f5⟩:=hf it<|by simp
  have e:(n:Int)-1-(i:Int)=((n-1-i:Nat):Int):=by lia
  have hit:=st.2
  rw[e]at hit
  refine NN hit p (by rw[zt,<-rv.length];exact hz) (x:=u) (by simpa using hu) λh' tk e_ sb=>?_
  have I1:Inv X pins σ H {s with heap:=h',toks:=tk}:=I.turned (t':=tk) (λb o hb e=>(sb.2 b hb).trans e) f0 f1 f3 f4 f5
  obtain⟨o,e1,c,d⟩:=id e_
  refine{u,rfl,vg (s:={s with heap:=h',toks:=tk}) e1 c d (by decide) {x,H,I1,ru,{rfl,λys hy _=>by rw[I.oq hy hq];exact hx},{hi,?_},λb hb=>(hf b hb).1}}
  have e2:(n:Int)-1-((i+1:Nat):Int)=((n-1-i:Nat):Int)-1:=by lia
  rw[e2];exact e_
 done:=by
  intro X hP hw hK hc i pins s σ H E I hf st hg
  subst hP hw hK
  obtain⟨f0,f1,f2,f3,f4,f5⟩:=hf it<|by simp
  have hg:n<=i:=hg
  have e:(n:Int)-1-(i:Int) = -1:=by have:=st.1;lia
  have hit:=st.2
  rw[e]at hit
  exact Su (I.ok.hd hc) hit λh' eb=>{rfl,I.turned (t':=s.toks) (λb o hb e=>eb b o hb e) f0 f1 f3 f4 f5}
 self:=λ_ _ _ _ _ st h=>FC st.2 h
def iRt(K:Frag)(ta:TA):TI:=λσ H R=>ta σ H λvs H1=>∃a xs,vs=[.ref a]/\jc K H1 a xs/\R (Xj K a xs.length) H1
theorem Xk{X:Cx}{tg a:Expr}{ta:TA}{p pos:Pos}(hg:Gl X "reversed")(hm:X.mg "reversed"= none)(ha:PA X [a] ta)(hs:starEach [a] X.env=[(false,eval a X.env)]):PI X tg (.Call (.Name "reversed" p) [a] [] pos) (iRt X.K ta):=by
 intro pins s σ H R I h;refine Call_<|gC I hg hm boot_reversed<|PyProof.Rows.callWith_type1 (bb (ha pos pins s σ H _ I h) λus s1 ⟨vs,H1,I1,r1,q1⟩=>?_) hs rfl;obtain⟨l,xs,e,q,hR⟩:=q1;subst e;obtain⟨u,rfl,ru⟩:=vals1 r1;cases ru;obtain⟨ay,rv,pl,hz⟩:=I1.tuple q;have hn:ay.toArray.size=xs.length:=by rw[zt,rv.length]
 refine NM pl (by rw[hn];exact hz) ?_;rw[hn];have st:sL (s1.heap.push<|Bk l<|(xs.length:Int)-1) s1.heap.objs.size l ((xs.length:Int)-1-((0:Nat):Int)):={_,zk _ rfl,rfl,by show Data.fields _=Data.fields _;simp};have I2:Inv X pins σ H1 {s1 with heap:=s1.heap.push<|Bk l<|(xs.length:Int)-1,toks:=s1.toks+1+1}:=I1.kept (t':=s1.toks+1+1) λb o e=>za _ e;refine FC (s:={s1 with heap:=s1.heap.push<|Bk l<|(xs.length:Int)-1,toks:=s1.toks+1+1}) st {_,_,_,_,H1,rfl,I2,NO l s1.heap.objs.size xs.length,{zV _,st},λb hb=>?_,hR};have hb:b=s1.heap.objs.size:=by simpa using hb
 subst hb;exact I1.qz (zq _)<|I1.aN.fresh<|zq _
section
variable{K:Frag}{X:Cx}{tg:Expr}
def abQ(t:je):A7:=λσ S R Z=>t σ S (λds S1=>∃es,ds=[.tup es]/\R {es.reverse,λ_=>True} S1) Z
theorem irt{t:je}(hm:X.mg "reversed"= none)(ha:DA K X [a] t)(hg:autoParam (Gl X "reversed") qQJ)(hs:autoParam (starEach [a] X.env=[(false,eval a X.env)]) qQJ)(hK:autoParam (X.K=K) qQJ):DI K X tg (.Call (.Name "reversed" p) [a] [] pos) (abQ t):=by subst hK;exact⟨λy=>(Xk (X:=y.cx) hg hm (ha.of y) hs).mono <| by rintro τ H R ⟨σ,S,RI,Z,aC,hS,q,hR,hZ⟩;exact{σ,S,_,Z,aC,hS,q,by rintro ds S1 vs H1 ⟨es,e,r1⟩ v1 s1 k1;subst e;obtain⟨v,rfl,r⟩:=v1.one;obtain⟨a,xs,rfl,hq,t⟩:=r.tup;refine{a,xs,rfl,.inl<|.of hq,hR _ S1 _ H1 r1 (λi S2 H2 k2 s2 YZ=>?_) s1 k1};have DF:jc X.K H2 a xs:=.inl<|.of<|k2.t _ _ hq;have t2:=RvAll.ts k2 _ t;have hl:xs.length=es.length:=t.len;refine{λd hd=>?_,λh=>by rw[zP]at h;show xs.length<=i;lia};have hi:i<es.length:=(by have:=(zf.mp hd).1;rwa [zP]at this);rw[List.getElem?_reverse hi]at hd;obtain⟨v,e1,r⟩:=t2.get hd;rw[hl];refine{⟨xs,v,DF,hl,hi,e1⟩,λx' H' ⟨e2,e3⟩=>?_};subst e2;have:=e3 xs DF hl;rw[e1]at this;cases this;exact{r,.refl _,s2},hZ}⟩
end
section
variable{K:Frag}{X:Cx}{pos:Pos}
def Sv(tc:mw)(tb:mM):mM:=λDe σ S Z=>∃P:Nat->SD->aq->Prop,(∃m,P m σ S)/\∀m σ S,P m σ S->tc σ S (λb S1=>if b=true then tb {De with nx:=λaG S'=>∃m',m'<m/\P m' aG S',ct:=λaG S'=>∃m',m'<m/\P m' aG S',bk:=De.nx} σ S1 Z else De.nx σ S1) (Z σ)
theorem swh(hc:DT K X c tc)(hb:IB K X true body tb):DS K X true (.While c body [] pos) (Sv tc tb):=
 ⟨λy=>(IQ (X:=y.cx) (y.ok.loop rfl) (hc.of y)<|hb.of y).mono <| by rintro D τ H ⟨σ,S,De,Z,aC,hS,⟨P,⟨m,p0⟩,turn⟩,hD,hZ⟩;exact
  ⟨λm UB H'=>∃σ S,iu K H' σ UB/\Rs K S H'/\P m σ S/\Kp K H H',⟨m,σ,S,aC,hS,p0,.refl _⟩,by rintro m τ1 H1 ⟨Aq,S1,a1,s1,p1,k1⟩;exact⟨Aq,S1,_,Z Aq,a1,s1,turn m Aq S1 p1,λb S2 H2 r2 s2 k2=>by
   cases b with
   |true =>
    rw[if_pos rfl]at r2⊢
    refine{λτ3 H3=>∃σ S,iu K H3 σ τ3/\Rs K S H3/\(∃m',m'<m/\P m' σ S)/\Kp K H H3,by rintro τ3 H3 ⟨f_,S3,a3,s3,⟨m',hm,p3⟩,k3⟩;exact⟨m',hm,f_,S3,a3,s3,p3,k3⟩,?_}
    have kk:=k1.trans k2
    exact{Aq,S2,_,Z,a1.ts k2,s2,r2,{λR_ S5 τ5 H5 r5 a5 s5 k5=>{R_,S5,a5,s5,r5,kk.trans k5},hD.rt.kp kk,hD.nx.kp kk,λR_ S5 τ5 H5 r5 a5 s5 k5=>{R_,S5,a5,s5,r5,kk.trans k5}},hZ.kp kk}
   |false =>
    rw[if_neg zd]at r2⊢
    exact hD.nx _ _ _ _ r2 (a1.ts k2) s2<|k1.trans k2,(hZ.kp k1).at a1⟩⟩⟩
def abS(i:Nat)(te:TD):mM:=λDe σ S Z=>∃a:Int,σ[i]?=some (some<|.int a)/\te σ S (λd S1=>∃b:Int,d=.int b/\De.nx (σ.set i<|some<|.int<|a+b) S1) (Z σ)
theorem sau(hN:X.N.Nodup)(he:DE K X e te)(hi:autoParam (X.N[i]?=some x) qQJ)(hx:autoParam (Loc X.env.scope x) qJQ)(hf:autoParam (X.fn x=true\/X.env.scope.names.lookup x=some .local) qJQ): DS K X b (.AugAssign (.Name x pos') .Add e pos) (abS i te):=⟨λy=>(QN (X:=y.cx) hN hi hx (he.of y) QO hf).mono <| by rintro D τ H ⟨σ,S,De,Z,aC,hS,⟨a,ha,t⟩,hD,hZ⟩;obtain⟨v,e1,r⟩:=aC.get ha;exact{v,e1,σ,S,_,Z σ,aC,hS,t,by rintro d S1 u H1 ⟨c,e2,n⟩ rv s1 k1;subst e2;exact{a,c,r.int,rv.int,hD.nx _ _ _ _ n ((aC.ts k1).set i<|aP _) s1 k1},hZ.at aC}⟩
noncomputable def vD:V->D|.int i=>.int i|.str z=>.str z|.bl b=>.bl b|_=>.av
noncomputable def DN:V->Bool|.int _=>true|.str _=>true|_=>false
def Xl(kvs:ge)(ty:TD):TD:=λσ S R Z=>ty σ S (λy S1=>∃z,y=.str z/\R ((kvs.lookup z).elim .av vD) S1) Z
theorem mgk{w:World}{ad:Addr}{kvs:ge}{o e:Expr}{apos aO:Pos}{ty:TD}(d:Iy w K ad kvs)(hf:(kvs.all λp=>DN p.2)=true)(ho:∀Y:Cx,Y.env=X.env->Y.mg=X.mg->PE Y o (tC<|.ref ad))(he:DE K X e ty)(hw:autoParam (X.w=w) qQJ)(hK:autoParam (X.K=K) qQJ)(m:autoParam (M1 X o "get" apos e aO) qQ4): DE K X (.Call (.Attribute o "get" apos) [e] [] aO) (Xl kvs ty):=⟨λy=>(JE (X:=y.cx) hw hK (ho y.cx rfl rfl) (he.of y) ⟨m.base,m.Iu,m.line,m.trees⟩).mono <| by rintro τ H Q ⟨σ,S,R,Z,aC,hS,q,hR,hZ⟩;exact⟨ad,kvs,rfl,d,σ,S,_,Z,aC,hS,q,by
 rintro yv S1 v H1 ⟨z,e1,r⟩ rv s1 k1;subst e1;refine{z,rv.str,hR _ _ _ _ r ?_ s1 k1};have fl:∀v,kvs.lookup z=some v->DN v=true:=λv hv=>by have:=yi hv;exact zX.mp hf _ this
 cases q:kvs.lookup z with|none=>exact jw|some v=>have:=fl v q;cases v with|int i=>exact aP i|str i=>exact cA i|_=>(cases this),hZ⟩⟩
end
theorem gK(hm:X.mg x=some (.ref a))(hg:autoParam (Gl X x) qQJ)(hd:autoParam ((x==("__debug__": Str))=false) qQZ):∀Y:Cx,Y.env=X.env->Y.mg=X.mg->PE Y (.Name x pos) (tC<|.ref a):=λY e1 e2=>EV (X:=Y) (u:=.ref a) (show Y.env.kindOf x=_ by rw[e1];exact hg) (by rw[e2];exact hm) rfl hd
structure Fb(K:Frag)(x q:Str)(st:Stmt)(ps:j4)(f:Addr)(d:FuncData):Prop where
 F:xa K x q st f d
 b:Binds K d ps []
structure Ht(K:Frag)(mg:Str->Option Value)(x:Str)(st:Stmt)(ps:j4)(f:Addr)(d:FuncData):Prop extends Fb K x x st ps f d where
 k:keepIn K (.ref f)=true
 m:mg x=some (.ref f)
structure PM(K:Frag)(c:Addr)(x q:Str)(st:Stmt)(ps:j4)(f:Addr)(d:FuncData):Prop extends Fb K x q st ps f d where
 e:Meth K c x f
abbrev Ok(P:Program)(w:World)(base:Heap){K:Frag}{mg:Str->Option Value}{x:Str}{st:Stmt}{ps:List Str}{f:Addr}{d:FuncData}(_:Ht K mg x st ps f d)(k:Nat)(sp:rj):Prop:=bG P w K mg base (fG P w mg) k f d ps<|rl K sp
abbrev oJ(P:Program)(w:World)(mg:Str->Option Value)(base:Heap){K:Frag}{c:Addr}{x q:Str}{st:Stmt}{ps:List Str}{f:Addr}{d:FuncData}(_:PM K c x q st ps f d)(k:Nat)(sp:rj):Prop:=bG P w K mg base (fG P w mg) k f d ps<|rl K sp
theorem fsc{N P:j4}{sc:Scope}(a:autoParam (sc.kind=.function/\sc.isCoroutine=false/\sc.isGenerator=false/\N.take P.length=P) qQ4)(b:autoParam (N.Nodup/\(∀x∈P,sc.names.lookup x=some .local\/sc.names.lookup x=some .cell)/\∀y∈sc.names,y.2≠.free) qQ6):gk N P sc:=⟨a.1,a.2.1,a.2.2.1,b.1,a.2.2.2,b.2.1,b.2.2⟩
section
variable{R:Prop}{K:Frag}{h:Heap}{mg:Str->Option Value}{od an:pi}{sl:sB}{oc dV kV dc pm cd ct:Value}{f da:Addr}{IE:pi}{dn:Nat}{IF:sB}{c:Addr}{tk:Tok}{d:FuncData}
theorem fn1(X:K.In h)(G:h.Ns mainGlobals mg)(x:Str)(st:Stmt)(ps:j4)(a:nsIn K mainGlobals x=some (some<|.ref f))(l:K.lookup f=some {oc,od,.func<|fnOf x x (aZ st) (aX st) (ai st) dV kV dc pm an cd ct,sl})(e:codeIn K cd x=true)(k:keepIn K (.ref f)=true)(b:∀us:dL,us.length=ps.length->bindArgs (fnOf x x (aZ st) (aX st) (ai st) dV kV dc pm an cd ct) {us,[]}=pure (ps.zip us))(g:∀d,Ht K mg x st ps f d->R):R:=g _ {{{_,_,_,_,_,_,_,_,_,_,rfl,l,e},.all b},k,mg_of X G a}
theorem fnl(X:K.In h)(G:h.Ns mainGlobals mg)(x:Str)(st:Stmt)(ps:j4)(a:nsIn K mainGlobals x=some (some<|.ref f))(l:K.lookup f=some {oc,od,.func<|fnOf x x (aZ st) (aX st) (ai st) dV kV dc pm an cd ct,sl})(e:codeIn K cd x=true)(k:keepIn K (.ref f)=true)(b:∀us:dL,us.length=ps.length->bindArgs (fnOf x x (aZ st) (aX st) (ai st) dV kV dc pm an cd ct) {us,[]}=pure (ps.zip us))(g:∀d,d.code=cd->(∀(s:Shared)(us:dL),us.length=ps.length->BindsTo s d {us,[]} (ps.zip us))->Ht K mg x st ps f d->R):R:=g _ rfl (λs us h=>.of_eq<|b us h) {{{_,_,_,_,_,_,_,_,_,_,rfl,l,e},.all b},k,mg_of X G a}
theorem fm1(C:q_ K c)(x q:Str)(st:Stmt)(ps:j4)(a:findIn K (.ref c) x=some (some<|.ref f))(i:isFn K (.ref f)=true)(l:K.lookup f=some {oc,od,.func<|fnOf x q (aZ st) (aX st) (ai st) dV kV dc pm an cd ct,sl})(e:codeIn K cd q=true)(k:keepIn K (.ref f)=true)(b:∀us:dL,us.length=ps.length->bindArgs (fnOf x q (aZ st) (aX st) (ai st) dV kV dc pm an cd ct) {us,[]}=pure (ps.zip us))(g:∀d,PM K c x q st ps f d->R):R:=g _ {{{_,_,_,_,_,_,_,_,_,_,rfl,l,e},.all b},a,i,k}
theorem fnd(X:K.In h)(G:h.Ns mainGlobals mg)(x:Str)(st:Stmt)(ps:j4)(a:nsIn K mainGlobals x=some (some<|.ref f))(l:K.lookup f=some {oc,od,.func<|fnOf x x (aZ st) (aX st) (ai st) (.ref da) kV dc pm an cd ct,sl})(t:K.lookup da=some {.type "tuple",IE,.seq #[.none] dn,IF})(e:codeIn K cd x=true)(k:keepIn K (.ref f)=true)(b:∀(s:Shared) (us:dL),s.heap.get? da=some {.type "tuple",IE,.seq #[.none] dn,IF}->us.length=ps.length->BindsTo s (fnOf x x (aZ st) (aX st) (ai st) (.ref da) kV dc pm an cd ct) {us,[]} (ps.zip us))(b2:∀(s:Shared) (us:dL),s.heap.get? da=some {.type "tuple",IE,.seq #[.none] dn,IF}->us.length+1=ps.length->BindsTo s (fnOf x x (aZ st) (aX st) (ai st) (.ref da) kV dc pm an cd ct) {us,[]} (ps.zip<|us++[.none]))(g:∀d,Ht K mg x st ps f d->Binds K d ps [.none]->R):R:=g _ {{{_,_,_,_,_,_,_,_,_,_,rfl,l,e},λs us hK hl=>by rw[yJ]at hl⊢;exact b s us (hK _ _ t) hl},k,mg_of X G a} λs us hK hl=>b2 s us (hK _ _ t)<|by simpa using hl
theorem fmd(C:q_ K c)(x q:Str)(st:Stmt)(ps:j4)(a:findIn K (.ref c) x=some (some<|.ref f))(i:isFn K (.ref f)=true)(l:K.lookup f=some {oc,od,.func<|fnOf x q (aZ st) (aX st) (ai st) (.ref da) kV dc pm an cd ct,sl})(t:K.lookup da=some {.type "tuple",IE,.seq #[.none] dn,IF})(e:codeIn K cd q=true)(k:keepIn K (.ref f)=true)(b:∀(s:Shared) (us:dL),s.heap.get? da=some {.type "tuple",IE,.seq #[.none] dn,IF}->us.length=ps.length->BindsTo s (fnOf x q (aZ st) (aX st) (ai st) (.ref da) kV dc pm an cd ct) {us,[]} (ps.zip us))(b2:∀(s:Shared) (us:dL),s.heap.get? da=some {.type "tuple",IE,.seq #[.none] dn,IF}->us.length+1=ps.length->BindsTo s (fnOf x q (aZ st) (aX st) (ai st) (.ref da) kV dc pm an cd ct) {us,[]} (ps.zip<|us++[.none]))(g:∀d,PM K c x q st ps f d->Binds K d ps [.none]->R):R:=g _ {{{_,_,_,_,_,_,_,_,_,_,rfl,l,e},λs us hK hl=>by rw[yJ]at hl⊢;exact b s us (hK _ _ t) hl},a,i,k} λs us hK hl=>b2 s us (hK _ _ t)<|by simpa using hl
theorem Cv(X:K.In h)(G:h.Ns mainGlobals mg)(x:Str)(a:nsIn K mainGlobals x=some none)(g:mg x=none->R):R:=g<|PySem.W.mg_none_of X G a
theorem NP(X:K.In h)(G:h.Ns mainGlobals mg)(x:Str)(i:Int)(a:nsIn K mainGlobals x=some (some<|.int i tk))(g:mg x=some (.int i tk)->R):R:=g<|mg_of X G a
theorem Xm(X:K.In h)(G:h.Ns mainGlobals mg)(x:Str)(a:nsIn K mainGlobals x=some (some<|.ref c))(l:K.lookup c=some o)(g:mg x=some (.ref c)->K.lookup c=some o->R):R:=g (mg_of X G a) l
theorem NQ(X:K.In h)(G:h.Ns mainGlobals mg)(x:Str)(a:nsIn K mainGlobals x=some (some<|.ref c))(e:excIn K c L2.oB "ValueError.__new__"= true)(g:mg x=some (.ref c)->excIn K c L2.oB "ValueError.__new__"= true->R):R:=g (mg_of X G a) e
theorem gvc(X:K.In h)(G:h.Ns mainGlobals mg)(x:Str)(a:nsIn K mainGlobals x=some (some<|.ref c))(pg:plainGet K c Str.empty=true)(hd:hasDictIn K c=true)(po:plainOver K c=true)(sa:findIn K (.ref c) "__setattr__"= some (some<|.builtin "object.__setattr__"))(ms:makesIn K c=true)(kc:keepIn K (.ref c)=true)(g:mg x=some (.ref c)->q_ K c->makesIn K c=true->keepIn K (.ref c)=true->R):R:=g (mg_of X G a) ⟨pg,hd,po,sa⟩ ms kc
theorem NR(C:q_ K c)(x:Str)(a:findIn K (.ref c) x=some none)(g:findIn K (.ref c) x=some none->R):R:=g a
theorem Sw{P:Addr}(l:K.lookup c=some o)(e:codeHdIn [(c,o)] c P=true):codeHdIn K c P=true:=by unfold codeHdIn at e⊢;rw[l];rw[show([(c,o)]:Frag).lookup c=some o by simp]at e;exact e
theorem gvm{P:Addr}(X:K.In h)(e:d.code=.ref c)(o:K.lookup c=some {oC,od,.fields vC,sl})(q:vC[11]?=some (.ref P))(hh:codeHdIn [(c,{oC,od,.fields vC,sl})] c P=true)(g:codeHdIn K c P=true->R):R:=g<|Sw o hh
end
section
variable{Q:List Value->Prop}
theorem Ze(h:Q [])(us:dL)(e:us.length=0):Q us:=by cases us with|nil=>exact h|cons a us=>cases e
theorem Hu(h:∀a us,us.length=n->Q (a::us))(us:dL)(e:us.length=n+1):Q us:=by cases us with|nil=>(cases e)|cons a us=>exact h a us<|yX e
theorem UO(h:∀a,Q [a]):∀us:dL,us.length=1->Q us:=Hu λa=>Ze<|h a
theorem ln2(h:∀a b,Q [a,b]):∀us:dL,us.length=2->Q us:=Hu λa=>UO<|h a
theorem Sy(h:∀a b c,Q [a,b,c]):∀us:dL,us.length=3->Q us:=Hu λa=>ln2<|h a
theorem Xn(h:∀a b c d,Q [a,b,c,d]):∀us:dL,us.length=4->Q us:=Hu λa=>Sy<|h a
theorem Zg(h:∀a b c d e,Q [a,b,c,d,e]):∀us:dL,us.length=5->Q us:=Hu λa=>Xn<|h a
theorem Xo(h:∀a b c d e f,Q [a,b,c,d,e,f]):∀us:dL,us.length=6->Q us:=Hu λa=>Zg<|h a
theorem abU(h:∀a,Q [a])(us:dL)(e:us.length+1=2):Q us:=UO h us<|yX e
theorem abV(h:∀a b,Q [a,b])(us:dL)(e:us.length+1=3):Q us:=ln2 h us<|yX e
theorem abW(h:∀a b c,Q [a,b,c])(us:dL)(e:us.length+1=4):Q us:=Sy h us<|yX e
end
section
variable{K:Frag}{X:Cx}{x:Str}{st:Stmt}{ps:j4}{f:Addr}{fd:FuncData}{sp:rj}{e:Expr}{es:li}{p pos:Pos}
theorem aM{t:je}(T:Ht K X.mg x st ps f fd)(F:bG X.prog X.w K X.mg X.base (fG X.prog X.w X.mg) k f fd ps<|rl K sp)(hr:bO k' X.A)(ha:DA K X (e::es) t)(hle:autoParam (k<=k') qJK)(hg:autoParam (Gl X x) qQJ)(qB:autoParam ((x==("__debug__": Str))=false) qQZ)(he:autoParam (starEach (e::es) X.env=(false,eval e X.env)::starEach es X.env) qQJ)(dy:autoParam ((backTo pos<|starEach es X.env).any (·.1)=false) qQJ)(hK:autoParam (X.K=K) qQJ): DE K X (.Call (.Name x p) (e::es) [] pos) (Pn sp [] t):=cf (F.mono hle) hr T.m T.k T.b d0 ha hg qB he dy hK
end
theorem bO.u(r:bO k A):A.units+64<cLine:=r.units
end L2
namespace L2
open PySem PySem.Spec PyProof.Rows PySem.SeqAt
def isStrOf(z:Str):Value->Bool|.str y _=>y==z|_=>false
end L2
namespace L2
open PySem PySem.Spec PyProof.Rows
section
variable{K:Frag}
theorem RvAll.thr(h:RvAll K H [a,b,c] vs):∃x y z,vs=[x,y,z]/\Rv K H a x/\Rv K H b y/\Rv K H c z:=by obtain⟨x,vs1,rfl,h1,h⟩:=h.cons;obtain⟨y,vs2,rfl,h2,h⟩:=h.cons;obtain⟨z,vs3,rfl,h3,h⟩:=h.cons;rw[h.nil];exact⟨x,y,z,rfl,h1,h2,h3⟩
theorem Sz:bootBuiltins "max"= some (.builtin "max"):=by with_unfolding_all rfl
noncomputable def jA:List D->List D->List D->List D|x::xs,y::ys,z::zs=>.tup [x,y,z]::jA xs ys zs|_,_,_=>[]
theorem oK:∀{xs ys zs:v0},xs.length=ys.length->xs.length=zs.length->(jA xs ys zs).length=xs.length|[],_,_,_,_=>by rw[jA.eq_def]|x::xs,y::ys,z::zs,h,k=>congrArg Nat.succ<|oK (yX h)<|yX k
theorem oM:∀{xs ys zs:v0}{i:Nat}{d:D},(jA xs ys zs)[i]?=some d->∃x y z,xs[i]?=some x/\ys[i]?=some y/\zs[i]?=some z/\d=.tup [x,y,z]|x::xs,y::ys,z::zs,0,d,h=>{x,y,z,rfl,rfl,rfl,(zT h).symm}|x::xs,y::ys,z::zs,i+1,d,h=>oM (i:=i) h|[],_,_,i,d,h=>by rw[jA.eq_def]at h;simp at h|_::_,[],_,i,d,h=>by rw[jA.eq_def]at h;simp at h|_::_,_::_,[],i,d,h=>by rw[jA.eq_def]at h;simp at h
def SE(t:je):A7:=λσ S R Z=>t σ S (λds S1=>∃xs ys zs,ds=[.tup xs,.tup ys,.tup zs]/\xs.length=ys.length/\xs.length=zs.length/\R {jA xs ys zs,λ_=>True} S1) Z
end
section
variable{R:Prop}{K:Frag}{h:Heap}{mg:Str->Option Value}{od an:pi}{sl:sB}{oc kV dc pm cd ct:Value}{f da:Addr}{IE:pi}{dn:Nat}{IF:sB}
theorem fne(X:K.In h)(G:h.Ns mainGlobals mg)(x:Str)(st:Stmt)(ps:j4)(ar:ii)(a:nsIn K mainGlobals x=some (some<|.ref f))(l:K.lookup f=some {oc,od,.func<|fnOf x x (aZ st) (aX st) (ai st) (.ref da) kV dc pm an cd ct,sl})(t:K.lookup da=some {.type "tuple",IE,.seq ar dn,IF})(e:codeIn K cd x=true)(k:keepIn K (.ref f)=true)(b:∀(s:Shared) (us:dL),s.heap.get? da=some {.type "tuple",IE,.seq ar dn,IF}->us.length=ps.length->BindsTo s (fnOf x x (aZ st) (aX st) (ai st) (.ref da) kV dc pm an cd ct) {us,[]} (ps.zip us))(g:∀d,Ht K mg x st ps f d->R):R:=g _ {{{_,_,_,_,_,_,_,_,_,_,rfl,l,e},λs us hK hl=>by rw[yJ]at hl⊢;exact b s us (hK _ _ t) hl},k,mg_of X G a}
end
mutual
inductive Dr(S:aq):D->PyData->Prop where
 |av:Dr S .av .none
 |bl (b:Bool):Dr S (.bl b) (.bool b)
 |int (i:Int):Dr S (.int i) (.int i)
 |str (z:Str):Dr S (.str z) (.str z)
 |tup {ds:v0}{ps:u8} : Kg S ds ps->Dr S (.tup ds) (.tuple ps)
 |ref {a:Addr}{ds:v0}{ps:u8} : S a=some (.lst ds)->Kg S ds ps->Dr S (.ref a) (.list ps)
inductive Kg(S:aq):List D->List PyData->Prop where
 |nil:Kg S [] []
 |cons {d:D}{ds:v0}{p:PyData}{ps:u8} : Dr S d p->Kg S ds ps->Kg S (d::ds) (p::ps)
end
section
variable{K:Frag}{H:Hp}{S:aq}
mutual
theorem Dr.dt(hS:Rs K S H):Dr S d p->Rv K H d v->Dt K H p v|.av,r=>by simp only[Dt];exact r.av|.bl b,r=>by simp only[Dt];exact r.bl|.int b,r=>by simp only[Dt];exact r.int|.str b,r=>by simp only[Dt];exact r.str|.tup h,r=>(by obtain⟨a,xs,rfl,q,t⟩:=r.tup;simp only[Dt];exact{a,xs,rfl,.of q,Kg.dt hS h t})|.ref e h,r=>by obtain⟨xs,e1,t⟩:=hS.lst e;rw[r.ref];simp only[Dt];exact{_,xs,rfl,.of e1,Kg.dt hS h t}
theorem Kg.dt(hS:Rs K S H){ds:List D}{ps:u8}{vs:List V} : Kg S ds ps->RvAll K H ds vs->DtAll K H ps vs|.nil,r=>by rw[r.nil];simp only[DtAll]|.cons h t,r=>by obtain⟨y,ys,rfl,r1,r2⟩:=r.cons;simp only[DtAll];exact{y,ys,rfl,Dr.dt hS h r1,Kg.dt hS t r2}
end
end
def Zh(neg:Bool):w4:=λx y S R=>∃p q,Dr S x p/\Dr S y q/\p.canLay0=true/\q.canLay0=true/\(p.depth<=64\/q.depth<=64)/\R (.bl<|if neg then !PyData.eqv p q else PyData.eqv p q) S
section
variable{K:Frag}
theorem Kh:qF K (compareOp .Eq) (Zh false):=by rintro X hK hu pins s σ H x y v u Q I rx ry ⟨d,e,S,R,r1,r2,hS,⟨p,q,h1,h2,c1,c2,dp,h⟩,hR⟩;subst hK;exact Jw hu pins s σ H x y v u Q I rx ry {p,q,h1.dt hS r1,h2.dt hS r2,c1,c2,dp,hR.now hS h<|bS _}
theorem Xp:qF K (compareOp .NotEq) (Zh true):=by rintro X hK hu pins s σ H x y v u Q I rx ry ⟨d,e,S,R,r1,r2,hS,⟨p,q,h1,h2,c1,c2,dp,h⟩,hR⟩;subst hK;exact Jx hu pins s σ H x y v u Q I rx ry {p,q,h1.dt hS r1,h2.dt hS r2,c1,c2,dp,hR.now hS h<|bS _}
end
theorem sM(h1:Dr S x p)(h2:Dr S y p)(c:p.canLay0=true)(d:p.depth<=64)(q:R (.bl<|!neg) S):Zh neg x y S R:={p,p,h1,h2,c,c,.inl d,by rw[show(if neg then !PyData.eqv p p else PyData.eqv p p)=!neg by rw[SeqAt.eqv_refl p c];cases neg<;>rfl];exact q}
def lT:Stmt->Str|.FunctionDef n _ _ _ _ _ _ _ _ _=>n|_=>Str.empty
def uH(s:Stmt):j4:=(aZ s).args.map λa=>a.arg
def Hv(K:Frag)(mg:Str->Option Value)(top:Nat->Stmt)(f:Nat->Addr)(d:Nat->FuncData)(l:wp):Prop:=∀i∈l,Ht K mg (lT<|top i) (top i) (uH<|top i) (f i)<|d i
def DP(K:Frag)(c:Addr)(q:Str)(cl:Stmt)(f:Nat->Addr)(d:Nat->FuncData)(l:wp):Prop:=∀i∈l,PM K c (lT<|inClass cl i) (q++lT (inClass cl i)) (inClass cl i) (uH<|inClass cl i) (f i)<|d i
section
variable{K:Frag}{h:Heap}{mg:Str->Option Value}{od an:pi}{sl:sB}{oc dV kV dc pm cd ct:Value}{x:Addr}{top:Nat->Stmt}{l:wp}{c:Addr}{q:Str}{cl:Stmt}
theorem af(X:K.In h)(G:h.Ns mainGlobals mg)(i:Nat)(ni:i∉l)(a:nsIn K mainGlobals (lT<|top i)=some (some<|.ref x))(o:K.lookup x=some {oc,od,.func<|fnOf (lT<|top i) (lT<|top i) (aZ<|top i) (aX<|top i) (ai<|top i) dV kV dc pm an cd ct,sl})(e:codeIn K cd (lT<|top i)=true)(k:keepIn K (.ref x)=true)(b:∀us:dL,us.length=(uH<|top i).length->bindArgs (fnOf (lT<|top i) (lT<|top i) (aZ<|top i) (aX<|top i) (ai<|top i) dV kV dc pm an cd ct) {us,[]}=pure ((uH<|top i).zip us))(g:∃f d,Hv K mg top f d l):∃f d,Hv K mg top f d (i::l):=by refine fn1 X G _ _ _ a o e k b λd0 F=>?_;obtain⟨f,d,A⟩:=g;refine{λj=>if j=i then x else f j,λj=>if j=i then d0 else d j,λj hj=>?_};by_cases z:j=i;subst z;dsimp only;rw[if_pos rfl,if_pos rfl];exact F;dsimp only;rw[if_neg z,if_neg z];exact A j<|(zm.mp hj).resolve_left z
theorem af0:∃f d,Hv K mg top f d []:={λ_=>0,λ_=>fnOf Str.empty Str.empty (aZ<|.Pass {0,0,0,0}) [] (ai<|.Pass {0,0,0,0}) .none .none .none .none none .none .none,λ_ h=>nomatch h}
theorem afx{R:Prop}(_:K.In h)(_:h.Ns mainGlobals mg)(g:∃f d,Hv K mg top f d l)(r:∀f d,Hv K mg top f d l->R):R:=by obtain⟨f,d,A⟩:=g;exact r f d A
theorem amx{R:Prop}(_:q_ K c)(g:∃f d,DP K c q cl f d l)(r:∀f d,DP K c q cl f d l->R):R:=by obtain⟨f,d,A⟩:=g;exact r f d A
theorem am(C:q_ K c)(i:Nat)(ni:i∉l)(a:findIn K (.ref c) (lT<|inClass cl i)=some (some<|.ref x))(w:isFn K (.ref x)=true)(o:K.lookup x=some {oc,od,.func<|fnOf (lT<|inClass cl i) (q++lT (inClass cl i)) (aZ<|inClass cl i) (aX<|inClass cl i) (ai<|inClass cl i) dV kV dc pm an cd ct,sl})(e:codeIn K cd (q++lT (inClass cl i))=true)(k:keepIn K (.ref x)=true)(b:∀us:dL,us.length=(uH<|inClass cl i).length->bindArgs (fnOf (lT<|inClass cl i) (q++lT (inClass cl i)) (aZ<|inClass cl i) (aX<|inClass cl i) (ai<|inClass cl i) dV kV dc pm an cd ct) {us,[]}=pure ((uH<|inClass cl i).zip us))(g:∃f d,DP K c q cl f d l):∃f d,DP K c q cl f d (i::l):=by refine fm1 C _ _ _ _ a w o e k b λd0 F=>?_;obtain⟨f,d,A⟩:=g;refine{λj=>if j=i then x else f j,λj=>if j=i then d0 else d j,λj hj=>?_};by_cases z:j=i;subst z;dsimp only;rw[if_pos rfl,if_pos rfl];exact F;dsimp only;rw[if_neg z,if_neg z];exact A j<|(zm.mp hj).resolve_left z
theorem am0:∃f d,DP K c q cl f d []:={λ_=>0,λ_=>fnOf Str.empty Str.empty (aZ<|.Pass {0,0,0,0}) [] (ai<|.Pass {0,0,0,0}) .none .none .none .none none .none .none,λ_ h=>nomatch h}
end
section
variable{K:Frag}{X:Cx}{x q:Str}{st:Stmt}{ps:j4}{C f:Addr}{fd:FuncData}{sp:rj}{o e:Expr}{es:li}{apos pos:Pos}{k k':Nat}
theorem oi{t:je}(he:DE K X o ta)(c:q_ K C)(T:PM K C x q st ps f fd)(F:bG X.prog X.w K X.mg X.base (fG X.prog X.w X.mg) k f fd ps<|rl K sp)(hr:bO k' X.A)(ha:DA K X (e::es) t)(hle:autoParam (k<=k') qJK)
  (uv:autoParam (starEach (e::es) X.env=(false,eval e X.env)::starEach es X.env) qQJ) (dy:autoParam ((backTo pos<|starEach es X.env).any (·.1)=false) qQJ)
  (ht:autoParam (eval (.Call (.Attribute o x apos) (e::es) [] pos) X.env=(do
   let ov <-eval o X.env
   standAt apos.atName
   let (f,first) <-holding [ov] (getMethod ov x pl)
   callWith pos f first (backTo pos<|starEach (e::es) X.env) (backToKw pos<|keywordEach [] X.env))) qQJ) (hK:autoParam (X.K=K) qQJ):
  DE K X (.Call (.Attribute o x apos) (e::es) [] pos) (Fj C x sp [] ta t):=cme he c T.e (F.mono hle) hr T.b d0 ha uv dy ht hK
theorem eR(he:DE K X o ta)(c:q_ K C)(T:PM K C x q st ps f fd)(F:bG X.prog X.w K X.mg X.base (fG X.prog X.w X.mg) k f fd ps<|rl K sp)(hr:bO k' X.A)(hle:autoParam (k<=k') qJK)
  (ht:autoParam (eval (.Call (.Attribute o x apos) [] [] pos) X.env=(do
   let ov <-eval o X.env
   standAt apos.atName
   let (f,first) <-holding [ov] (getMethod ov x pl)
   callWith pos f first (backTo pos<|starEach [] X.env) (backToKw pos<|keywordEach [] X.env))) qQJ) (hK:autoParam (X.K=K) qQJ):
  DE K X (.Call (.Attribute o x apos) [] [] pos) (Fj C x sp [] ta Nn):=R3 he c T.e (F.mono hle) hr T.b d0 ht hK
end
section
variable{K:Frag}{X:Cx}
def Xq:D->Option Int->Option Int->aq->KD->Prop:=λx lo hi S R=>match x with|.ref a=>∃ds,S a=some (.lst ds)/\∀p,S p=none->R (.ref p) (S.set p<|.lst<|cn ds lo hi)|.kW ds=>∀p,S p=none->R (.ref p) (S.set p<|.lst<|cn ds lo hi)|_=>False
theorem Xr(hK:X.K=K):SlR X (λx lo hi H Q=>∃d S R,Rv K H d x/\Rs K S H/\Xq d lo hi S R/\Cn K H R Q):=by rintro pins s σ H x v vl vu lo hi sl Q I rx hs pl pu ⟨d,S,R,r1,hS,h,hR⟩;subst hK;cases d with|ref a=>(obtain⟨ds,e,h⟩:=h;obtain⟨xs,e1,t⟩:=hS.lst e;exact E9 pins s σ H _ v vl vu lo hi sl Q I rx hs pl pu {a,xs,r1.ref,.of e1,λp hp=>hR.new hS hp (h p)<|t.cut lo hi})|kW ds=>(obtain⟨a,xs,rfl,q,t⟩:=r1.kW;exact E9 pins s σ H _ v vl vu lo hi sl Q I rx hs pl pu {a,xs,rfl,q.sq,λp hp=>hR.new hS hp (h p)<|t.cut lo hi})|_=>exact h.elim
def abX(te:TD)(tl th:Pj):TD:=λσ S R Z=>te σ S (λx S1=>tl σ S1 (λl S2=>th σ S2 (λu S3=>Xq x l u S3 R) Z) Z) Z
theorem NS{e:Expr}{lo hi:Option Expr}{te:TD}{tl th:Pj}{p2 pos:Pos}(he:DE K X e te)(hl:DO K X lo tl)(hu:DO K X hi th)(hK:autoParam (X.K=K) qQJ):DE K X (.Subscript e (.Slice lo hi none p2) pos) (abX te tl th):=
 ⟨λy=>(I9 (X:=y.cx) (Xr hK) (he.of y) (hl.of y)<|hu.of y).mono <| by rintro τ H Q ⟨σ,S,R,Z,aC,hS,q,hR,hZ⟩;exact
  ⟨σ,S,_,Z,aC,hS,q,λd S1 x H1 r1 v1 s1 k1=>⟨σ,S1,_,Z,aC.ts k1,s1,r1,λl S2 H2 r2 s2 k2=>⟨σ,S2,_,Z,aC.ts<|k1.trans k2,s2,r2,λu S3 H3 r3 s3 k3=>⟨d,S3,R,Rv.ts (k2.trans k3) _ v1,s3,r3,hR.kp<|(k1.trans k2).trans k3⟩,hZ.kp<|k1.trans k2⟩,hZ.kp k1⟩,hZ⟩⟩
def abY:w4:=λx y S R=>match x,y with|.int i,.int j=>R (.int<|i+j) S|.str a,.str b=>a.length+b.length<=sizeLine/\R (.str<|a++b) S|.ref a,.ref b=>∃xs ys,S a=some (.lst xs)/\S b=some (.lst ys)/\xs.length+ys.length<=sizeLine/\∀p,S p=none->R (.ref p) (S.set p<|.lst<|xs++ys)|_,_=>False
theorem bu:qF K (binaryOp .Add) abY:=by rintro X hK hu pins s σ H x y v u Q I rx ry ⟨d,e,S,R,r1,r2,hS,h,hR⟩;subst hK;cases d<;>cases e<;>first|exact False.elim h|exact QV pins s σ H x y v u Q I rx ry {_,_,r1.int,r2.int,hR.now hS h<|aP _}|exact CJ pins s σ H x y v u Q I rx ry {_,_,r1.str,r2.str,h.1,hR.now hS h.2<|cA _}|skip;obtain⟨xs,ys,e1,e2,hl,q⟩:=h;obtain⟨vs,h1,t1⟩:=hS.lst e1;obtain⟨ws,h2,t2⟩:=hS.lst e2;exact Rk pins s σ H x y v u Q I rx ry {_,_,vs,ws,r1.ref,r2.ref,h1,h2,by rw[t1.len,t2.len];exact hl,λp hp=>hR.new hS hp (q p)<|t1.app t2}
end
structure W(sp:rj)(ds:List D)(S:aq)(R:KD)(Z:KX):Prop where
 of:sp ds S R Z
theorem bG.w{P:Program}{w:World}{K:Frag}{mg:Str->Option Value}{base:Heap}{k:Nat}{f:Addr}{fd:FuncData}{ps:j4}{sp:rj}(F:bG P w K mg base (fG P w mg) k f fd ps<|rl K sp):bG P w K mg base (fG P w mg) k f fd ps (rl K<|W sp):=F.Nx λ_ _ _ _ h=>h.of
def Xs(s:Stmt):j4:=((ai s).names.filter λp=>p.2==.local||p.2==.cell).map (·.1)
theorem bq(s:Stmt)(a:autoParam ((ai s).kind=.function/\(ai s).isCoroutine=false/\(ai s).isGenerator=false/\(Xs s).take (uH s).length=uH s) qQ4)(b:autoParam ((Xs s).Nodup/\(∀x∈uH s,(ai s).names.lookup x=some .local\/(ai s).names.lookup x=some .cell)/\∀y∈(ai s).names,y.2≠.free) qQ6):gk (Xs s) (uH s) (ai s):=fsc a b
section
variable{P:Program}{w:World}{K:Frag}{mg:Str->Option Value}{base:Heap}{x qual:Str}{st:Stmt}{f:Addr}{fd:FuncData}{N ps:j4}{k:Nat}{sp:rj}
theorem xa.bx(F:xa K x qual st f fd)(S:gk N ps<|ai st)(mD:∀(gT:Value)(A:Around)(outer:jp)(s:Shared)(H:Hp)(E:XK)(ds:List D)(S:aq)(R:KD)(Z:KX),bO k (A.deeper<|PyProof.Rows.envOfC qual (ai st) s.heap.objs.size f gT)->sp ds S R Z->∃t,IB K (kC (fG P w mg) P w K mg base N qual (ai st) f gT A outer s H E) true (aX st) t/\t {nx:=λ_ S'=>Fo S'<|R .av,rt:=λd S'=>Fo S'<|R d} (jz N ds) S λ_ C S'=>Fo S'<|Z C)(len:∀ds S R Z,sp ds S R Z->ds.length=ps.length:=by intro _ _ _ _ h;first|(cases h;subst_vars;rfl;done)|(repeat first|(obtain⟨e,_⟩:=h;rw[e];rfl;done)|obtain⟨_,h⟩:=h)):bG P w K mg base (fG P w mg) (k+1) f fd ps (rl K sp):=F.ok S len mD
end
structure adL(X:Cx)(N:j4)(src:ul)(scope:Scope):Prop where
 kind:scope.kind=.function
 nd:(scope.names.map Prod.fst).Nodup
 loc:∀y∈scope.names,y.2=.local->scope.names.lookup y.1=some .local
 Cr:∀y∈scope.names,y.2=.free->X.env.kindOf y.1=some .cell\/X.env.kindOf y.1=some .free
 len:src.length=N.length
 src:∀(i j:Nat)(x:Str),src[i]?=some (some j)->N[i]?=some x->X.N[j]?=some x/\scope.names.lookup x=some .free/\Qv X.env.scope x
section
variable{K:Frag}{p:Pos}{e:Expr}
structure afT(P:Program)(w:World)(K:Frag)(mg:Str->Option Value)(base:Heap)(k:Nat)(f:Addr)(sp:Sp):Prop where
 ex:∃fd ps,bG P w K mg base (fG P w mg) k f fd ps sp/\Binds K fd ps []
 kp:keepIn K (.ref f)=true
inductive CvR{ι:Type}(i:Nat)(fa:ι->Addr)(σ:SD)(p:ι->Prop):Prop where
 |mk (o:ι)(e:σ[i]?=some (some<|.ref<|fa o))(r:p o)
end
section
variable{R:Prop}{K:Frag}{h:Heap}{mg:Str->Option Value}{tk:Tok}
theorem gvs(X:K.In h)(G:h.Ns mainGlobals mg)(x:Str)(z:Str)(a:nsIn K mainGlobals x=some (some<|.str z tk))(g:mg x=some (.str z tk)->R):R:=g<|mg_of X G a
end
theorem Ki{kvs:List<|Key×V}{k:Key}{v:V}(h:∀x∈kvs,x.1≠k):putK kvs k v=kvs++[(k,v)]:=by unfold putK;rw[if_neg];rw[List.any_eq_true];rintro⟨x,hx,e⟩;exact h x hx<|zy e
theorem vP:∀{more acc:List (Key×V)},((acc++more).map Prod.fst).Nodup->js acc more=acc++more
 |[],acc,_=>by rw[yJ];rfl
 |p::r,acc,h=>by
  have e:putK acc p.1 p.2=acc++[p]:=Ki λx hx e=>by rw[zI,List.nodup_append]at h;exact h.2.2 x.1 (zi.mpr ⟨x,hx,rfl⟩) p.1 (zi.mpr ⟨p,zj,rfl⟩) e
  show js (putK acc p.1 p.2) r=_;rw[e,vP<|by rw[List.append_assoc];exact h,List.append_assoc];rfl
def xh:List (Str×TD)->SD->aq->(List (Key×D)->aq->Prop)->KX->Prop|[],_,S,R,_=>R [] S| (k,t)::r,σ,S,R,Z=>t σ S (λd S1=>xh r σ S1 (λl S2=>R ((.inr k,d)::l) S2) Z) Z
section
variable{K:Frag}
theorem Bl:∀{l:List (Str×TD)}{H:Hp}{S:aq}{R:List (Key×D)->aq->Prop}{Q:List (V×V)->Hp->Prop},iu K H σ τ->Rs K S H->xh l σ S R Z->(∀SF S' kvs H',R SF S'->bM K H' SF kvs->SF.map Prod.fst=l.map (λx=>Sum.inr x.1)->Rs K S' H'->Kp K H H'->Q (kvs.map λkv=>(kV kv.1,kv.2)) H')->Fh K H Z (E τ)->wN (l.map λkt=>(T K E<|dC<|.str kt.1,T K E kt.2)) τ H Q|[],H,S,R,Q,_,hS,q,hR,_=>hR [] S [] H q .nil rfl hS (.refl _)| (k,t)::r,H,S,R,Q,aC,hS,q,hR,hZ=>{σ,S,λd S'=>d=.str k/\t σ S' (λd S1=>xh r σ S1 (λl S2=>R ((.inr k,d)::l) S2) Z) Z,Z,aC,hS,⟨rfl,q⟩,by rintro d S1 v H1 ⟨e,q1⟩ v1 s1 k1;subst e;refine{σ,S1,_,Z,aC.ts k1,s1,q1,λd2 S2 v2 H2 q2 r2 s2 k2=>?_,hZ.kp k1};refine Bl (aC.ts<|k1.trans k2) s2 q2 (λSF S3 kvs H3 q3 rk ek s3 k3=>?_)<|hZ.kp<|k1.trans k2;have:=hR _ S3 ((.inr k,v2)::kvs) H3 q3 (.cons {rfl,Rv.ts k3 _ r2} rk) (by rw[zC,zC,ek]) s3<|(k1.trans k2).trans k3;rw[v1.str];exact this,hZ}
variable{X:Cx}{pos:Pos}
structure Zi(K:Frag)(X:Cx)(pos:Pos)(keys:List (Option Expr))(values:li)(l:List (Str×TD)):Prop where
 of:∀{b:Bool}(y:Ev X b),VN y.cx pos keys values<|l.map λkt=>(T K y.E<|dC<|.str kt.1,T K y.E kt.2)
theorem dp0:Zi K X pos [] [] []:=⟨λy=>MM⟩
theorem Zj{t:TD}(hk:DE K X ke<|dC<|.str k)(hv:DE K X v t)(hr:Zi K X pos ks vs l):Zi K X pos (some ke::ks) (v::vs) ((k,t)::l):=⟨λy=>Jl (hk.of y) (hv.of y)<|hr.of y⟩
def Xt(l:List<|Str×TD):TD:=λσ S R Z=>∀p,S p=none->xh l σ (S.set p<|.bY []) (λSF S2=>S2 p=some (.bY [])/\R (.ref p) (S2.set p<|.bY SF)) Z
theorem edd(h:Zi K X pos keys values l)(hn:autoParam ((l.map Prod.fst).Nodup) qQ6)(hl:autoParam (l.length<=15) qQZ)(AN:autoParam (keys.all (·.isSome)=true) qQJ)(hlen:autoParam (keys.length=values.length) qQJ)(h0:keys≠[]:=by exact List.cons_ne_nil _ _)(h15:autoParam (keys.length<=15) qQZ):DE K X (.Dict keys values pos) (Xt l):=by
 refine⟨λy=>(MN (X:=y.cx) (h.of y) AN hlen h0 h15).mono λτ H Q ⟨σ,S,R,Z,aC,hS,q,hR,hZ⟩ p hp=>?_⟩;refine Bl (aC.ts<|.new hp) (hS.new (c:=.bY []) hp {[],aE,.nil}) (q p<|hS.fresh hp) (λSF S2 kvs H2 ⟨e1,q2⟩ rk ek s2 k2=>?_)<|hZ.kp<|.new hp;obtain⟨xs,e2,t⟩:=s2.bY e1;cases t;have ekv:∀{a:List (Key×D)}{b:List (Key×V)},bM K H2 a b->a.map Prod.fst=b.map Prod.fst:=λh=>by induction h with|nil=>rfl|cons r _ ih=>rw[zC,zC,r.1,ih]
 have em:js [] kvs=kvs:=vP (by rw[List.nil_append,<-ekv rk,ek,show(l.map λx=>(Sum.inr x.1:Key))=(l.map Prod.fst).map Sum.inr by rw[zx];rfl];exact List.Pairwise.map _ (λa b hab e=>hab<|yL e) hn);have W_:kvs.length<=15:=by have:=congrArg List.length<|(ekv rk).symm.trans ek;rw[zb,zb]at this;lia
 have kk:=s2.gI (o:=.dK kvs) e1;refine{e2,kvs,rfl,W_,?_};rw[em];exact hR _ _ _ _ q2 (gH p) (s2.put (c:=.bY _) e1 {_,aE,rk.ts kk})<|((Kp.new hp).trans k2).trans kk
end
section
variable{K:Frag}{X:Cx}{b:Bool}{N:j4}{src:ul}{scope:Scope}{iter elt:Expr}{ifs:li}{pos p:Pos}{ti:A7}{tc:mw}{te:TD}{a:Str}
theorem oj(s:Stmt)(hs:autoParam (X.env.scope=ai s) qQJ)(hN:autoParam (X.N=Xs s) qQJ)(h:autoParam (chkC (ai s) (Xs s) N src scope=true) qQ6):bc X N src scope:=V2 _ _ hs hN h
structure C1(X:Cx)(N:j4)(src:ul)(scope:Scope)(a:Str):Prop where
 nd:N.Nodup
 h0:N[0]?=some a
 hr:src[0]?=some none
 hx:∀C s H ex pn,Loc (gm X N scope C s H ex pn).env.scope a/\(gm X N scope C s H ex pn).env.scope.names.lookup a=some .local
theorem xk(S:bc X N src scope)(hit:DI K X (.Name a p) iter ti)(hi:∀{C s H ex pn},UG K (gm X N scope C s H ex pn) ifs tc)(he:∀{C s H ex pn},DE K (gm X N scope C s H ex pn) elt te)(c:autoParam (C1 X N src scope a) qJ7)(hf:autoParam (∀x,foldedSetIterable iter X.env x=pure x) qQ0)(hc:autoParam (X.calm=true) qQJ): DE K X (.ListComp elt [{.Name a p,iter,ifs,0}] scope pos) (vK ti src (UE 0) tc te):=WV S hit (cg1 c.nd c.h0 c.hx) (E_ c.hr) Fl (λ_ _ _ _ _=>hi) (λ_ _ _ _ _=>he) hf hc
theorem xl(i:Nat)(hd:X.N.Nodup)(S:bc X N src scope)(hit:DI K X (.Name a p) iter ti)(hi:∀{C s H ex pn},UG K (gm X N scope C s H ex pn) ifs tc)(he:∀{C s H ex pn},DE K (gm X N scope C s H ex pn) elt te)(c:autoParam (C1 X N src scope a) qJ7)(VZ:autoParam (X.N[i]?=some x) qQJ)(wR:autoParam (X.env.scope.names.lookup x=some .local) qQJ)(V0:autoParam (swapsWith (.ListComp elt [{.Name a p,iter,ifs,0}] scope pos) (some<|.Name x pos') Hb.line X.env=pure true) qQJ)(hf:autoParam (∀x,foldedSetIterable iter X.env x=pure x) qQ0)(hc:autoParam (X.calm=true) qQJ): DS K X b (.Assign [.Name x pos'] (.ListComp elt [{.Name a p,iter,ifs,0}] scope pos) Hb) (R4 i<|vK ti src (UE 0) tc te):=stc hd S hit (cg1 c.nd c.h0 c.hx) (E_ c.hr) Fl (λ_ _ _ _ _=>hi) (λ_ _ _ _ _=>he) VZ wR V0 hf hc
end
theorem cu{p:Bool}{A B:Prop}(q:B)(h:autoParam (p=false) qQ6):if p=true then A else B:=by rw[h,if_neg zd];exact q
theorem mR{p:Bool}{A B:Prop}(q:A)(h:autoParam (p=true) qQ6):if p=true then A else B:=by rw[h,if_pos rfl];exact q
theorem uI(ay:dL):slicePick ay.toArray none none (some 1)=ay.toArray:=by
 unfold slicePick sliceBounds sliceRange;have e0:((some (1:Int)).getD 1)=1:=rfl;simp only[e0,zt,show((1:Int)>0) by decide,if_true];have ec:(if (ay.length:Int)>0 then (((ay.length:Int))-0+1-1)/1 else 0).toNat=ay.length:=by split;{first|(simp;done)|(simp;lia)};lia
 rw[ec];congr 1;rw[List.filterMap_map];conv=>rhs;rw[<-sx ay]
 refine sy λk hk=>?_;show ay.toArray[((0:Int)+1*(k:Int)).toNat]?=ay[k]?;rw[show((0:Int)+1*(k:Int)).toNat=k by lia];simp
theorem SG{X:Cx}{K:Frag}{e st:Expr}{te:TE}{p2 pos:Pos}(hK:X.K=K)(he:PE X e te){We:TO}(uv:PO X (some st) We):PE X (.Subscript e (.Slice none none (some st) p2) pos) (λσ H Q=>te σ H λx H1=>We σ H1 λo H2=>∃b:Bool,o=some (if b then 1 else -1)/\∃a xs,x=.ref a/\jk K H2 a xs/\∀p,H2 p=none->Q (.ref p) (upd H2 p<|.lst<|if b then xs else xs.reverse)):=by
 subst hK;intro pins s σ H Q I h;refine Subscript_<|bb (he pins s σ H _ I h) ?_;rintro v s1 ⟨x,H1,I1,r1,q1⟩;refine wpAny_Slice ?_;rw[evalPart_none];refine zA ?_;refine zA ?_;refine bb (uv pins s1 σ H1 _ I1 q1) ?_;rintro vs s3 ⟨o,H3,I3,ps,b,eo,a,xs,ex,hx,q⟩;subst eo ex;cases r1;have I4:Inv X pins σ H3 {s3 with heap:=s3.heap.push {cls:=.type "slice",data:=.fields #[.none,.none,vs]}}:=I3.kept (t':=s3.toks) λb ob q=>za _ q;obtain⟨ay,r,ht,hz⟩:=I4.list hx;have hlen:=r.length;have hg:wpAny (model X.prog X.w) X.A (getItem (.ref a)<|.ref s3.heap.objs.size) (EP X pins σ Q) X.xe {s3 with heap:=s3.heap.push {cls:=.type "slice",data:=.fields #[.none,.none,vs]}}:=by refine wpAny_getItem_list_slice ht.isList (Heap.IsSliceOf.new ..) .none .none ps (by cases b<;>simp) ?_ (by rw[zt]<;>lia);refine{.ref _,_,I4.laid (t':=s3.toks) (o:=.lst<|if b then xs else xs.reverse) (λb ob q=>za _ q) (zq _) ?_,rfl,q _<|I4.aN.fresh<|zq _};cases b with|true=>rw[if_pos rfl,if_pos rfl,uI];exact{hz,_,0,r,zk _ rfl}|false=>rw[if_neg zd,if_neg zd,kU];exact{by rw[zP];exact hz,_,0,r.reverse,zk _ rfl}
 exact tail_any (ops:=[.ref a,.ref s3.heap.objs.size]) ht.isList.typeIs slot_list_getitem.lookup hg<|by with_unfolding_all rfl
section
variable{K:Frag}{X:Cx}
def abZ(te:TD)(ts:Pj):TD:=λσ S R Z=>te σ S (λx S1=>ts σ S1 (λl S2=>∃b:Bool,l=some (if b then 1 else -1)/\∃ds,vI S2 x ds/\∀p,S2 p=none->R (.ref p) (S2.set p<|.lst<|if b then ds else ds.reverse)) Z) Z
theorem ab0{e st:Expr}{te:TD}{ts:Pj}{p2 pos:Pos}(he:DE K X e te)(hs:DO K X (some st) ts)(hK:autoParam (X.K=K) qQJ):DE K X (.Subscript e (.Slice none none (some st) p2) pos) (abZ te ts):=⟨λy=>(SG (X:=y.cx) hK (he.of y)<|hs.of y).mono <| by rintro τ H Q ⟨σ,S,R,Z,aC,hS,q,hR,hZ⟩;exact{σ,S,_,Z,aC,hS,q,λd S1 x H1 r1 v1 s1 k1=>{σ,S1,_,Z,aC.ts k1,s1,r1,by rintro l S2 H2 ⟨b,e1,ds,h1,r2⟩ s2 k2;obtain⟨a,xs,rfl,q,t⟩:=h1.at s2<|Rv.ts k2 _ v1;exact{b,e1,a,xs,rfl,q,λp hp=>(hR.kp<|k1.trans k2).new s2 hp (r2 p)<|by cases b;exact t.rev;exact t},hZ.kp k1},hZ}⟩
def ab1(kvs:List<|Str×V)(ty:TD):TD:=λσ S R Z=>ty σ S (λy S1=>∃z v,y=.str z/\kvs.lookup z=some v/\R (vD v) S1) Z
theorem Zk{w:World}{ad:Addr}{kvs:List<|Str×V}{o e:Expr}{pos:Pos}{ty:TD}(d:Iy w K ad kvs)(hf:(kvs.all λp=>DN p.2)=true)(ho:∀Y:Cx,Y.env=X.env->Y.mg=X.mg->PE Y o (tC<|.ref ad))(he:DE K X e ty)(hs:autoParam (Rn e) qJ1)(hw:autoParam (X.w=w) qQJ)(hK:autoParam (X.K=K) qQJ):DE K X (.Subscript o e pos) (ab1 kvs ty):=⟨λy=>(JD (X:=y.cx) hw hK (ho y.cx rfl rfl) (he.of y) hs).mono <| by rintro τ H Q ⟨σ,S,R,Z,aC,hS,q,hR,hZ⟩;exact{σ,S,_,Z,aC,hS,q,by rintro yv S1 v H1 ⟨z,v1,e1,e2,r⟩ rv s1 k1;subst e1;refine{ad,z,kvs,v1,rfl,rv.str,d,e2,hR _ _ _ _ r ?_ s1 k1};have fl:=zX.mp hf _<|yi e2;cases v1 with|int i=>exact aP i|str i=>exact cA i|_=>(cases fl),hZ}⟩
end
noncomputable def fJ(N:Nat)(v:Nat->Value):ii:=((List.range N).map v).toArray
structure ZN(n N:Nat)(l:Nat->Addr)(i:Nat)(h:Heap):Prop where
 z:IsZip h (n+N+2) (n+N) (n+N+1) .none
 t:mI h (n+N) (fJ N λj=>.ref<|n+j)
 o:∃arr:ii,arr.size=N/\mI h (n+N+1) arr
 it:∀j,j<N->h.IsTupleIter (n+j) (l j) i
theorem kj:(fJ N v).size=N:=by unfold fJ;simp
theorem jB:(fJ N v).toList.length=N:=by unfold fJ;simp
theorem NT(h:arr.size=N)(e:∀j,j<N->arr[j]?=some (v j)):arr=fJ N v:=by refine Array.ext (by rw[h,kj]) λj h1 h2=>?_;have:=e j (by lia);rw[Array.getElem?_eq_getElem h1]at this;rw[zT this];simp[fJ]
section
variable{prog:Program}{w:World}{A:Around}{E:lc}{s:Shared}{n N:Nat}{l:Nat->Addr}{i:Nat}{xs:Nat->Array Value}
theorem Hw{v:Nat->Value}{Q:lc}(h1:1<=N)(h3:N<=3)(lt:∀j,j<N->l j<n)(hs:ZN n N l i s.heap)(tu:∀j,j<N->s.heap.IsTuple (l j) (xs j))(ev:∀j,j<N->(xs j)[i]?=some (v j))(hQ:∀h',IsZip h' (n+N+2) (n+N) (n+N+1) (rawInt s.heap.objs.size)->mI h' (n+N+1) (fJ N v)->(∀j,j<N->h'.IsTupleIter (n+j) (l j) (i+1))->mI h' s.heap.objs.size (fJ N v)->(∀c o,c≠n+N+2->c≠n+N+1->(∀j,j<N->c≠n+j)->s.heap.get? c=some o->h'.get? c=some o)->Q (.ref s.heap.objs.size) {s with heap:=h'}): wpAny (model prog w) A (Builtin.«zip.__next__» {[.ref<|n+N+2],[]}) (λfin s'=>∃v,fin=.done (.ret v)/\Q v s') E s:=by
 obtain⟨hz,hI,⟨arr,na,hO⟩,hit⟩:=hs;show wpAny _ _ (field (.ref<|n+N+2) 2 >>=_) _ _ _;refine zc<|yh hz rfl (x:=.bool false) rfl ?_;show wpAny _ _ (field (.ref<|n+N+2) 3 >>=_) _ _ _;refine zc<|yh hz rfl (x:=.ref<|n+N) rfl ?_;refine zc<|wpAny_seqItems hI rfl ?_;have he:(fJ N λj=>Value.ref<|n+j).isEmpty=false:=by rw[Array.isEmpty_eq_false_iff];intro e;have:=congrArg Array.size e;rw[kj]at this;simp at this;lia
 dsimp only;rw[if_neg<|by rw[he];exact zd];refine zc ?_;unfold Builtin.SmallTypes.ownedTupleIsFree;refine zc<|yh hz rfl (x:=.none) rfl<|zA ?_;simp only[if_true];refine zc<|wpAny_rule ?_;refine zc<|yh hz rfl (x:=.ref<|n+N+1) rfl ?_;refine zc<|wpAny_setField_rec hz (by simp) λh0 NU q0=>?_;replace NU:IsZip h0 (n+N+2) (n+N) (n+N+1) .ellipsis:=NU;have k0:∀c o,c≠n+N+2->s.heap.get? c=some o->h0.get? c=some o:=λc o d e=>q0.extBut _ _ d e;refine zc<|wpAny_forIn_list _ (λrest b s'=>∃(k:Nat)(h':Heap)(a':ii),k<=N/\rest=((fJ N λj=>Value.ref<|n+j).toList.zipIdx).drop k/\b=(none,())/\s'={s with heap:=h'}/\mI h' (n+N+1) a'/\a'.size=N/\(∀j,j<k->a'[j]?=some (v j))/\(∀j,j<N->h'.IsTupleIter (n+j) (l j) (if j<k then i+1 else i))/\IsZip h' (n+N+2) (n+N) (n+N+1) .ellipsis/\h'.objs.size=s.heap.objs.size/\(∀c o,c≠n+N+2->c≠n+N+1->(∀j,j<N->c≠n+j)->s.heap.get? c=some o->h'.get? c=some o)) _ ?_ ?_ _ _ ?_;rintro x rest b s' ⟨k,h',a',hk,e1,rfl,rfl,O,ha,hv,J,Z,sz,kp⟩;have dk:k<N:=by have:=congrArg List.length e1;rw[zQ,List.length_drop,List.length_zipIdx,jB]at this;lia
 have e2:((fJ N λj=>Value.ref<|n+j).toList.zipIdx).drop k=(Value.ref<|n+k,k)::((fJ N λj=>Value.ref<|n+j).toList.zipIdx).drop (k+1):=by rw[List.drop_eq_getElem_cons<|by rw[List.length_zipIdx,jB];exact dk];simp[fJ]
 rw[e2]at e1;cases e1;have lk:@LT.lt Nat _ (l k) n:=lt k dk;have Jk:=J k dk;rw[if_neg<|yB _]at Jk;have T0:Heap.IsTuple h' (l k) (xs k):=by obtain⟨o,a1,a2⟩:=tu k dk;exact{o,kp _ _ (by show @Ne Nat _ _;lia) (by show @Ne Nat _ _;lia) (λj _=>by show @Ne Nat _ _;lia) a1,a2}
 refine zc<|wpAny_onRaise ?_;show wpAny _ _ (Builtin.SmallTypes.nextOf (.ref<|n+k) >>=_) _ _ _;refine zc<|C_ (s:={s with heap:=h'}) Jk T0 (ev k dk) λg1 m0 q1=>zA ?_;have O1:mI g1 (n+N+1) a':=q1.extBut _ _ (by show @Ne Nat _ _;lia) O;refine zc<|wpAny_seqItems (s:={s with heap:=g1}) O1 rfl ?_;refine zc<|Hh (s:={s with heap:=g1}) O1 (by lia) λg2 O2 q2=>?_;refine zc<|wpAny_letGo<|zA ?_;refine{k+1,g2,_,dk,rfl,rfl,rfl,O2,by rw[Array.size_setIfInBounds];exact ha,λj hj=>?_,λj hj=>?_,q2.extBut _ _ (by show @Ne Nat _ _;lia)<|q1.extBut _ _ (by show @Ne Nat _ _;lia) Z,by rw[q2.1,q1.1];exact sz,λc o d1 d2 d3 e=>q2.extBut _ _ d2<|q1.extBut _ _ (d3 k dk)<|kp c o d1 d2 d3 e};by_cases z:j=k;subst z;rw[Array.getElem?_setIfInBounds_self_of_lt<|by lia];rw[Array.getElem?_setIfInBounds_ne<|Ne.symm z];exact hv j (by lia);by_cases z:j=k;subst z;rw[if_pos<|Nat.lt_succ_self _];exact wW q2.extBut (by show @Ne Nat _ _;lia) m0;have:=J j hj;rw[show(if j<k+1 then i+1 else i)=if j<k then i+1 else i by by_cases y:j<k;rw[if_pos y,if_pos<|by lia];rw[if_neg y,if_neg<|by lia]];exact wW q2.extBut (by show @Ne Nat _ _;lia)<|wW q1.extBut (by show @Ne Nat _ _;lia) this;rintro b s' ⟨k,h',a',hk,e1,rfl,rfl,O,ha,hv,J,Z,sz,kp⟩;have dk:k=N:=by have:=congrArg List.length e1;rw[List.length_nil,List.length_drop,List.length_zipIdx,jB]at this;lia
 subst dk;have ea:=NT ha hv;subst ea;refine zc<|wpAny_seqItems (s:={s with heap:=h'}) O rfl ?_;refine zc<|wpAny_newTuple ?_ (hsz:=by rw[jB];exact sz3 h3);have lz:n+k+2<h'.objs.size:=zB Z;show wpAny _ _ (Builtin.SmallTypes.ownedTupleHandOut (.ref<|n+k+2) (.ref h'.objs.size) >>=_) _ _ _;refine zc ?_;unfold Builtin.SmallTypes.ownedTupleHandOut;have hzM:IsZip (h'.push {cls:=.type "tuple",data:=.seq<|fJ k v}) (n+k+2) (n+k) (n+k+1) .ellipsis:=za _ Z;refine zc<|wpAny_setField_rec (s:={s with heap:=h'.push {cls:=.type "tuple",data:=.seq<|fJ k v}}) hzM (by simp) λg1 UP r1=>?_;replace UP:IsZip g1 (n+k+2) (n+k) (n+k+1) (rawInt h'.objs.size):=UP;refine wpAny_setField_rec (s:={s with heap:=g1}) UP (by simp) λg2 Sk r2=>?_;replace Sk:IsZip g2 (n+k+2) (n+k) (n+k+1) (rawInt h'.objs.size):=Sk;have up:∀c o,c≠n+k+2->h'.get? c=some o->g2.get? c=some o:=λc o d e=>r2.extBut _ _ d<|r1.extBut _ _ d<|za _ e;have hT:mI g2 h'.objs.size (fJ k v):=r2.extBut _ _ (yp lz)<|r1.extBut _ _ (yp lz)<|zk _ rfl;rw[sz]at Sk hT;refine zA !⟨?_⟩;show Q (.ref h'.objs.size) _;rw[sz];refine hQ g2 Sk (up _ _ (by show @Ne Nat _ _;lia) O) (λj hj=>?_) hT λc o d1 d2 d3 e=>up c o d1<|kp c o d1 d2 d3 e;have:=J j hj;rw[if_pos hj]at this;exact Pe (λo e=>up _ o (by show @Ne Nat _ _;lia) e) this;refine{0,h0,arr,zV _,rfl,rfl,rfl,k0 _ _ (by show @Ne Nat _ _;lia) hO,na,λj hj=>absurd hj<|Nat.not_lt_zero _,λj hj=>?_,NU,q0.1,λc o d _ _ e=>k0 c o d e};rw[if_neg<|Nat.not_lt_zero _];obtain⟨o,a1,a2⟩:=hit j hj;exact{o,k0 _ _ (by show @Ne Nat _ _;lia) a1,a2}
theorem Kj(h1:1<=N)(hh:A.handled=none)(hs:ZN n N l i s.heap)(lt:l 0<n)(t0:s.heap.IsTuple (l 0)<|xs 0)(e0:(xs 0)[i]?=none)(hE:∀h' e,(∀c o,c≠n+N+2->c≠n+0->s.heap.get? c=some o->h'.get? c=some o)->(∃o,h'.get? e=some o/\o.cls=.type "StopIteration")->E (.ref e) {s with heap:=h'}): wpAny (model prog w) A (Builtin.«zip.__next__» {[.ref<|n+N+2],[]}) Q E s:=by
 obtain⟨hz,hI,⟨arr,na,hO⟩,hit⟩:=hs;show wpAny _ _ (field (.ref<|n+N+2) 2 >>=_) _ _ _;refine zc<|yh hz rfl (x:=.bool false) rfl ?_;show wpAny _ _ (field (.ref<|n+N+2) 3 >>=_) _ _ _;refine zc<|yh hz rfl (x:=.ref<|n+N) rfl ?_;refine zc<|wpAny_seqItems hI rfl ?_;have he:(fJ N λj=>Value.ref<|n+j).isEmpty=false:=by rw[Array.isEmpty_eq_false_iff];intro e;have:=congrArg Array.size e;rw[kj]at this;simp at this;lia
 dsimp only;rw[if_neg<|by rw[he];exact zd];refine zc ?_;unfold Builtin.SmallTypes.ownedTupleIsFree;refine zc<|yh hz rfl (x:=.none) rfl<|zA ?_;simp only[if_true];refine zc<|wpAny_rule ?_;refine zc<|yh hz rfl (x:=.ref<|n+N+1) rfl ?_;refine zc<|wpAny_setField_rec hz (by simp) λh0 NU q0=>?_;replace NU:IsZip h0 (n+N+2) (n+N) (n+N+1) .ellipsis:=NU;have lk:@LT.lt Nat _ (l 0) n:=lt;have J0:Heap.IsTupleIter h0 (n+0) (l 0) i:=by obtain⟨o,a1,a2⟩:=hit 0 h1;exact{o,q0.extBut _ _ (by show @Ne Nat _ _;lia) a1,a2}
 have T0:Heap.IsTuple h0 (l 0) (xs 0):=by obtain⟨o,a1,a2⟩:=t0;exact{o,q0.extBut _ _ (by show @Ne Nat _ _;lia) a1,a2}
 have e2:(fJ N λj=>Value.ref<|n+j).toList.zipIdx=(Value.ref<|n+0,0)::((fJ N λj=>Value.ref<|n+j).toList.zipIdx).drop 1:=by have:=List.drop_eq_getElem_cons (l:=(fJ N λj=>Value.ref<|n+j).toList.zipIdx) (i:=0) (by rw[List.length_zipIdx,jB];exact h1);rw[List.drop_zero]at this;rw[this];simp[fJ]
 rw[e2,List.forIn_cons];refine zc<|zc<|zc<|wpAny_onRaise ?_;show wpAny _ _ (Builtin.SmallTypes.nextOf (.ref<|n+0) >>=_) _ _ _;refine zc<|sv (s:={s with heap:=h0}) hh J0 T0 e0 λh1 e q1 he=>?_;obtain⟨oe,hoe,hce⟩:=he;have UP:IsZip h1 (n+N+2) (n+N) (n+N+1) .ellipsis:=q1 _ _ (by show @Ne Nat _ _;lia) NU;have ez:e≠n+N+2:=λx=>by subst x;rw[UP]at hoe;cases hoe;simp at hce
 refine wpAny_setField_rec (s:={s with heap:=h1}) UP (by simp) λh2 _ q2=>hE h2 e (λc o dz d0 x=>q2.extBut _ _ dz<|q1 _ _ d0<|q0.extBut _ _ dz x) {oe,q2.extBut _ _ ez hoe,hce}
end
noncomputable def SH(K:Frag)(N:Nat)(l:Nat->Addr):It:={λi H=>∃(xs:Nat->List V)(x:Nat->V),∀j,j<N->jc K H (l j) (xs j)/\(xs j)[i]?=some (x j),λi H y H'=>∃T,H T=none/\y=.ref T/\∀(xs:Nat->List V)(x:Nat->V),(∀j,j<N->jc K H (l j) (xs j)/\(xs j)[i]?=some (x j))->H'=upd H T (.tup<|(List.range N).map x),λi H=>∃xs:Nat->List V,(∀j,j<N->jc K H (l j) (xs j))/\(xs 0).length<=i}
noncomputable def UQ(n N:Nat):im:=(List.range<|N+3).map λj=>n+j
theorem rB(h:b∈UQ n N):∃j,j<N+3/\b=n+j:=by obtain⟨j,hj,e⟩:=zi.mp h;exact{j,zS.mp hj,e.symm}
theorem fK(h:j<N+3):(n+j:Nat)∈UQ n N:=zi.mpr {j,zS.mpr h,rfl}
theorem DQ(h:∀j,j<N->RelV (x j) (u j)):Vals ((List.range N).map x) ((List.range N).map u):=by
 have:∀l:wp,(∀j∈l,j<N)->Vals (l.map x) (l.map u):=by intro l;induction l with|nil=>exact λ_=>.nil|cons a l ih=>exact λhl=>.cons (h a<|hl a zj)<|ih λj hj=>hl j<|zg _ hj
 exact this _ λj hj=>zS.mp hj
theorem vQ{P:Program}{w:World}{K:Frag}{es:li}{kk:Nat}{tp:Pos}{n N:Nat}{l:Nat->Addr}(h1:1<=N)(h3:N<=3)(lt:∀j,j<N->l j<n):Turn P w K (.Tuple es kk tp) (SH K N l) (UQ n N) (n+N+2) (ZN n N l) where
 mem:=fK (j:=N+2)<|by lia
 obj:=λi h st b hb=>by
  obtain⟨j,hj,rfl⟩:=rB hb
  by_cases q:j<N
  ·obtain⟨o,e,c,d⟩:=st.it j q;exact{o,e,λv z=>by rw[d]at z;cases z}
  ·obtain⟨arr,na,hO⟩:=st.o
   have:j=N\/j=N+1\/j=N+2:=by lia
   rcases this with rfl|rfl|rfl
   ·exact{_,st.t,λv z=>by cases z}
   ·exact{_,hO,λv z=>by cases z}
   ·exact{_,st.z,λv z=>by cases z}
 keep:=λi h h' st k=>by
  obtain⟨hz,hI,⟨arr,na,hO⟩,J⟩:=st
  exact{k _ (fK (j:=N+2)<|by lia) _ hz,k _ (fK (j:=N)<|by lia) _ hI,{arr,na,k _ (fK (j:=N+1)<|by lia) _ hO},λj hj=>Pe (λo e=>k _ (fK<|by lia) o e)<|J j hj}
 item:=by
  intro X hP hw hK hc i pins s σ H E I hf st hg
  subst hP hw hK
  obtain⟨xs,x,hx⟩:=hg
  have ex:∀j,∃(ay:dL)(u:Value),j<N->Vals (xs j) ay/\s.heap.IsTuple (l j) ay.toArray/\ay[i]?=some u/\RelV (x j) u:=λj=>by
   by_cases q:j<N
   ·obtain⟨ay,rv,p,_⟩:=I.tuple (hx j q).1
    obtain⟨u,hu,ru⟩:=rv.get (hx j q).2
    exact{ay,u,λ_=>⟨rv,p,hu,ru⟩}
   ·exact{[],.none,λh=>absurd h q}
  have fx:=Classical.axiomOfChoice ex
  obtain⟨ay,fx⟩:=fx
  obtain⟨u,fx⟩:=Classical.axiomOfChoice fx
  have hT:s.TypeIs (.ref<|n+N+2) "zip":={_,st.z,rfl}
  have lz:@LT.lt Nat _ (n+N+2) s.heap.objs.size:=zB st.z
  unfold pyNext
  refine zc<|wpAny_attempt<|wpAny_callSpecial?_slot (name:=Str.ofString "__next__") hT F.slot_zip_next<|yN F.slot_zip_next hT F.entry_zip_next (Hw h1 h3 lt st (xs:=λj=>(ay j).toArray) (v:=u) (λj hj=>(fx j hj).2.1) (λj hj=>by simpa using (fx j hj).2.2.1) λg1 z1 O1 m1 T1 kp=>zA !⟨?_⟩)<|F.args_zip_next_1 _
  refine wpAny_letOwnedTupleGo_zip (s:={s with heap:=g1}) z1 λg2 z2 r2=>?_
  have Zb:∀c o,c∉UQ n N->s.heap.get? c=some o->g2.get? c=some o:=λc o hc e=>r2.extBut _ _ (λz=>hc<|z ▸ fK (j:=N+2) (by lia))<|kp c o (λz=>hc<|z ▸ fK (j:=N+2) (by lia)) (λz=>hc<|z ▸ fK (j:=N+1) (by lia)) (λj hj z=>hc<|z ▸ fK (by lia)) e
  have T2:mI g2 s.heap.objs.size (fJ N u):=r2.extBut _ _ (yp lz) T1
  have I2:Inv X pins σ (upd H s.heap.objs.size<|.tup<|(List.range N).map x) {s with heap:=g2}:=I.M_ (t':=s.toks) (UQ n N) hf Zb (Heap.get?_none_of_le<|zq _) {by rw[zb,yI];exact smz<|zO h3<|by decide,_,DQ λj hj=>(fx j hj).2.2.2,{_,T2,rfl,rfl,_,rfl}}
  refine{.ref s.heap.objs.size,_,I2,rfl,{_,I.aN.fresh<|zq _,rfl,λys y hy=>?_},{z2,?_,{_,kj,r2.extBut _ _ (by show @Ne Nat _ _;lia) O1},λj hj=>wW r2.extBut (by show @Ne Nat _ _;lia)<|m1 j hj},λb hb=>?_}
  ·congr 2
   refine zU λj hj=>?_
   have hj:=zS.mp hj
   have:=I.oq (hy j hj).1 (hx j hj).1
   have e:=(hy j hj).2
   rw[this,(hx j hj).2]at e
   exact zT e
  ·exact r2.extBut _ _ (by show @Ne Nat _ _;lia) (kp _ _ (by show @Ne Nat _ _;lia) (by show @Ne Nat _ _;lia) (λj hj=>by show @Ne Nat _ _;lia) st.t)
  ·obtain⟨j,hj,rfl⟩:=rB hb
   rw[az<|by show @Ne Nat _ _;lia]
   exact(hf _ hb).1
 done:=by
  intro X hP hw hK hc i pins s σ H E I hf st hg
  subst hP hw hK
  obtain⟨xs,hx,hl⟩:=hg
  obtain⟨Kk,rv0,p0,_⟩:=I.tuple<|hx 0 h1
  have hT:s.TypeIs (.ref<|n+N+2) "zip":={_,st.z,rfl}
  have PN:=rv0.length
  unfold pyNext
  refine zc<|wpAny_attempt<|wpAny_callSpecial?_slot (name:=Str.ofString "__next__") hT F.slot_zip_next<|yN F.slot_zip_next hT F.entry_zip_next (Kj h1 (I.ok.hd hc) st (lt 0 h1) (xs:=λ_=>Kk.toArray) p0 (by simp;lia) λh1 e kp he=>?_)<|F.args_zip_next_1 _
  obtain⟨o,ho,NF⟩:=he
  refine zc<|wpAny_isInstance (T:="StopIteration") (b:=true) ⟨o,ho,NF⟩ isSubtype_stop<|zA {rfl,?_}
  exact I.M7 (t':=s.toks) (UQ n N) hf λc o hc e=>kp c o (λz=>hc<|z ▸ fK (j:=N+2) (by lia)) (λz=>hc<|z ▸ fK (j:=0) (by lia)) e
 self:=λA' i s Q E st h=>wpAny_pyIter_zip st.z h
noncomputable def two(a b:Addr):Nat->Addr:=λj=>if j=0 then a else b
noncomputable def SI(a b c:Addr):Nat->Addr:=λj=>if j=0 then a else if j=1 then b else c
theorem Zl{p:Nat->Prop}(h0:p 0)(h1:p 1):∀j,j<2->p j|0,_=>h0|1,_=>h1|j+2,h=>by lia
theorem Zm{p:Nat->Prop}(h0:p 0)(h1:p 1)(h2:p 2):∀j,j<3->p j|0,_=>h0|1,_=>h1|2,_=>h2|j+3,h=>by lia
section
variable{X:Cx}{a b c:Expr}{ta:TA}{p pos tp:Pos}{es:li}{kk:Nat}
theorem SJ(hg:Gl X "zip")(hm:X.mg "zip"= none)(ha:PA X [a,b] ta)(hs:starEach [a,b] X.env=[(false,eval a X.env),(false,eval b X.env)])(AF:starEach [b] X.env=[(false,eval b X.env)]): PI X (.Tuple es kk tp) (.Call (.Name "zip" p) [a,b] [] pos) (λσ H R=>ta σ H λvs H1=>∃l0 l1,vs=[.ref l0,.ref l1]/\(∃xs,jc X.K H1 l0 xs)/\(∃xs,jc X.K H1 l1 xs)/\R (SH X.K 2<|two l0 l1) H1):=by intro pins s σ H R I h;refine Call_<|gC I hg hm boot_zip<|PyProof.Rows.callWith_type1 (bb (ha pos pins s σ H _ I h) λus s1 ⟨vs,H1,I1,r1,q1⟩=>?_) (by rw[hs,AF]) (by rw[AF];rfl);obtain⟨l0,l1,e,⟨Dc,q0⟩,⟨Dd,q2⟩,q⟩:=q1;subst e;obtain⟨u,v,rfl,r,r'⟩:=r1.two;cases r;cases r';obtain⟨Kk,rv0,p0,_⟩:=I1.tuple q0;obtain⟨SK,Xg,p1,_⟩:=I1.tuple q2;refine Dh (show s1.heap.IsTuple l0 Kk.toArray from p0) (show s1.heap.IsTuple l1 SK.toArray from p1) λh' zs kp=>?_;have zn:ZN s1.heap.objs.size 2 (two l0 l1) 0 h':={zs.1,zs.2.1,zs.2.2.1,Zl zs.2.2.2.1 zs.2.2.2.2};refine wpAny_pyIter_zip (s:={s1 with heap:=h'}) zs.1 {_,_,_,_,H1,rfl,I1.kept (t':=s1.toks) kp,vQ (by decide) (by decide)<|Zl p0.lt p1.lt,zn,λb hb=>?_,q};obtain⟨j,_,rfl⟩:=rB hb;exact I1.qz (Nat.le_add_right _ _)<|I1.aN.fresh<|Nat.le_add_right _ _
theorem SM(hg:Gl X "zip")(hm:X.mg "zip"= none)(ha:PA X [a,b,c] ta)(hs:starEach [a,b,c] X.env=[(false,eval a X.env),(false,eval b X.env),(false,eval c X.env)])(AF:starEach [b,c] X.env=[(false,eval b X.env),(false,eval c X.env)]): PI X (.Tuple es kk tp) (.Call (.Name "zip" p) [a,b,c] [] pos) (λσ H R=>ta σ H λvs H1=>∃l0 l1 l2,vs=[.ref l0,.ref l1,.ref l2]/\(∃xs,jc X.K H1 l0 xs)/\(∃xs,jc X.K H1 l1 xs)/\(∃xs,jc X.K H1 l2 xs)/\R (SH X.K 3<|SI l0 l1 l2) H1):=by intro pins s σ H R I h;refine Call_<|gC I hg hm boot_zip<|PyProof.Rows.callWith_type1 (bb (ha pos pins s σ H _ I h) λus s1 ⟨vs,H1,I1,r1,q1⟩=>?_) (by rw[hs,AF]) (by rw[AF];rfl);obtain⟨l0,l1,l2,e,⟨Dc,q0⟩,⟨Dd,q2⟩,⟨Uz,q3⟩,q⟩:=q1;subst e;obtain⟨u,v,z,rfl,r,r',r''⟩:=r1.three;cases r;cases r';cases r'';obtain⟨Kk,rv0,p0,_⟩:=I1.tuple q0;obtain⟨SK,Xg,p1,_⟩:=I1.tuple q2;obtain⟨wK,UN,p2,_⟩:=I1.tuple q3;refine Dn (show s1.heap.IsTuple l0 Kk.toArray from p0) (show s1.heap.IsTuple l1 SK.toArray from p1) (show s1.heap.IsTuple l2 wK.toArray from p2) λh' zs kp=>?_;have zn:ZN s1.heap.objs.size 3 (SI l0 l1 l2) 0 h':={zs.1,zs.2.1,zs.2.2.1,Zm zs.2.2.2.1 zs.2.2.2.2.1 zs.2.2.2.2.2};refine wpAny_pyIter_zip (s:={s1 with heap:=h'}) zs.1 {_,_,_,_,H1,rfl,I1.kept (t':=s1.toks) kp,vQ (by decide) (by decide)<|Zm p0.lt p1.lt p2.lt,zn,λb hb=>?_,q};obtain⟨j,_,rfl⟩:=rB hb;exact I1.qz (Nat.le_add_right _ _)<|I1.aN.fresh<|Nat.le_add_right _ _
end
section
variable{K:Frag}{X:Cx}{a c e:Expr}{t:je}{p pos tp:Pos}{es:li}{kk:Nat}
theorem izn(hm:X.mg "zip"= none)(ha:DA K X [a,c] t)(hg:autoParam (Gl X "zip") qQJ)(hs:autoParam (starEach [a,c] X.env=[(false,eval a X.env),(false,eval c X.env)]) qQJ)(AF:autoParam (starEach [c] X.env=[(false,eval c X.env)]) qQJ)(hK:autoParam (X.K=K) qQJ): DI K X (.Tuple es kk tp) (.Call (.Name "zip" p) [a,c] [] pos) (WZ t):=by subst hK;exact⟨λy=>(SJ (X:=y.cx) hg hm (ha.of y) hs AF).mono λτ H R ⟨σ,S,RI,Z,aC,hS,q,hR,hZ⟩=>{σ,S,_,Z,aC,hS,q,λds S1 vs H1 ⟨xs,ys,e,hl,r1⟩ v1 s1 k1=>by subst e;obtain⟨v,u,rfl,ra,rb⟩:=v1.two;obtain⟨a,va,rfl,qa,ta⟩:=ra.tup;obtain⟨b,vb,rfl,qb,tb⟩:=rb.tup;refine{a,b,rfl,{va,.of qa},{vb,.of qb},hR _ S1 _ H1 r1 (λi S2 H2 k2 s2 _=>?_) s1 k1};have Xu:jc X.K H2 a va:=.of<|k2.t _ _ qa;have Xv:jc X.K H2 b vb:=.of<|k2.t _ _ qb;have la:va.length=xs.length:=ta.len;let f:Nat->List V:=λj=>if j=0 then va else vb;refine{λd hd=>?_,λh=>{f,Zl Xu Xv,by show va.length<=i;unfold cC at h;rw[List.length_zipWith]at h;lia}};unfold cC at hd;obtain⟨x,y',e1,e2,e3⟩:=List.getElem?_zipWith_eq_some.mp hd;subst e3;obtain⟨vx,f1,g1⟩:=(RvAll.ts k2 _ ta).get e1;obtain⟨vy,f2,g2⟩:=(RvAll.ts k2 _ tb).get e2;let g:Nat->V:=λj=>if j=0 then vx else vy;have ok:∀j,j<2->jc X.K H2 (two a b j) (f j)/\(f j)[i]?=some (g j):=Zl ⟨Xu,f1⟩ ⟨Xv,f2⟩;refine{⟨f,g,ok⟩,λx' H' ⟨T,hT,e4,e5⟩=>?_};have:=e5 f g ok;subst this e4;have kk:Kp X.K H2 (upd H2 T<|.tup [vx,vy]):=.new hT;exact{oE aE<|RvAll.ts kk _<|aT g1<|aT g2 bt,kk,s2.grow hT},hZ}⟩
theorem ab4(hm:X.mg "zip"= none)(ha:DA K X [a,c,e] t)(hg:autoParam (Gl X "zip") qQJ)(hs:autoParam (starEach [a,c,e] X.env=[(false,eval a X.env),(false,eval c X.env),(false,eval e X.env)]) qQJ)(AF:autoParam (starEach [c,e] X.env=[(false,eval c X.env),(false,eval e X.env)]) qQJ)(hK:autoParam (X.K=K) qQJ): DI K X (.Tuple es kk tp) (.Call (.Name "zip" p) [a,c,e] [] pos) (SE t):=by subst hK;exact⟨λy=>(SM (X:=y.cx) hg hm (ha.of y) hs AF).mono λτ H R ⟨σ,S,RI,Z,aC,hS,q,hR,hZ⟩=>{σ,S,_,Z,aC,hS,q,λds S1 vs H1 ⟨xs,ys,zs,e,hl,Rl,r1⟩ v1 s1 k1=>by subst e;obtain⟨v,u,w,rfl,ra,rb,rc⟩:=v1.thr;obtain⟨a,va,rfl,qa,ta⟩:=ra.tup;obtain⟨b,vb,rfl,qb,tb⟩:=rb.tup;obtain⟨c,vc,rfl,qc,tc⟩:=rc.tup;refine{a,b,c,rfl,{va,.of qa},{vb,.of qb},{vc,.of qc},hR _ S1 _ H1 r1 (λi S2 H2 k2 s2 _=>?_) s1 k1};have Xu:jc X.K H2 a va:=.of<|k2.t _ _ qa;have Xv:jc X.K H2 b vb:=.of<|k2.t _ _ qb;have qc2:jc X.K H2 c vc:=.of<|k2.t _ _ qc;have la:va.length=xs.length:=ta.len;let f:Nat->List V:=λj=>if j=0 then va else if j=1 then vb else vc;refine{λd hd=>?_,λh=>{f,Zm Xu Xv qc2,by show va.length<=i;rw[la,<-oK hl Rl];exact h}};obtain⟨x,y',z,e1,e2,e3,e4⟩:=oM hd;subst e4;obtain⟨vx,f1,g1⟩:=(RvAll.ts k2 _ ta).get e1;obtain⟨vy,f2,g2⟩:=(RvAll.ts k2 _ tb).get e2;obtain⟨vz,f3,g3⟩:=(RvAll.ts k2 _ tc).get e3;let g:Nat->V:=λj=>if j=0 then vx else if j=1 then vy else vz;have ok:∀j,j<3->jc X.K H2 (SI a b c j) (f j)/\(f j)[i]?=some (g j):=Zm ⟨Xu,f1⟩ ⟨Xv,f2⟩ ⟨qc2,f3⟩;refine{⟨f,g,ok⟩,λx' H' ⟨T,hT,e4,e5⟩=>?_};have:=e5 f g ok;subst this e4;have kk:Kp X.K H2 (upd H2 T<|.tup [vx,vy,vz]):=.new hT;exact{oE aE<|RvAll.ts kk _<|aT g1<|aT g2<|aT g3 bt,kk,s2.grow hT},hZ}⟩
end
end L2
namespace My
open PySem L2
def top(i:Nat):Stmt:=PySem.Challenge.pw_pageturns_k84_whole_turned_over.main.body.getD i<|.Pass {0,0,0,0}
abbrev Hx:Stmt:=top 20
abbrev Kl:Stmt:=top 21
abbrev Hy:Stmt:=top 22
abbrev qH:Stmt:=top 29
abbrev DR:Stmt:=top 31
abbrev xm:Stmt:=top 34
abbrev kY:Stmt:=top 44
abbrev lU:Stmt:=top 47
abbrev DU:Stmt:=top 49
abbrev Km:Stmt:=top 52
abbrev uJ:Stmt:=top 59
abbrev Bn:Stmt:=top 60
abbrev Bo:Stmt:=top 64
abbrev sN:Stmt:=top 69
abbrev gX:Stmt:=top 71
abbrev gY:Stmt:=top 72
abbrev fL:Stmt:=top 73
abbrev DV:Stmt:=top 104
abbrev vR:Stmt:=top 106
abbrev Ko:Stmt:=top 109
abbrev vS:Stmt:=top 110
abbrev NV:Stmt:=top 111
abbrev Hz:Stmt:=top 112
abbrev br:Stmt:=top 90
abbrev dN:Stmt:=top 95
structure dY where
 (NW oN lV HA Bp PQ mS sO xn jC jD iB vT mT gZ lW sP sQ vU sR mU fM ao ax gq aR fi aK:Addr)
 (FD g6 fN HB Bq Kq gs jE:FuncData)
 (mV oO mW sS kH Br kI mX Bs NX Xw:Tok)
 ts:List Addr
 (f DX Kr:Nat->Addr)
 (d SN Xx:Nat->FuncData)
structure Txt(w:World)(K:Frag)(mg:Str->Option Value)(t:dY):Prop where
 fn:Hv K mg top t.f t.d [17,18,19,20,21,22,23,24,25,26,29,30,31,32,33,34,35,41,42,43,44,45,46,47,48,49,50,51,52,53,59,60,61,62,63,64,65,68,69,70,72,78,79,80,81,82,83,84,85,86,87,88,91,96,98,99,100,101,102,103,104,105,106,107,108,109,110,111,112,113,114,115,116,117]
 eO:DP K t.ao "Shelf." br t.DX t.SN [0,1,2,3,4,5,6,7,8,13]
 fb:DP K t.ax "Walk." dN t.Kr t.Xx [0,1,2,3,4,5,6,10,11,12,13,14]
 plain:Ht K mg "plain" (top 67) ["shelf","order","sieve","moment"] t.NW t.FD
 vV:Binds K t.FD ["shelf","order","sieve","moment"] [.none]
 fO:Ht K mg "sorted_by_keys" (top 71) ["rows","way"] t.oN t.g6
 eC:Ht K mg "sorted_by_values" (top 73) ["columns","part","rows"] t.lV t.fN
 rC:Ht K mg "page_on" (top 76) ["shelf","order","sieve","size","gap","moment"] t.HA t.HB
 kl:Ht K mg "page_back" (top 77) ["shelf","order","sieve","size","gap","moment"] t.Bp t.Bq
 law:Ht K mg "law" (top 118) ["_law_script"] t.PQ t.Kq
 dq:PM K t.ao "worths_at" "Shelf.worths_at" (inClass br 9) ["self","key","moment"] t.mS t.gs
 fj:Binds K t.gs ["self","key","moment"] [.none]
 dO:PM K t.ao "all_at" "Shelf.all_at" (inClass br 10) ["self","moment"] t.sO t.jE
 g7:Binds K t.jE ["self","moment"] [.none]
 lX:mg "MOST_NAME_SIGNS"= some (.int 8 t.mV)
 mY:mg "MOST_KEY_SIGNS"= some (.int 12 t.oO)
 lY:mg "MOST_WORD_SIGNS"= some (.int 40 t.mW)
 qI:mg "MOST_COLUMNS"= some (.int 8 t.sS)
 jF:mg "MOST_PARTS_orders"= some (.int 8 t.kH)
 xo:mg "MOST_DEEP"= some (.int 8 t.Br)
 jG:mg "MOST_PARTS_sieves"= some (.int 200 t.kI)
 lZ:mg "MOST_IN_A_TUPLE"= some (.int 8 t.mX)
 xp:mg "MOST_ROWS"= some (.int 1000 t.Bs)
 g8:mg "START"= some (.str "start" t.NX)
 xq:mg "END"= some (.str "end" t.Xw)
 Ks:mg "KINDS"= some (.ref t.xn)
 Kt:∀H,Rv K H (.kt [.str "number",.str "word"])<|.ref t.xn
 iC:mg "OTHER_WAY"= some (.ref t.jC)
 jH:Iy w K t.jC [("up",.str "down"),("down",.str "up")]
 mZ:mg "OTHER_END"= some (.ref t.jD)
 pW:Iy w K t.jD [("first",.str "last"),("last",.str "first")]
 kZ:mg "OTHER_SIDE"= some (.ref t.iB)
 m6:Iy w K t.iB [("ahead",.str "behind"),("behind",.str "ahead")]
 DY:mg "LENGTHS"= some (.ref t.vT)
 HC:Iy w K t.vT [("every",.int 1),("is",.int 3),("below",.int 3),("above",.int 3),("begins",.int 3),("key",.int 2),("not",.int 2),("and",.int 2),("or",.int 2)]
 aW:mg "len"= none
 k7:mg "all"= none
 Xy:mg "any"= none
 aA:mg "isinstance"= none
 gu:mg "range"= none
 FE:mg "int"= none
 pX:mg "str"= none
 SO:mg "bool"= none
 bh:mg "tuple"= none
 Ku:mg "dict"= none
 PR:mg "set"= none
 Kv:mg "zip"= none
 g_:mg "sorted"= none
 PU:mg "min"= none
 Xz:mg "max"= none
 sT:mg "reversed"= none
 gJ:mg "BadColumns"= some (.ref t.mT)
 dP:excIn K t.mT L2.oB "ValueError.__new__"= true
 km:mg "BadRow"= some (.ref t.gZ)
 hG:excIn K t.gZ L2.oB "ValueError.__new__"= true
 eS:mg "BadOrder"= some (.ref t.lW)
 dA:excIn K t.lW L2.oB "ValueError.__new__"= true
 pY:mg "BadSieve"= some (.ref t.sP)
 iD:excIn K t.sP L2.oB "ValueError.__new__"= true
 eT:mg "BadPlace"= some (.ref t.sQ)
 dD:excIn K t.sQ L2.oB "ValueError.__new__"= true
 DZ:mg "BadSize"= some (.ref t.vU)
 oP:excIn K t.vU L2.oB "ValueError.__new__"= true
 HD:mg "HasKey"= some (.ref t.sR)
 sU:excIn K t.sR L2.oB "ValueError.__new__"= true
 Kw:mg "NoKey"= some (.ref t.mU)
 xr:excIn K t.mU L2.oB "ValueError.__new__"= true
 Bu:mg "NoMoment"= some (.ref t.fM)
 l4:excIn K t.fM L2.oB "ValueError.__new__"= true
 Kx:mg "Shelf"= some (.ref t.ao)
 aj:q_ K t.ao
 Ky:Mk K t.ao (t.DX 0)
 cT:findIn K (.ref t.ao) "columns"= some none
 cM:findIn K (.ref t.ao) "deeds"= some none
 bN:findIn K (.ref t.ao) "runs"= some none
 FF:mg "Walk"= some (.ref t.ax)
 aw:q_ K t.ax
 FG:Mk K t.ax (t.Kr 0)
 eP:findIn K (.ref t.ax) "shelf"= some none
 cz:findIn K (.ref t.ax) "order"= some none
 k8:findIn K (.ref t.ax) "sieve"= some none
 iE:findIn K (.ref t.ax) "size"= some none
 cU:findIn K (.ref t.ax) "fore"= some none
 bT:findIn K (.ref t.ax) "hinder"= some none
 gv:t.g6.code=.ref t.gq
 dQ:codeHdIn K t.gq t.aR=true
 m7:t.aR∈t.ts
 fk:t.fN.code=.ref t.fi
 dj:codeHdIn K t.fi t.aK=true
 kJ:t.aK∈t.ts
 np:[t.aR,t.aK].Nodup
 ta:∀b∈t.ts,b=t.aR\/b=t.aK
 bl:∀(s:Shared)(u:Value),BindsTo s t.Kq {[u],[]} [("_law_script",u)]
section
variable{w:World}{K:Frag}{mg:Str->Option Value}{t:dY}(T:Txt w K mg t)
def Txt.jI:=T.fn 17<|by decide
def Txt.hU:=T.fn 18<|by decide
def Txt.oQ:=T.fn 19<|by decide
def Txt.rD:=T.fn 20<|by decide
def Txt.l5:=T.fn 21<|by decide
def Txt.xt:=T.fn 22<|by decide
def Txt.xu:=T.fn 23<|by decide
def Txt.jJ:=T.fn 24<|by decide
def Txt.compared:=T.fn 25<|by decide
def Txt.dE:=T.fn 26<|by decide
def Txt.gL:=T.fn 29<|by decide
def Txt.oR:=T.fn 30<|by decide
def Txt.m8:=T.fn 31<|by decide
def Txt.eF:=T.fn 32<|by decide
def Txt.ko:=T.fn 33<|by decide
def Txt.l6:=T.fn 34<|by decide
def Txt.cw:=T.fn 35<|by decide
def Txt.xw:=T.fn 41<|by decide
def Txt.D1:=T.fn 42<|by decide
def Txt.xx:=T.fn 43<|by decide
def Txt.eU:=T.fn 44<|by decide
def Txt.xy:=T.fn 45<|by decide
def Txt.jK:=T.fn 46<|by decide
def Txt.eG:=T.fn 47<|by decide
def Txt.oU:=T.fn 48<|by decide
def Txt.jL:=T.fn 49<|by decide
def Txt.fc:=T.fn 50<|by decide
def Txt.sV:=T.fn 51<|by decide
def Txt.turned:=T.fn 52<|by decide
def Txt.iF:=T.fn 53<|by decide
def Txt.eV:=T.fn 59<|by decide
def Txt.oV:=T.fn 60<|by decide
def Txt.dR:=T.fn 61<|by decide
def Txt.jM:=T.fn 62<|by decide
def Txt.gM:=T.fn 63<|by decide
def Txt.passes:=T.fn 64<|by decide
def Txt.iG:=T.fn 65<|by decide
def Txt.bU:=T.fn 68<|by decide
def Txt.iH:=T.fn 69<|by decide
def Txt.sW:=T.fn 70<|by decide
def Txt.fP:=T.fn 72<|by decide
def Txt.l7:=T.fn 78<|by decide
def Txt.iI:=T.fn 79<|by decide
def Txt.kr:=T.fn 80<|by decide
def Txt.iJ:=T.fn 81<|by decide
def Txt.fu:=T.fn 82<|by decide
def Txt.iK:=T.fn 83<|by decide
def Txt.iL:=T.fn 84<|by decide
def Txt.jN:=T.fn 85<|by decide
def Txt.eW:=T.fn 86<|by decide
def Txt.xA:=T.fn 87<|by decide
def Txt.jO:=T.fn 88<|by decide
def Txt.gw:=T.fn 91<|by decide
def Txt.fw:=T.fn 96<|by decide
def Txt.dH:=T.fn 98<|by decide
def Txt.gx:=T.fn 99<|by decide
def Txt.rE:=T.fn 100<|by decide
def Txt.oW:=T.fn 101<|by decide
def Txt.m9:=T.fn 102<|by decide
def Txt.Bx:=T.fn 103<|by decide
def Txt.sX:=T.fn 104<|by decide
def Txt.xB:=T.fn 105<|by decide
def Txt.iM:=T.fn 106<|by decide
def Txt.xC:=T.fn 107<|by decide
def Txt.l8:=T.fn 108<|by decide
def Txt.D2:=T.fn 109<|by decide
def Txt.xD:=T.fn 110<|by decide
def Txt.Kz:=T.fn 111<|by decide
def Txt.rF:=T.fn 112<|by decide
def Txt.sY:=T.fn 113<|by decide
def Txt.m_:=T.fn 114<|by decide
def Txt.xE:=T.fn 115<|by decide
def Txt.oX:=T.fn 116<|by decide
def Txt.D3:=T.fn 117<|by decide
def Txt.fQ:=T.eO 0<|by decide
def Txt.fC:=T.eO 1<|by decide
def Txt.cW:=T.eO 2<|by decide
def Txt.eI:=T.eO 3<|by decide
def Txt.b_:=T.eO 4<|by decide
def Txt.bJ:=T.eO 5<|by decide
def Txt.cg:=T.eO 6<|by decide
def Txt.aB:=T.eO 7<|by decide
def Txt.fE:=T.eO 8<|by decide
def Txt.cj:=T.eO 13<|by decide
def Txt.eQ:=T.fb 0<|by decide
def Txt.xG:=T.fb 1<|by decide
def Txt.oY:=T.fb 2<|by decide
def Txt.l9:=T.fb 3<|by decide
def Txt.oZ:=T.fb 4<|by decide
def Txt.iN:=T.fb 5<|by decide
def Txt.o_:=T.fb 6<|by decide
def Txt.fz:=T.fb 10<|by decide
def Txt.dS:=T.fb 11<|by decide
def Txt.cy:=T.fb 12<|by decide
def Txt.bI:=T.fb 13<|by decide
def Txt.cF:=T.fb 14<|by decide
end
def By:=bq<|top 17
def xH:=bq<|top 18
def xI:=bq<|top 19
def D4:=bq<|top 20
def HE:=bq<|top 21
def D5:=bq<|top 22
def D8:=bq<|top 23
def Bz:=bq<|top 24
def pZ:=bq<|top 25
def dZ:=bq<|top 26
def pb:=bq<|top 29
def xJ:=bq<|top 30
def BA:=bq<|top 31
def uK:=bq<|top 32
def xK:=bq<|top 33
def uL:=bq<|top 34
def BB:=bq<|top 35
def HF:=bq<|top 41
def HG:=bq<|top 42
def D9:=bq<|top 43
def fR:=bq<|top 44
def D_:=bq<|top 45
def sZ:=bq<|top 46
def kK:=bq<|top 47
def xM:=bq<|top 48
def p5:=bq<|top 49
def bC:=bq<|top 50
def p6:=bq<|top 51
def vW:=bq<|top 52
def uM:=bq<|top 53
def bD:=bq<|top 59
def xN:=bq<|top 60
def ng:=bq<|top 61
def jP:=bq<|top 62
def eJ:=bq<|top 63
def vX:=bq<|top 64
def qJ:=bq<|top 65
def KA:=bq<|top 67
def nh:=bq<|top 68
def i5:=bq<|top 69
def gy:=bq<|top 70
def nj:=bq<|top 71
def cG:=bq<|top 72
def kL:=bq<|top 73
def Ea:=bq<|top 76
def xO:=bq<|top 77
def k9:=bq<|top 78
def i6:=bq<|top 79
def xP:=bq<|top 80
def uN:=bq<|top 81
def qL:=bq<|top 82
def uO:=bq<|top 83
def uP:=bq<|top 84
def s_:=bq<|top 85
def bV:=bq<|top 86
def tj:=bq<|top 87
def jQ:=bq<|top 88
def jR:=bq<|top 91
def qM:=bq<|top 96
def xQ:=bq<|top 98
def cN:=bq<|top 99
def Eb:=bq<|top 100
def cX:=bq<|top 101
def tm:=bq<|top 102
def BC:=bq<|top 103
def BD:=bq<|top 104
def eK:=bq<|top 105
def cO:=bq<|top 106
def hW:=bq<|top 107
def HH:=bq<|top 108
def HJ:=bq<|top 109
def tq:=bq<|top 110
def nq:=bq<|top 111
def cP:=bq<|top 112
def HK:=bq<|top 113
def Ec:=bq<|top 114
def bw:=bq<|top 115
def HL:=bq<|top 116
def vY:=bq<|top 117
def cD:=bq<|top 118
def nr:=bq<|inClass br 0
def xR:=bq<|inClass br 1
def qN:=bq<|inClass br 2
def uQ:=bq<|inClass br 3
def jf:=bq<|inClass br 4
def h_:=bq<|inClass br 5
def d_:=bq<|inClass br 6
def jS:=bq<|inClass br 7
def xS:=bq<|inClass br 8
def fS:=bq<|inClass br 9
def fe:=bq<|inClass br 10
def jg:=bq<|inClass br 13
def pe:=bq<|inClass dN 0
def Ed:=bq<|inClass dN 1
def xT:=bq<|inClass dN 2
def uR:=bq<|inClass dN 3
def xU:=bq<|inClass dN 4
def k_:=bq<|inClass dN 5
def nv:=bq<|inClass dN 6
def fg:=bq<|inClass dN 10
def dU:=bq<|inClass dN 11
def l_:=bq<|inClass dN 12
def ma:=bq<|inClass dN 13
def eX:=bq<|inClass dN 14
theorem sm(h:n<=1000):n<=sizeLine:=yP<|j_ h
theorem uS:0<=sizeLine:=sm<|by decide
theorem uT:1<=sizeLine:=sm<|by decide
theorem bR:2<=sizeLine:=sm<|by decide
theorem qO:3<=sizeLine:=sm<|by decide
theorem uU:4<=sizeLine:=sm<|by decide
theorem ab6:6<=sizeLine:=sm<|by decide
theorem HM:8<=sizeLine:=sm<|by decide
theorem XB:10<=sizeLine:=sm<|by decide
theorem XD:12<=sizeLine:=sm<|by decide
def Gt(S:aq)(d:D):Prop:=(∃k,RZ S d k)/\∀z,d=.str z->z.cps.size<=1000
noncomputable def isLet(c:Nat):Bool:=decide (97<=c)&&decide (c<=122)
noncomputable def FH(c:Nat):Bool:=decide (48<=c)&&decide (c<=57)
noncomputable def FI(c:Nat):Bool:=decide (32<=c)&&decide (c<=126)
noncomputable def lg(z:Str):Bool:=decide (1<=z.cps.size)&&decide (z.cps.size<=8)&&z.cps.toList.all isLet
noncomputable def kM(z:Str):Bool:=decide (1<=z.cps.size)&&decide (z.cps.size<=12)&&(z.cps.toList.head?.any isLet)&&z.cps.toList.all λc=>isLet c||FH c
noncomputable def p7(z:Str):Bool:=decide (z.cps.size<=40)&&z.cps.toList.all FI
noncomputable def ofStr(f:Str->Bool):D->Bool|.str z=>f z|_=>false
noncomputable def tw:D->Bool|.int _=>true|_=>false
noncomputable def iO(kind:Str)(d:D):Bool:=ah d||if kind ="number" then tw d else ofStr p7 d
def NY(f:D->Bool):rj:=λds S R _=>∃d,ds=[d]/\Gt S d/\R (.bl<|f d) S
def KC(f:Nat->Bool):rj:=λds S R _=>∃c,ds=[.str ⟨#[c]⟩]/\R (.bl<|f c) S
theorem p8:∀{xs ys:v0}{a b:D},Paired rel xs ys->rel a b->Paired rel (xs++[a]) (ys++[b])|_,_,_,_,.nil,r=>.cons r .nil|_,_,_,_,.cons q t,r=>.cons q<|p8 t r
theorem take_snoc{α:Type}{l:List α}{i:Nat}{d:α}(h:l[i]?=some d):l.take (i+1)=l.take i++[d]:=by rw[List.take_add_one,h];rfl
theorem jT{I:rm}{S1:aq}{g:A6}{te:TD}{σ:SD}{src:List<|Option Nat}{R:KD}(rel:D->D->Prop)(aN:I.ok S1)(hz:I.xs.length<=1000)(step:∀d,d∈I.xs->∀Q:KD,(∀v,rel d v->Q v S1)->g d (mO σ src) S1 λf_ S3=>te f_ S3 Q Zf)(fin:∀out,Paired rel I.xs out->∀p,S1 p=none->R (.ref p) (S1.set p<|.lst out)): A8 σ src g mP te R I S1:=by
 refine{λi out S=>S=S1/\Paired rel (I.xs.take i) out,{rfl,.nil},λi out S h=>by rw[h.1];exact aN,?_,?_};rintro i d out S hd ⟨rfl,hp⟩;have hlen:=yS hp;rw[ym]at hlen;refine{j_<|by lia,?_};have e:(λ(f_:SD)(S3:aq)=>mP f_ S3 (λb S4=>if b=true then te f_ S4 (λv S5=>S5=S/\Paired rel (I.xs.take<|i+1) (out++[v])) Zf else S4=S/\Paired rel (I.xs.take<|i+1) out) Zf)=λf_ S3=>te f_ S3 (λv S5=>S5=S/\Paired rel (I.xs.take<|i+1) (out++[v])) Zf:=by funext f_ S3;simp[mP]
 rw[e];exact step d (zp hd) _ λv hv=>{rfl,by rw[take_snoc hd];exact p8 hp hv};rintro out S2 ⟨rfl,hp⟩;rw[yG]at hp;exact fin out hp
theorem tD:∀{xs out:v0},Paired (λd v=>v=f d) xs out->out=xs.map f|_,_,.nil=>rfl|_,_,.cons r t=>by rw[r,tD t];rfl
theorem comp_map(f:D->D)(aN:I.ok S1)(hz:I.xs.length<=1000)(step:∀d,d∈I.xs->∀Q:KD,Q (f d) S1->g d (mO σ src) S1 λf_ S3=>te f_ S3 Q Zf)(fin:∀p,S1 p=none->R (.ref p) (S1.set p<|.lst<|I.xs.map f)): A8 σ src g mP te R I S1:=jT (λd v=>v=f d) aN hz (λd hd Q h=>step d hd Q<|h _ rfl) λout hp p xV=>by rw[tD hp];exact fin p xV
theorem ku{I:rm}{S1:aq}{g:A6}{tc:mw}{te:TD}{σ:SD}{src:List<|Option Nat}{R:KD}(keep:D->Bool)(f:D->D)(aN:I.ok S1)(hz:I.xs.length<=1000)(step:∀d,d∈I.xs->∀(Q:KD)(Q':aq->Prop),(keep d=true->Q (f d) S1)->(keep d=false->Q' S1)->g d (mO σ src) S1 λf_ S3=>tc f_ S3 (λb S4=>if b=true then te f_ S4 Q Zf else Q' S4) Zf)(fin:∀p,S1 p=none->R (.ref p) (S1.set p<|.lst<|(I.xs.filter keep).map f)): A8 σ src g tc te R I S1:=by refine{λi out S=>S=S1/\out=((I.xs.take i).filter keep).map f,⟨rfl,rfl⟩,λi out S h=>by rw[h.1];exact aN,?_,?_};rintro i d out S hd ⟨rfl,rfl⟩;have hlen:((I.xs.take i).filter keep).length<=(I.xs.take i).length:=List.length_filter_le _ _;rw[ym]at hlen;refine{by rw[zb];exact j_<|by lia,?_};refine step d (zp hd) _ (λS4=>S4=S/\_=_) (λhk=>{rfl,?_}) λhk=>{rfl,?_};rw[take_snoc hd,List.filter_append,zI,List.filter_cons,if_pos hk];rfl;rw[take_snoc hd,List.filter_append,List.filter_cons,if_neg<|by rw[hk];exact zd];simp;rintro out S2 ⟨rfl,rfl⟩;rw[yG];exact fin
variable{P:Program}{w:World}{K:Frag}{mg:Str->Option Value}{base:Heap}{t:dY}(T:Txt w K mg t)
theorem jU:Ok P w base T.jI 1 (NY tw):=by
 obtain⟨d,e,⟨⟨k,hk⟩,hz⟩,q⟩:T.jI.F.bx By;refine{_,(s1<|sr<|uF (cb cZ T.aA au<|al 0<|ac (ui T.FE wU) an)<|L8<|RW<|cb cZ T.aA au<|al 0<|ac (ui T.SO MU) an),?_};refine !{_,_,_,_,rfl,MV,hk,_,rfl,?_};have:(C5 k=true/\((tw d=true/\wV k=false)\/(tw d=false/\wV k=true)))\/(C5 k=false/\tw d=false):=by cases d with|av=>(cases hk;exact .inr ⟨rfl,rfl⟩)|bl b=>(cases hk;exact .inl {rfl,.inr ⟨rfl,rfl⟩})|int b=>(cases hk;exact .inl {rfl,.inl ⟨rfl,rfl⟩})|str b=>(cases hk;exact .inr ⟨rfl,rfl⟩)|tup b=>(cases hk;exact .inr ⟨rfl,rfl⟩)|ref a=>(rcases hk with⟨rfl,_⟩|⟨rfl,_⟩<;>exact .inr ⟨rfl,rfl⟩)|_=>exact hk.elim
 rcases this with⟨h1,h2⟩|⟨h1,h2⟩;rw[h1];refine ee !{_,_,_,_,rfl,Jy,hk,_,rfl,?_};rcases h2 with⟨h2,h3⟩|⟨h2,h3⟩<;>(rw[h3];rw[h2]at q;exact fo q);rw[h1];rw[h2]at q;exact aY<|fo q
theorem iP:Ok P w base T.hU 1 (KC isLet):=by obtain⟨c,e,q⟩:T.hU.F.bx xH;refine{_,(s1<|sr<|cc jx jx hr.u ds (dv 0) ds),?_};refine !!⟨?_⟩;have e1:Iv "a" ⟨#[c]⟩=decide (97<=c):=kf 97 c;have e2:Iv ⟨#[c]⟩ "z"= decide (c<=122):=kf c 122;unfold isLet at q;refine ck (λh=>?_) λh=>?_;rw[e1.symm.trans h,ye,<-e2]at q;exact fo q;rw[e1.symm.trans h,zY]at q;exact fo q
theorem xW:Ok P w base T.oQ 1 (KC FH):=by obtain⟨c,e,q⟩:T.oQ.F.bx xI;refine{_,(s1<|sr<|cc jx jx hr.u ds (dv 0) ds),?_};refine !!⟨?_⟩;have e1:Iv "0" ⟨#[c]⟩=decide (48<=c):=kf 48 c;have e2:Iv ⟨#[c]⟩ "9"= decide (c<=57):=kf c 57;unfold FH at q;refine ck (λh=>?_) λh=>?_;rw[e1.symm.trans h,ye,<-e2]at q;exact fo q;rw[e1.symm.trans h,zY]at q;exact fo q
theorem HN(h:d∈fH z):∃c,c∈z.cps.toList/\d=.str ⟨#[c]⟩:=by unfold fH at h;obtain⟨c,hc,e⟩:=zi.mp h;exact⟨c,hc,e.symm⟩
noncomputable def FJ(f:Nat->Bool):D->D|.str z=>.bl (z.cps.toList.head?.any f)|_=>.av
theorem HP:(fH z).map (FJ f)=(z.cps.toList.map f).map D.bl:=by unfold fH;rw[zx,zx];rfl
theorem all_map{α:Type}{l:List α}{f:α->Bool} : (l.map f).all id=l.all f:=by rw[List.all_map];rfl
theorem pf{z:Str}{f:Nat->Bool}{g:A6}{te:TD}{σ:SD}{src:List<|Option Nat}{S:aq}{R:KD}{Z:KX}{i:Nat}(hv:σ[i]?=some (some<|.str z))(hz:z.cps.size<=1000)(step:∀c,c∈z.cps.toList->∀Q:KD,Q (.bl<|f c) S->g (.str ⟨#[c]⟩) (mO σ src) S λf_ S3=>te f_ S3 Q Zf)(q:R (.bl<|z.cps.toList.all f) S): YU WD (Ph (vK (Pw<|Wj i) src g mP te) Nn) σ S (λd S'=>Fo S'<|R d) Z:=by refine{_,hv,z,rfl,?_};refine My.comp_map (I:={fH z,λ_=>True}) (FJ f) trivial (by show(fH z).length<=1000;unfold fH;rw[zb,yu];exact hz) (λd hd Q hQ=>?_) λp hp=>?_;obtain⟨c,hc,rfl⟩:=HN hd;exact step c hc Q (by simpa [FJ]using hQ);refine{.ref p,z.cps.toList.map f,rfl,?_,S,.new hp,?_};show(S.set p<|.lst<|(fH z).map<|FJ f) p=_;rw[aa,HP];rw[all_map];exact q
theorem Ee{S:aq}{d:D}{k:Kd}(hk:RZ S d k):(∃z,d=.str z/\C6 k=true)\/(C6 k=false/\∀f,ofStr f d=false):=by cases d with|str b=>(cases hk;exact .inl ⟨b,rfl,rfl⟩)|av=>(cases hk;exact .inr {rfl,λ_=>rfl})|bl b=>(cases hk;exact .inr {rfl,λ_=>rfl})|int b=>(cases hk;exact .inr {rfl,λ_=>rfl})|tup b=>(cases hk;exact .inr {rfl,λ_=>rfl})|ref a=>(rcases hk with⟨rfl,_⟩|⟨rfl,_⟩<;>exact .inr {rfl,λ_=>rfl})|_=>exact hk.elim
theorem SQ{S:aq}{d:D}{k:Kd}(hk:RZ S d k):(∃ds,d=.tup ds/\su k=true)\/(su k=false/\∀ds,d≠.tup ds):=by cases d with|tup b=>(cases hk;exact .inl ⟨b,rfl,rfl⟩)|av=>(cases hk;exact .inr {rfl,λ_=>nofun})|bl b=>(cases hk;exact .inr {rfl,λ_=>nofun})|int b=>(cases hk;exact .inr {rfl,λ_=>nofun})|str b=>(cases hk;exact .inr {rfl,λ_=>nofun})|ref a=>(rcases hk with⟨rfl,_⟩|⟨rfl,_⟩<;>exact .inr {rfl,λ_=>nofun})|_=>exact hk.elim
theorem tH:Ok P w base T.rD 2 (NY<|ofStr lg):=by
 obtain⟨d,e,⟨⟨k,hk⟩,hz⟩,q⟩:T.rD.F.bx D4;refine{_,(sc (si (twd<|twor (cB<|tv<|cb cZ T.aA au<|al 0<|ac (ui T.pX jv) an)<|tw1<|cB<|YT jx jx hr.u di (cb a_ T.aW aI<|al 0 an)<|dg (v:=.int 8) T.lX {_,rfl} λ_=>aP _) (s1<|sr db) s0)<|s1<|sr<|cb kX T.k7 gG<|ac (xk (N:=["sign"]) (src:=[none]) (oj Hx) (Sb<|dv 0) rn<|aM T.hU (iP T) hr<|al 0 an) an),?_};refine !{_,_,_,_,rfl,cS,hk,_,rfl,?_};rcases Ee hk with⟨z,rfl,h0⟩|⟨h0,h1⟩;have hz:=hz z rfl;rw[h0];refine aY ?_;refine !!⟨{sm hz,?_}⟩;refine{_,rfl,?_};have e1:decide ((1:Int)<=(z.length:Nat))=decide (1<=z.cps.size):=by rw[yO];show(1:Int)<=((z.cps.size:Nat):Int)↔_;omega
 have e2:decide (((z.length:Nat):Int)<=8)=decide (z.cps.size<=8):=by rw[yO];show((z.cps.size:Nat):Int)<=8↔_;omega
 unfold ofStr lg at q;dsimp only at q;refine ck (λh2=>?_) λh2=>?_;rw[e1.symm.trans h2,ye]at q;refine{_,rfl,?_};refine ck (λh3=>?_) λh3=>?_;rw[e2.symm.trans<|nt h3,zY]at q;exact fo q;rw[e2.symm.trans<|nf h3,ye]at q;exact pf rfl hz (λc hc Q hQ=>!⟨c,rfl,hQ⟩) q;rw[e1.symm.trans h2,zY,zY]at q;refine{_,rfl,?_};exact ee<|fo q;rw[h0];rw[h1]at q;exact ee<|ee<|fo q
def aD(c:Str×Str):D:=.tup [.str c.1,.str c.2]
def Gd(cs:ww):Prop:=cs.length<=8/\(cs.map Prod.fst).Nodup/\∀c∈cs,lg c.1=true/\(c.2 ="number"\/c.2 ="word")
noncomputable def nA(cs:ww):D->Bool|.tup ws=>decide (ws.length=cs.length)&&(List.zipWith (λc v=>iO c.2 v) cs ws).all id|_=>false
noncomputable def ph(cs:ww)(k v:D):Bool:=ofStr kM k&&nA cs v
def UR(S:aq)(d:D):Prop:=Gt S d/\∀ws,d=.tup ws->ws.length<=1000/\∀v∈ws,Gt S v
theorem ia:Ok P w base T.l5 2 (NY<|ofStr kM):=by
 obtain⟨d,e,⟨⟨k,hk⟩,hz⟩,q⟩:T.l5.F.bx HE;refine{_,(sc (si (twd<|twor (cB<|tv<|cb cZ T.aA au<|al 0<|ac (ui T.pX jv) an)<|tw1<|cB<|YT jx jx hr.u di (cb a_ T.aW aI<|al 0 an)<|dg (v:=.int 12) T.mY {_,rfl} λ_=>aP _) (s1<|sr db) s0)<|sc (si (cB<|tv<|aM T.hU (iP T) hr<|ac (bn (dv 0) di) an) (s1<|sr db) s0)<|s1<|sr<|cb kX T.k7 gG<|ac (xk (N:=["sign"]) (src:=[none]) (oj Kl) (Sb<|dv 0) rn<|eor (aM T.hU (iP T) hr<|al 0 an)<|L8<|aM T.oQ (xW T) hr<|al 0 an) an),?_};refine !{_,_,_,_,rfl,cS,hk,_,rfl,?_};rcases Ee hk with⟨z,rfl,h0⟩|⟨h0,h1⟩;have hz:=hz z rfl;rw[h0];refine aY ?_;refine !!⟨{sm hz,?_}⟩;refine{_,rfl,?_};have e1:decide ((1:Int)<=(z.length:Nat))=decide (1<=z.cps.size):=by rw[yO];show(1:Int)<=((z.cps.size:Nat):Int)↔_;omega
 have e2:decide (((z.length:Nat):Int)<=12)=decide (z.cps.size<=12):=by rw[yO];show((z.cps.size:Nat):Int)<=12↔_;omega
 unfold ofStr kM at q;dsimp only at q;refine ck (λh2=>?_) λh2=>?_;have h2':=e1.symm.trans h2;rw[h2',ye]at q;refine{_,rfl,?_};refine ck (λh3=>?_) λh3=>?_;rw[e2.symm.trans<|nt h3,zY,zY]at q;exact fo q;rw[e2.symm.trans<|nf h3,ye]at q;obtain⟨c,r,ec⟩:=len_pos (z:=z)<|zy h2';have eh:z.cps.toList.head?.any isLet=isLet c:=by rw[ec];rfl
 rw[eh]at q;refine !{c,sm hz,at0 ec,c,rfl,_,rfl,?_};refine ck (λh4=>?_) λh4=>?_;rw[nt h4,zY]at q;exact fo q;rw[nf h4,ye]at q;refine pf (f:=λc=>isLet c||FH c) rfl hz (λc hc Q hQ=>?_) q;refine !{c,rfl,_,rfl,?_};refine ck (λh5=>?_) λh5=>?_;rw[h5,Bool.true_or]at hQ;exact hQ;rw[h5,Bool.false_or]at hQ;exact{_,rfl,c,rfl,hQ};rw[e1.symm.trans h2,zY,zY,zY]at q;refine{_,rfl,?_};exact ee<|fo q;rw[h0];rw[h1]at q;exact ee<|ee<|fo q
theorem Ef:Ok P w base T.xt 2 (NY<|ofStr p7):=by
 obtain⟨d,e,⟨⟨k,hk⟩,hz⟩,q⟩:T.xt.F.bx D5;refine{_,(sc (si (twd<|twor (cB<|tv<|cb cZ T.aA au<|al 0<|ac (ui T.pX jv) an)<|tw1<|bi qG (cb a_ T.aW aI<|al 0 an)<|dg (v:=.int 40) T.lY {_,rfl} λ_=>aP _) (s1<|sr db) s0)<|s1<|sr<|cb kX T.k7 gG<|ac (xk (N:=["sign"]) (src:=[none]) (oj Hy) (Sb<|dv 0) rn<|cc jx jx hr.u ds (dv 0) ds) an),?_};refine !{_,_,_,_,rfl,cS,hk,_,rfl,?_};rcases Ee hk with⟨z,rfl,h0⟩|⟨h0,h1⟩;have hz:=hz z rfl;rw[h0];refine aY ?_;refine !!⟨{sm hz,?_}⟩;refine{_,rfl,?_};have e2:decide ((40:Int)<((z.length:Nat):Int))=!decide (z.cps.size<=40):=by rw[yE];simp only[decide_eq_true_iff,Bool.not_eq_true',yj];show(40:Int)<((z.cps.size:Nat):Int)↔_;omega
 unfold ofStr p7 at q;dsimp only at q;refine ck (λh3=>?_) λh3=>?_;rw[nt<|e2.symm.trans h3,zY]at q;exact fo q;rw[nf<|e2.symm.trans h3,ye]at q;refine pf (f:=FI) rfl hz (λc hc Q hQ=>?_) q;refine !!⟨?_⟩;have e3:Iv " " ⟨#[c]⟩=decide (32<=c):=kf 32 c;have e4:Iv ⟨#[c]⟩ "~"= decide (c<=126):=kf c 126;unfold FI at hQ;refine ck (λh=>?_) λh=>?_;rw[e3.symm.trans h,ye,<-e4]at hQ;exact hQ;rw[e3.symm.trans h,zY]at hQ;exact hQ;rw[h0];rw[h1]at q;exact ee<|ee<|fo q
inductive tI(ds:v0)(S:aq)(R:KD)(Z:KX):Prop where
 |mk (kind d)(h0:ds=[.str kind,d])(h1:Gt S d)(h2:R (.bl<|iO kind d) S)
theorem jV:Ok P w base T.jJ 3 tI:=by obtain⟨kind,d,e,hd,q⟩:T.jJ.F.bx Bz;refine{_,(sc (si (bi kF (dv 1) dn) (s1<|sr db) s0)<|sc (si (bi bf (dv 0) ds) (s1<|sr<|aM T.jI (jU T) hr<|al 1 an) s0)<|s1<|sr<|aM T.xt (Ef T) hr<|al 1 an),?_};refine !!⟨?_⟩;unfold iO at q;refine ck (λh=>?_) λh=>?_;rw[h,Bool.true_or]at q;exact fo q;rw[h,Bool.false_or]at q;refine !!⟨?_⟩;refine ck (λh=>?_) λh=>?_;rw[if_pos<|zy h]at q;exact !{d,rfl,hd,fo q};rw[if_neg<|z0 h]at q;exact !{d,rfl,hd,fo q}
theorem gt_str(h:z.cps.size<=1000):Gt S (.str z):={{.str,rfl},λy e=>by cases e;exact h}
theorem pj(h:lg z=true):z.cps.size<=1000:=by unfold lg at h;simp only[zH,zZ]at h;lia
theorem HQ(h:∀c v,f (.tup [aD c,v])=.bl (iO c.2 v)):(cC (cs.map aD) ws).map f=(List.zipWith (λc v=>iO c.2 v) cs ws).map D.bl:=by unfold cC;induction cs generalizing ws with|nil=>(cases ws<;>rfl)|cons c cs ih=>cases ws with|nil=>rfl|cons v ws=>show f (.tup [aD c,v])::(List.zipWith _ (cs.map aD) ws).map f=.bl (iO c.2 v)::_;rw[h,ih]
noncomputable def pairF:D->D|.tup [.tup [_,.str k],v]=>.bl (iO k v)|_=>.av
inductive vZ(ds:v0)(S:aq)(R:KD)(Z:KX):Prop where
 |mk (z)(h0:ds=[.str z])(h1:(z ="number"\/z ="word"))(h2:R (.bl true) S)
theorem Eg:Ok P w base T.xu 1 vZ:=by
 obtain⟨z,e,hz,q⟩:T.xu.F.bx D8;refine{_,(s1<|sr<|uF (cb cZ T.aA au<|al 0<|ac (ui T.pX jv) an)<|L8<|be Dz (dv 0)<|dg (v:=.ref t.xn) T.Ks rfl T.Kt),?_};refine !{_,_,_,_,rfl,cS,rfl,_,rfl,ee !{rfl,rfl,?_}};have e:GZ (kG<|.str z) ([D.str "number",D.str "word"].map kG)=true:=by rcases hz with rfl|rfl<;>decide +kernel
 show Fo S (R<|.bl<|if false=true then _ else GZ (kG<|.str z) ([D.str "number",D.str "word"].map kG));rw[if_neg zd,e];exact fo q
inductive p9(ds:v0)(S:aq)(R:KD)(Z:KX):Prop where
 |mk (c)(h0:ds=[aD c])(h1:lg c.1=true)(h2:(c.2 ="number"\/c.2 ="word"))(h3:R (.bl true) S)
theorem xX:Ok P w base T.oR 3 p9:=by obtain⟨c,e,h1,h2,q⟩:T.oR.F.bx xJ;refine{_,(sc (si (twd<|twor (cB<|tv<|cb cZ T.aA au<|al 0<|ac (ui T.bh aS) an)<|tw1<|bi lR (cb a_ T.aW aI<|al 0 an) di) (s1<|sr db) s0)<|s1<|sr<|uF (aM T.rD (tH T) hr<|ac (bn (dv 0) di) an)<|L8<|aM T.xu (Eg T) hr<|ac (bn (dv 0) di) an),?_};refine !{_,_,_,_,rfl,aV,rfl,_,rfl,?_};refine aY !!!⟨aY ?_⟩;refine !!!{gt_str<|pj h1,_,rfl,?_};show if lg c.1=true then _ else _;rw[h1];exact ee !!!{h2,fo q}
inductive tJ(ds:v0)(S:aq)(R:KD)(Z:KX):Prop where
 |mk (cs:ww)(h0:ds=[.tup<|cs.map aD])(h1:cs.length<=8)(h2:∀p,S p=none->R (.ref p) (S.set p<|.lst<|(cs.map Prod.fst).map D.str))
theorem p_:Ok P w base T.m8 1 tJ:=by
 obtain⟨cs,e,hl,q⟩:T.m8.F.bx BA;refine{_,(s1<|sr<|WV (N:=["name","kind"]) (src:=[none,none]) (oj DR) (JR<|dv 0) (Y2<|show(["name","kind"]:j4).Nodup by trivial) (rh rfl rfl) rA (λ_ _ _ _ _=>rn) λ_ _ _ _ _=>(dv 0)),?_};refine !{_,.inl rfl,?_};refine comp_map (λd=>match d with|.tup (x::_)=>x|_=>.av) trivial (by show(cs.map aD).length<=1000;rw[zb];lia) (λd hd Q hQ=>?_) λp hp=>?_;obtain⟨c,hc,rfl⟩:=zi.mp hd;exact !{rfl,_,_,rfl,_,_,rfl,rfl,_,rfl,hQ};have e:(cs.map aD).map (λd=>match d with|.tup (x::_)=>x|_=>.av)=(cs.map Prod.fst).map D.str:=by rw[zx,zx];rfl
 show Fo (S.set p<|.lst<|(cs.map aD).map _) (R<|.ref p);rw[e];exact fo<|q p hp
inductive i7(ds:v0)(S:aq)(R:KD)(Z:KX):Prop where
 |mk (cs)(h0:ds=[.tup<|cs.map aD])(h1:Gd cs)(h2:R .av S)
theorem pq:Ok P w base T.gL 4 i7:=by
 obtain⟨cs,e,⟨hl,hn,hg⟩,q⟩:T.gL.F.bx pb;refine{_,(sc (si (twd<|twor (cB<|tv<|cb cZ T.aA au<|al 0<|ac (ui T.bh aS) an)<|tw1<|bi qG (cb a_ T.aW aI<|al 0 an)<|dg (v:=.int 8) T.qI {_,rfl} λ_=>aP _) (s1<|sF ⟨T.dP⟩ T.gJ<|ac ds an) s0)<|sc (si (cB<|tv<|cb kX T.k7 gG<|ac (xk (N:=["column"]) (src:=[none]) (oj qH) (JR<|dv 0) rn<|aM T.oR (xX T) hr<|al 0 an) an) (s1<|sF ⟨T.dP⟩ T.gJ<|ac ds an) s0)<|s1<|si (bi lR (lse (aM T.m8 (p_ T) hr<|al 0 an) T.aW T.PR)<|cb a_ T.aW aI<|al 0 an) (s1<|sF ⟨T.dP⟩ T.gJ<|ac ds an) s0),?_};refine !{_,_,_,_,rfl,aV,rfl,_,rfl,?_};have e1:decide ((8:Int)<((cs.map aD).length:Nat))=false:=zo (by rw[zb];lia);refine aY !!!⟨?_⟩;show if decide ((8:Int)<((cs.map aD).length:Nat))=true then _ else _;rw[e1];refine aY ?_;refine !{_,.inl rfl,?_};refine comp_map (λ_=>.bl true) trivial (by show(cs.map aD).length<=1000;rw[zb];lia) (λd hd Q hQ=>?_) λp hp=>?_;obtain⟨c,hc,rfl⟩:=zi.mp hd;exact !{c,rfl,(hg c hc).1,(hg c hc).2,hQ};have e2:(cs.map aD).map (λ_=>D.bl true)=(cs.map λ_=>true).map D.bl:=by rw[zx,zx];rfl
 have e3:(cs.map λ_=>true).all id=true:=by rw[all_map];exact zX.mpr λ_ _=>rfl
 refine{.ref p,cs.map λ_=>true,rfl,?_,_,rfl,?_};show(S.set p<|.lst<|(cs.map aD).map _) p=_;rw[aa,e2];rw[e3];refine aY ?_;refine !{cs,rfl,hl,λp2 gD=>?_};refine{cs.map Prod.fst,aa,by rw[zb];lia,_,rfl,_,rfl,_,rfl,?_};have e4:decide ((((iX<|cs.map Prod.fst).length:Nat):Int)=(((cs.map aD).length:Nat):Int))=true:=zr (by rw[(vH _).mpr hn,zb,zb]);show if (if true=true then !decide ((((iX<|cs.map Prod.fst).length:Nat):Int)=(((cs.map aD).length:Nat):Int)) else _)=true then _ else _;rw[if_pos rfl,e4];exact aY {S,(Sub.new hp).trans<|.new gD,q}
inductive nB(ds:v0)(S:aq)(R:KD)(Z:KX):Prop where
 |mk (cs d)(h0:ds=[.tup<|cs.map aD,d])(h1:cs.length<=8)(h2:UR S d)(h3:R (.bl<|nA cs d) S)
theorem uV:Ok P w base T.l6 4 nB:=by
 obtain⟨cs,d,e,hl,⟨⟨⟨k,hk⟩,hz⟩,hw⟩,q⟩:T.l6.F.bx uL;refine{_,(sc (si (twd<|twor (cB<|tv<|cb cZ T.aA au<|al 1<|ac (ui T.bh aS) an)<|tw1<|bi lR (cb a_ T.aW aI<|al 1 an)<|cb a_ T.aW aI<|al 0 an) (s1<|sr db) s0)<|s1<|sr<|cb kX T.k7 gG<|ac (WV (N:=["column","value"]) (src:=[none,none]) (oj xm) (izn T.Kv<|al 0<|al 1 an) (Y2<|show(["column","value"]:j4).Nodup by trivial) (rh rfl rfl) rA (λ_ _ _ _ _=>rn) λ_ _ _ _ _=>(aM T.jJ (jV T) hr<|ac (bn (dv 0) di)<|al 1 an)) an),?_};refine !{_,_,_,_,rfl,aV,hk,_,rfl,?_};rcases SQ hk with⟨ws,rfl,h0⟩|⟨h0,h1⟩;obtain⟨Zn,Nv⟩:=hw ws rfl;rw[h0];refine aY !!!!!⟨?_⟩;have e1:decide (((ws.length:Nat):Int)=(((cs.map aD).length:Nat):Int))=decide (ws.length=cs.length):=by rw[yO,zb];lia
 unfold nA at q;dsimp only at q;show if (if true=true then !decide (((ws.length:Nat):Int)=(((cs.map aD).length:Nat):Int)) else _)=true then _ else _;rw[if_pos rfl,e1];refine ck (λh=>?_) λh=>?_;rw[nt h,zY]at q;exact fo q;have h:=nf h;rw[h,ye]at q;have h:=zy h;refine !!{cs.map aD,ws,rfl,by rw[zb];exact h.symm,?_};refine comp_map pairF trivial (by show(cC (cs.map aD) ws).length<=1000;unfold cC;rw[List.length_zipWith,zb];lia) (λd hd Q hQ=>?_) λp hp=>?_;unfold cC at hd;obtain⟨i,ei⟩:=yg hd;obtain⟨x,y,e2,e3,e4⟩:=List.getElem?_zipWith_eq_some.mp ei;subst e4;rw[zh]at e2;cases e5:cs[i]? with|none=>(rw[e5]at e2;cases e2)|some c=>rw[e5]at e2;cases e2;exact !{rfl,_,_,rfl,_,_,rfl,rfl,_,rfl,_,rfl,_,rfl,c.2,y,rfl,Nv y<|zp e3,hQ}
 refine{.ref p,List.zipWith (λc v=>iO c.2 v) cs ws,rfl,?_,S,.new hp,q};show(S.set p<|.lst<|(cC (cs.map aD) ws).map pairF) p=_;rw[aa,HQ λ_ _=>rfl];rw[h0];have e:nA cs d=false:=by cases d with|tup ws=>exact absurd rfl (h1 ws)|_=>rfl
 rw[e]at q;exact ee<|ee<|fo q
inductive qd(t:dY)(ds:v0)(S:aq)(R:KD)(Z:KX):Prop where
 |mk (cs k v)(h0:ds=[.tup<|cs.map aD,.tup [k,v]])(h1:cs.length<=8)(h2:Gt S k)(h3:UR S v)(h4:(ph cs k v=true->R .av S))(h5:(ph cs k v=false->Z t.gZ S))
theorem nC:Ok P w base T.ko 5 (qd t):=by obtain⟨cs,k,v,e,hl,hk,hv,q1,q2⟩:T.ko.F.bx xK;refine{_,(sc (si (twd<|twor (cB<|tv<|cb cZ T.aA au<|al 1<|ac (ui T.bh aS) an)<|tw1<|bi lR (cb a_ T.aW aI<|al 1 an) di) (s1<|sF ⟨T.hG⟩ T.km<|ac ds an) s0)<|sc (si (cB<|tv<|aM T.l5 (ia T) hr<|ac (bn (dv 1) di) an) (s1<|sF ⟨T.hG⟩ T.km<|ac ds an) s0)<|s1<|si (cB<|tv<|aM T.l6 (uV T) hr<|al 0<|ac (bn (dv 1) di) an) (s1<|sF ⟨T.hG⟩ T.km<|ac ds an) s0),?_};refine !{_,_,_,_,rfl,aV,rfl,_,rfl,?_};refine aY !!!⟨aY ?_⟩;refine !!{k,rfl,hk,_,rfl,?_};unfold ph at q1 q2;refine ck (λh=>?_) λh=>?_;rw[nt h,zY]at q2;exact{sm<|by decide,fo<|q2 rfl};rw[nf h,ye]at q1 q2;refine !!!{cs,v,rfl,hl,hv,_,rfl,?_};refine ck (λh=>?_) λh=>?_;exact{sm<|by decide,fo<|q2<|nt h};exact fo<|q1<|nf h
theorem bg(h:n<=100000):n<sizeLine:=by rw[yf];lia
structure Std where
 b:Nat
 e:Option Nat
 ws:List D
abbrev wE:=List Std
def eD:Option Nat->D|none=>.av|some n=>.int (n:Nat)
def jW(s:Std):D:=.tup [.int (s.b:Nat),eD s.e,.tup s.ws]
noncomputable def KG:List Std->Int->D|[],_=>.av|s::r,m=>if (s.b:Int)<=m then (match s.e with|none=>.tup s.ws|some n=>if m<=(n:Int) then .tup s.ws else .av) else KG r m
noncomputable def wt(l:wE)(m:Int):D:=KG l.reverse m
abbrev Ra:=List<|Str×Addr×List Std
abbrev lh:=List<|Str×List Std
def ib(ra:Ra):lh:=ra.map λr=>(r.1,r.2.2)
def dW(ra:Ra):wf:=ra.map λr=>(Sum.inr r.1,D.ref r.2.1)
noncomputable def lu(rs:lh)(k:Str):Option (List Std):=(rs.find? λr=>decide<|r.1=k).map (·.2)
noncomputable def um(ra:Ra)(k:Str):Option (Addr×List Std):=(ra.find? λr=>decide<|r.1=k).map (·.2)
noncomputable def uo(ra:Ra)(k:Str)(s:wE):Ra:=ra.map λr=>if r.1=k then (r.1,r.2.1,s) else r
noncomputable def Eh(rs:lh)(k:Str)(s:wE):lh:=if (lu rs k).isSome then rs.map λr=>if r.1=k then (r.1,s) else r else rs++[(k,s)]
theorem gN(ra:Ra)(k:Str):lu (ib ra) k=(um ra k).map (·.2):=by unfold lu um ib;induction ra with|nil=>rfl|cons r ra ih=>rw[zC,yc,yc];by_cases h:r.1=k;rw[zr h];rfl;rw[zo h];exact ih
theorem ic(ra:Ra)(k:Str):bP (dW ra) (.inr k)=(um ra k).map λp=>D.ref p.1:=by unfold bP um dW;induction ra with|nil=>rfl|cons r ra ih=>rw[zC,yc,yc];by_cases h:r.1=k;rw[zr h];have:decide ((Sum.inr r.1:Key)=.inr k)=true:=zr (by rw[h]);dsimp only;rw[this];rfl;rw[zo h];have:decide ((Sum.inr r.1:Key)=.inr k)=false:=zo λe=>h<|yL e;dsimp only;rw[this];exact ih
theorem dr(h:um ra k=some (l,s)):(k,l,s)∈ra:=by unfold um at h;cases q:ra.find? λr=>decide (r.1=k) with|none=>(rw[q]at h;cases h)|some r=>rw[q]at h;have h1:=List.find?_some q;have h2:=List.mem_of_find?_eq_some q;obtain⟨k',l',s'⟩:=r;have e:k'=k:=zy h1;cases h;rw[<-e];exact h2
theorem nD(h:um ra k=none):∀r∈ra,r.1≠k:=by unfold um at h;intro r hr e;have:=List.find?_eq_none.mp (Option.map_eq_none_iff.mp h) r hr;simp[e]at this
theorem gz:∀{l:List α}{x y:α},(l.map f).Nodup->x∈l->y∈l->f x=f y->x=y|z::l,x,y,nd,hx,hy,e=>by rw[zC]at nd;obtain⟨n1,n2⟩:=yq.mp nd;rcases zm.mp hx with ex|JB;rcases zm.mp hy with ey|VI;rw[ex,ey];exact absurd (zi.mpr {y,VI,by rw[<-e,ex]}) n1;rcases zm.mp hy with ey|VI;exact absurd (zi.mpr {x,JB,by rw[e,ey]}) n1;exact gz n2 JB VI e
structure Ei(C:Addr)(S:aq)(a ld lr:Addr)(cs:ww)(dl:v0)(ra:Ra):Prop where
 ins:S a=some (.ins C [("columns",.tup<|cs.map aD),("deeds",.ref ld),("runs",.ref lr)])
 Au:S ld=some (.lst dl)
 run:S lr=some (.bY<|dW ra)
 cell:∀r∈ra,S r.2.1=some (.lst<|r.2.2.map jW)
 kn:(ra.map (·.1)).Nodup
 an:(ld::ra.map (·.2.1)).Nodup
 sz:∀r∈ra,r.2.2.length<=dl.length
def fp(a ld lr:Addr)(ra:Ra):im:=a::ld::lr::ra.map (·.2.1)
def bE(C:Addr)(S:aq)(a:Addr)(F:im)(cs:ww)(dl:v0)(rs:lh):Prop:=∃ld lr ra,Ei C S a ld lr cs dl ra/\F=fp a ld lr ra/\rs=ib ra
def Cy(F F':im)(S S':aq):Prop:=∀b c,b∉F->S b=some c->b∉F'/\S' b=some c
theorem Cy.trans(a:Cy F F1 S S1)(b:Cy F1 F2 S1 S2):Cy F F2 S S2:=λp c h e=>by obtain⟨h1,e1⟩:=a p c h e;exact b p c h1 e1
section
variable{C a ld lr:Addr}{S:aq}{cs:ww}{dl:v0}{ra:Ra}
theorem Ei.Ej(h:Ei C S a ld lr cs dl ra){l:Addr}{ds:v0}(e:S l=some (.lst ds)):l≠a/\l≠lr:=by constructor;rintro rfl;rw[h.ins]at e;cases e;rintro rfl;rw[h.run]at e;cases e
theorem Ei.put(h:Ei C S a ld lr cs dl ra)(hk:um ra k=some (l,s))(hs:s'.length<=dl.length):Ei C (S.set l<|.lst<|s'.map jW) a ld lr cs dl (uo ra k s'):=by
 have hm:=dr hk;have hl:=h.cell _ hm;obtain⟨n1,n2⟩:=h.Ej hl;obtain⟨nd1,nd2⟩:=yq.mp h.an;have n3:l≠ld:=λe=>nd1 (by rw[<-e];exact zi.mpr {_,hm,rfl});have e1:(uo ra k s').map (·.1)=ra.map (·.1):=by unfold uo;rw[zx];exact zU λr _=>by dsimp only[Function.comp];split<;>rfl
 have e2:(uo ra k s').map (·.2.1)=ra.map (·.2.1):=by unfold uo;rw[zx];exact zU λr _=>by dsimp only[Function.comp];split<;>rfl
 have e3:dW (uo ra k s')=dW ra:=by unfold dW uo;rw[zx];exact zU λr _=>by dsimp only[Function.comp];split<;>rfl
 refine{by rw[ae n1.symm];exact h.ins,by rw[ae n3.symm];exact h.Au,by rw[ae n2.symm,e3];exact h.run,λr hr=>?_,by rw[e1];exact h.kn,by rw[e2];exact h.an,λr hr=>?_};unfold uo at hr;obtain⟨r0,Av,e⟩:=zi.mp hr;by_cases q:r0.1=k;rw[if_pos q]at e;have er:r0=(k,l,s):=gz h.kn Av hm q;subst er e;rw[aa];rw[if_neg q]at e;subst e;have:r0.2.1≠l:=λe=>q (by have:=gz nd2 Av hm e;rw[this]);rw[ae this];exact h.cell _ Av;unfold uo at hr;obtain⟨r0,Av,e⟩:=zi.mp hr;by_cases q:r0.1=k;rw[if_pos q]at e;subst e;exact hs;rw[if_neg q]at e;subst e;exact h.sz _ Av
theorem Ei.add(h:Ei C S a ld lr cs dl ra)(hk:um ra k=none)(hl:S l=none)(hs:s.length<=dl.length)(e1:S' l=some (.lst<|s.map jW))(e2:S' lr=some (.bY<|dW<|ra++[(k,l,s)]))(e3:∀b,b≠l->b≠lr->S' b=S b):Ei C S' a ld lr cs dl (ra++[(k,l,s)]):=by
 have n1:a≠l:=gU h.ins hl;have n2:ld≠l:=gU h.Au hl;have n3:a≠lr:=by rintro rfl;have:=h.run;rw[h.ins]at this;cases this
 have n4:ld≠lr:=by rintro rfl;have:=h.run;rw[h.Au]at this;cases this
 refine{by rw[e3 _ n1 n3];exact h.ins,by rw[e3 _ n2 n4];exact h.Au,e2,λr hr=>?_,?_,?_,λr hr=>?_};rcases zN.mp hr with hr|hr;have hc:=h.cell r hr;rw[e3 _ (gU hc hl) (h.Ej hc).2];exact hc;rw[zE.mp hr];exact e1;rw[zI];exact mG h.kn λm=>by obtain⟨r,hr,e⟩:=zi.mp m;exact nD hk r hr e
 rw[zI,<-List.cons_append];refine mG h.an λm=>?_;rcases zm.mp m with e|m;exact n2 e.symm;obtain⟨r,hr,e⟩:=zi.mp m;exact gU (h.cell r hr) hl e;rcases zN.mp hr with hr|hr;exact h.sz r hr;rw[zE.mp hr];exact hs
theorem Ei.NZ(h:Ei C S a ld lr cs dl ra)(d:D):Ei C (S.set ld<|.lst<|dl++[d]) a ld lr cs (dl++[d]) ra:=by obtain⟨n1,n2⟩:=h.Ej h.Au;obtain⟨nd1,nd2⟩:=yq.mp h.an;refine{by rw[ae n1.symm];exact h.ins,aa,by rw[ae n2.symm];exact h.run,λr hr=>?_,h.kn,h.an,λr hr=>by rw[zD];exact zO (h.sz r hr)<|Nat.le_add_right _ _};rw[ae λe=>nd1<|by rw[<-e];exact zi.mpr ⟨r,hr,rfl⟩];exact h.cell r hr
end
inductive PX(C:Addr)(ds:v0)(S:aq)(R:KD)(Z:KX):Prop where
 |mk (a F cs dl rs)(h0:ds=[.ref a])(h1:bE C S a F cs dl rs)(h2:R (.int (dl.length:Nat)) S)
theorem xY:oJ P w mg base T.fE 1 (PX t.ao):=by obtain⟨a,F,cs,dl,rs,e,⟨ld,lr,ra,h,_⟩,q⟩:T.fE.F.bx xS;refine{_,(s1<|sr<|cb a_ T.aW aI<|ac (fl T.aj T.cM<|dv 0) an),?_};exact !{a,_,_,rfl,h.ins,rfl,_,rfl,.inl {dl,h.Au,fo q}}
inductive fm(t:dY)(ds:v0)(S:aq)(R:KD)(Z:KX):Prop where
 |mk (a F cs dl rs)(h0:ds=[.ref a])(h1:bE t.ao S a F cs dl rs)(h2:R (.tup<|cs.map aD) S)
theorem aL:oJ P w mg base T.aB 1 (fm t):=by obtain⟨a,F,cs,dl,rs,e,⟨ld,lr,ra,h,_⟩,q⟩:T.aB.F.bx jS;refine{_,(s1<|sr<|fl T.aj T.cT<|dv 0),?_};exact !{a,_,_,rfl,h.ins,rfl,fo q}
noncomputable def uW(n:Nat):D->Option Int|.av=>some n|.int i=>(if 0<=i/\i<=(n:Int) then some i else none)|_=>none
inductive FK(C N:Addr)(ds:v0)(S:aq)(R:KD)(Z:KX):Prop where
 |mk (a F cs dl rs m)(h0:ds=[.ref a,m])(h1:bE C S a F cs dl rs)(h2:Gt S m)(h3:(∀i,uW dl.length m=some i->R (.int i) S))(h4:(uW dl.length m=none->Z N S))
theorem i8:oJ P w mg base T.cj 2 (FK t.ao t.fM):=by
 obtain⟨a,F,cs,dl,rs,m,e,hS,hm,q1,q2⟩:T.cj.F.bx jg;obtain⟨ld,lr,ra,h,hF,uk⟩:=id hS;refine{_,(sc (si (bi kF (dv 1) dn) (s1<|sr<|eR (dv 0) T.aj T.fE (xY T) hr) s0)<|sc (si (twd<|twor (cB<|tv<|aM T.jI (jU T) hr<|al 1 an)<|tw1<|cB<|YT jx jx hr.u di (dv 1)<|eR (dv 0) T.aj T.fE (xY T) hr) (s1<|sF ⟨T.l4⟩ T.Bu<|ac ds an) s0)<|s1<|sr<|dv 1),?_};refine !!⟨?_⟩;refine ck (λh1=>?_) λh1=>?_;have e:m=.av:=by cases m<;>first|rfl|cases h1
 subst e;exact !{a,_,rfl,h.ins,rfl,a,F,cs,dl,rs,rfl,hS,fo<|q1 _ rfl};refine !{m,rfl,hm,_,rfl,?_};refine ck (λh2=>?_) λh2=>?_;have h2:=nt h2;have e:uW dl.length m=none:=by cases m with|av=>(cases h1)|int i=>(cases h2)|_=>rfl
 exact ee {sm<|by decide,fo<|q2 e};have h2:=nf h2;obtain⟨i,rfl⟩:∃i,m=.int i:=by cases m<;>first|exact{_,rfl}|cases h2
 refine !!⟨?_⟩;refine ck (λh3=>?_) λh3=>?_;have h3:0<=i:=zy h3;refine !{a,_,rfl,h.ins,rfl,a,F,cs,dl,rs,rfl,hS,_,rfl,?_};refine ck (λh4=>?_) λh4=>?_;have h4:¬i<=((dl.length:Nat):Int):=z0<|nt h4;exact{sm<|by decide,fo<|q2<|if_neg λz=>h4 z.2};have h4:i<=((dl.length:Nat):Int):=zy<|nf h4;exact{_,rfl,fo<|q1 i<|if_pos ⟨h3,h4⟩};have h3:¬0<=i:=z0 h3;exact{_,rfl,ee {sm<|by decide,fo<|q2<|if_neg λz=>h3 z.1}}
inductive lj(ds:v0)(S:aq)(R:KD)(Z:KX):Prop where
 |mk (l v5 m)(h0:ds=[.ref l,.int m])(h1:S l=some (.lst<|v5.map jW))(h2:R (wt v5 m) S)
theorem jX:Ok P w base T.gw 1 lj:=by
 obtain⟨l,v5,m,e,hl,q⟩:T.gw.F.bx jR;refine{_,(sc (Ba<|JS (irv T.sT<|al 0 an) (gn (i:=2) jR.nd)<|s1<|si (bi jx (bn (dv 2) di)<|dv 1) (s1<|sr<|RX (twd<|twor (bi kF (bn (dv 2) di) dn)<|tw1<|bi jx (dv 1)<|bn (dv 2) di) (bn (dv 2) di) dn) s0)<|s1<|sr dn),?_};refine{λaG S'=>S'=S/\wt v5 m=.av,?_,?_};refine !{_,_,rfl,hl,?_};refine{λi aG S'=>(∃o,aG=[some<|.ref l,some<|.int m,o])/\S'=S/\wt v5 m=KG (v5.reverse.drop i) m,{⟨none,rfl⟩,rfl,by rw[List.drop_zero];rfl},λi aG S' h=>by rw[h.2.1];exact hl,?_,?_};rintro i d aG S' hd ⟨⟨o,rfl⟩,rfl,hw⟩;rw[<-List.map_reverse,zh]at hd;cases e1:v5.reverse[i]? with|none=>(rw[e1]at hd;cases hd)|some sd=>rw[e1]at hd;cases hd;have e2:v5.reverse.drop i=sd::v5.reverse.drop (i+1):=(by obtain⟨hi,e⟩:=zf.mp e1;rw[List.drop_eq_getElem_cons hi,e]);obtain⟨sb,se,sw⟩:=sd;rw[e2]at hw;refine !!!!⟨?_⟩;unfold KG at hw;refine ck (λh=>?_) λh=>?_;rw[if_pos<|zy h]at hw;refine !!!⟨?_⟩;(cases se with|none=>refine ee<|ee !!⟨?_⟩;rw[hw]at q;exact fo q|some n=>refine aY !!!!⟨?_⟩;dsimp only at hw;refine ck (λh=>?_) λh=>?_;rw[if_pos<|zy h]at hw;rw[hw]at q;exact !!⟨fo q⟩;rw[if_neg<|z0 h]at hw;rw[hw]at q;exact fo q);rw[if_neg<|z0 h]at hw;exact{{_,rfl},rfl,hw}
 rintro aG S' ⟨_,rfl,hw⟩;refine fo {rfl,?_};rw[hw,zP,zb,List.drop_eq_nil_of_le<|by rw[zP];exact zq _];rfl;rintro aG S' ⟨rfl,hw⟩;rw[hw]at q;exact fo q
noncomputable def Cz(rs:lh)(k:D)(i:Int):D:=match k with|.str z=>(if kM z=true then wt ((lu rs z).getD []) i else .av)|_=>.av
inductive PY(C N:Addr)(ds:v0)(S:aq)(R:KD)(Z:KX):Prop where
 |mk (a F cs dl rs k m)(h0:ds=[.ref a,k,m])(h1:bE C S a F cs dl rs)(h2:Gt S k)(h3:Gt S m)(h4:(∀i,uW dl.length m=some i->R (Cz rs k i) S))(h5:(uW dl.length m=none->Z N S))
theorem nE:oJ P w mg base T.dq 3 (PY t.ao t.fM):=by
 obtain⟨a,F,cs,dl,rs,k,m,e,hS,hk,hm,q1,q2⟩:T.dq.F.bx fS;obtain⟨ld,lr,ra,h,hF,uk⟩:=id hS;refine{_,(sc (bQ (i:=3) fS.nd<|oi (dv 0) T.aj T.cj (i8 T) hr<|al 2 an)<|sc (si (cB<|tv<|aM T.l5 (ia T) hr<|al 1 an) (s1<|sr dn) s0)<|s1<|sr<|aM T.gw (jX T) hr<|ac (ca (fl T.aj T.bN<|dv 0) (dv 1)<|cJ an)<|al 3 an),?_};refine !{a,_,rfl,h.ins,rfl,_,rfl,a,F,cs,dl,rs,m,rfl,hS,hm,λi hi=>?_,λhn=>fo<|q2 hn};have q:=q1 i hi;refine !{k,rfl,hk,_,rfl,?_};refine ck (λh1=>?_) λh1=>?_;have e:Cz rs k i=.av:=by cases k with|str z=>exact if_neg (by rw[show kM z=false from nt h1];exact zd)|_=>rfl
 rw[e]at q;exact fo q;have h1:=nf h1;obtain⟨z,rfl⟩:∃z,k=.str z:=by cases k with|str z=>exact⟨z,rfl⟩|_=>cases h1
 have e:Cz rs (.str z) i=wt ((lu rs z).getD []) i:=if_pos h1;rw[e]at q;refine !{a,_,_,rfl,h.ins,rfl,lr,_,rfl,h.run,_,rfl,sm<|by decide,λp hp=>{dW ra,.inr z,?_,rfl,?_}};rw[ae<|gU h.run hp];exact h.run;rw[ic];refine{_,rfl,?_};cases e1:um ra z with|none=>have e2:lu rs z=none:=(by rw[uk,gN,e1];rfl);rw[e2]at q;exact{p,[],i,rfl,aa,S,.new hp,q}|some ls=>obtain⟨l,v5⟩:=ls;have e2:lu rs z=some v5:=(by rw[uk,gN,e1];rfl);rw[e2]at q;have hc:=h.cell _<|dr e1;exact{l,v5,i,rfl,by rw[ae<|gU hc hp];exact hc,S,.new hp,q}
theorem PZ(h:um ra k=some (l,s)):Eh (ib ra) k s'=ib (uo ra k s'):=by unfold Eh;rw[gN,h,if_pos<|show(Option.map (λx:Addr×List Std=>x.2)<|some (l,s)).isSome=true from rfl];unfold ib uo;rw[zx,zx];exact zU λr _=>by dsimp only[Function.comp];split<;>rfl
theorem SR(h:um ra k=none):Eh (ib ra) k s=ib (ra++[(k,l,s)]):=by unfold Eh;rw[gN,h,if_neg<|show ¬(Option.map (λx:Addr×List Std=>x.2) none).isSome=true from zd];unfold ib;rw[zI];rfl
theorem SS(h:um ra k=none):dput (dW ra) (.inr k) (.ref l)=dW (ra++[(k,l,s)]):=by
 unfold dput;have e:((dW ra).any λkv=>decide<|kv.1=.inr k)=false:=by rw[List.any_eq_false];intro x hx;unfold dW at hx;obtain⟨r,hr,rfl⟩:=zi.mp hx;simp only[zZ];exact λe=>nD h r hr<|yL e
 rw[e,if_neg zd];unfold dW;rw[zI];rfl
theorem KH:fp a ld lr (uo ra k s)=fp a ld lr ra:=by unfold fp uo;rw[zx];congr 3;exact zU λr _=>by dsimp only[Function.comp];split<;>rfl
theorem tK(h:l∈F):Cy F F S (S.set l c):=λb x hb e=>{hb,by rw[ae<|show b≠l from λz=>hb<|by rw[z];exact h];exact e}
theorem KJ(h:r∈ra):r.2.1∈fp a ld lr ra:=zg _<|zg _<|zg _<|zi.mpr ⟨r,h,rfl⟩
inductive FN(C:Addr)(ds:v0)(S:aq)(R:KD)(Z:KX):Prop where
 |mk (a F cs dl rs z ws)(h0:ds=[.ref a,.str z,.tup ws])(h1:bE C S a F cs dl rs)(h2:((lu rs z).getD []).length<dl.length)(h3:dl.length<=9000)(h4:rs.length<=9000)(h5:∀S' F',bE C S' a F' cs dl (Eh rs z<|(lu rs z).getD []++[Std.mk dl.length none ws])->Cy F F' S S'->R .av S')
theorem BE:oJ P w mg base T.bJ 2 (FN t.ao):=by
 refine T.bJ.F.bx h_ ?_;rintro _ _ _ _ _ _ _ S R Z hr ⟨a,F,cs,dl,rs,z,ws,e,⟨ld,lr,ra,h,hF,uk⟩,hl,hd,hn,q⟩;subst e hF uk;have OU:(dW ra).length<=9000:=by unfold ib at hn;unfold dW;rw[zb]at hn⊢;exact hn
 refine{_,(s1<|se<|bm zR ya yb cK (ms2 (fl T.aj T.bN<|dv 0) (dv 1)<|cJ an)<|ac (bX<|ac (eR (dv 0) T.aj T.fE (xY T) hr)<|ac dn<|al 2 an) an),?_};refine !{a,_,_,rfl,h.ins,rfl,lr,dW ra,rfl,h.run,_,rfl,sm<|by decide,λp hp=>{dW ra,.inr z,?_,rfl,bg<|by lia,λd rN=>?_,λhn=>?_}};rw[ae<|gU h.run hp];exact h.run;rw[ic]at rN;cases e1:um ra z with|none=>(rw[e1]at rN;cases rN)|some ls=>obtain⟨l,v5⟩:=ls;rw[e1]at rN;cases rN;have e2:lu (ib ra) z=some v5:=(by rw[gN,e1];rfl);rw[e2]at q hl;have hc:=h.cell _<|dr e1;have II:(S.set p<|.lst []) l=some (.lst<|v5.map jW):=(by rw[ae<|gU hc hp];exact hc);have hi':(S.set p<|.lst []) a=some (.ins t.ao [("columns",.tup<|cs.map aD),("deeds",.ref ld),("runs",.ref lr)]):=(by rw[ae<|gU h.ins hp];exact h.ins);have rq:Ei t.ao (S.set p<|.lst []) a ld lr cs dl ra:={hi',by rw[ae<|gU h.Au hp];exact h.Au,by rw[ae<|gU h.run hp];exact h.run,λr hr=>by rw[ae<|gU (h.cell r hr) hp];exact h.cell r hr,h.kn,h.an,h.sz};refine{{rfl,_,II},_,rfl,a,_,rfl,hi',rfl,a,_,cs,dl,_,rfl,⟨ld,lr,ra,rq,rfl,rfl⟩,_,rfl,qO,?_};have hle:v5.length<dl.length:=hl;refine{l,v5.map jW,_,rfl,rfl,II,bg<|by rw[zb];lia,S.set l<|.lst<|(v5++[Std.mk dl.length none ws]).map jW,λb c hb=>?_,q _ _ {ld,lr,_,h.put e1<|by rw[zD];show v5.length+1<=_;lia,rfl,PZ e1} ?_};by_cases hbl:b=l;subst hbl;rw[aa]at hb⊢;rw[zI]at hb;exact hb;rw[ae hbl]at hb;rw[ae hbl,ae<|gU hb hp];exact hb;rw[KH];exact tK<|KJ<|dr e1
 rw[ic]at hn;cases e1:um ra z with|some ls=>(rw[e1]at hn;cases hn)|none=>have e2:lu (ib ra) z=none:=(by rw[gN,e1];rfl);rw[e2]at q hl;have npr:p≠lr:=(gU h.run hp).symm;generalize BF:(S.set p<|.lst []).set lr _=S1;have s1p:S1 p=some (.lst []):=(by rw[<-BF,ae npr,aa]);have s1r:S1 lr=some (.bY<|dW<|ra++[(z,p,[])]):=(by rw[<-BF,aa,SS e1]);have s1o:∀b,b≠p->b≠lr->S1 b=S b:=λb h1 h2=>(by rw[<-BF,ae h2,ae h1]);have rq:Ei t.ao S1 a ld lr cs dl (ra++[(z,p,[])]):=h.add e1 hp (zV _) s1p s1r s1o;refine{{rfl,_,s1p},_,rfl,a,_,rfl,rq.ins,rfl,a,_,cs,dl,_,rfl,{ld,lr,_,rq,rfl,rfl},_,rfl,qO,?_};refine{p,[],_,rfl,rfl,s1p,bg<|by show 0<=_;lia,S1.set p<|.lst<|[Std.mk dl.length none ws].map jW,.refl _,q _ _ {ld,lr,ra++[(z,p,[Std.mk dl.length none ws])],h.add e1 hp (by show 1<=_;have:0<dl.length:=hl;lia) aa ?_ λb h1 h2=>by rw[ae h1];exact s1o b h1 h2,rfl,SR e1} ?_};rw[ae npr.symm,s1r];unfold dW;rw[zI,zI];rfl;intro b c hb e;have h1:b≠p:=gU e hp;have h2:b≠lr:=λz=>hb (by rw[z];exact zg _<|zg _ zj);refine{λm=>?_,by rw[ae h1,s1o b h1 h2];exact e};unfold fp at m hb;rw[zI]at m;rcases zm.mp m with m|m;exact hb<|m ▸ zj;rcases zm.mp m with m|m;exact hb<|m ▸ zg _ zj;rcases zm.mp m with m|m;exact h2 m;rcases zN.mp m with m|m;exact hb<|zg _<|zg _<|zg _ m;exact h1<|zE.mp m
noncomputable def iQ(n:Nat)(l:wE):wE:=l.dropLast++(l.getLast?.map λs=>Std.mk s.b (some n) s.ws).toList
noncomputable def px(rs:lh)(z:Str)(n:Nat):lh:=Eh rs z<|iQ n<|(lu rs z).getD []
noncomputable def uX(rs:lh)(z:Str)(n:Nat)(ws:v0):lh:=Eh rs z<|(lu rs z).getD []++[Std.mk n none ws]
theorem KL(h:bE C S a F cs dl rs)(z:Str):((lu rs z).getD []).length<=dl.length:=by obtain⟨ld,lr,ra,h,_,rfl⟩:=h;rw[gN];cases e:um ra z with|none=>exact zV _|some ls=>exact h.sz _<|dr (l:=ls.1) (s:=ls.2) e
theorem N1(rs:lh)(z:Str)(s:wE):(Eh rs z s).length<=rs.length+1:=by unfold Eh;split;rw[zb];lia;rw[zD];exact zq _
theorem fA:lu (r::rs) k=if r.1=k then some r.2 else lu rs k:=by unfold lu;rw[yc];by_cases h:r.1=k;rw[zr h,if_pos h];rfl;rw[zo h,if_neg h]
theorem jY:lu (Eh rs z s) k=if k=z then some s else lu rs k:=by
 unfold Eh;by_cases hs:(lu rs z).isSome=true;rw[if_pos hs];by_cases hk:k=z;subst hk;rw[if_pos rfl];induction rs with|nil=>(cases hs)|cons r rs ih=>rw[zC,fA];by_cases h:r.1=k;rw[if_pos h,if_pos h];rw[if_neg h,if_neg h];rw[fA,if_neg h]at hs;exact ih hs
 rw[if_neg hk];clear hs;induction rs with|nil=>rfl|cons r rs ih=>rw[zC,fA,fA,ih];by_cases h:r.1=z;rw[if_pos h,if_neg<|show ¬r.1=k from λe=>hk<|e.symm.trans h,if_neg<|show ¬r.1=k from λe=>hk<|e.symm.trans h];rw[if_neg h]
 rw[if_neg hs];have hn:lu rs z=none:=by cases e:lu rs z<;>simp_all
 clear hs;induction rs with|nil=>rw[List.nil_append,fA];by_cases hk:k=z;rw[if_pos hk,if_pos hk.symm];rw[if_neg hk,if_neg λe=>hk e.symm]|cons r rs ih=>rw[fA]at hn;by_cases h:r.1=z;rw[if_pos h]at hn;cases hn;rw[if_neg h]at hn;rw[List.cons_append,fA,fA,ih hn];by_cases h2:r.1=k;rw[if_pos h2,if_pos h2,if_neg<|show ¬k=z from λe=>h<|h2.trans e];rw[if_neg h2,if_neg h2]
inductive P0(C:Addr)(ds:v0)(S:aq)(R:KD)(Z:KX):Prop where
 |mk (a F cs dl rs z)(h0:ds=[.ref a,.str z])(h1:bE C S a F cs dl rs)(h2:(∃s,lu rs z=some s/\s≠[]))(h3:dl.length<=9000)(h4:∀S',bE C S' a F cs dl (px rs z dl.length)->Cy F F S S'->R .av S')
theorem kx(h:l≠[]):∃r s,l=r++[s]:={l.dropLast,l.getLast h,(List.dropLast_concat_getLast h).symm}
theorem eY(n:Nat)(r:wE)(s:Std):iQ n (r++[s])=r++[Std.mk s.b (some n) s.ws]:=by unfold iQ;rw[List.dropLast_concat,List.getLast?_concat];rfl
theorem KN:oJ P w mg base T.cg 2 (P0 t.ao):=by refine T.cg.F.bx d_ ?_;rintro _ _ _ _ _ _ _ S R Z hr ⟨a,F,cs,dl,rs,z,e,⟨ld,lr,ra,h,hF,uk⟩,⟨s0,UA,HR⟩,hd,q⟩;subst e hF uk;rw[gN]at UA;cases e1:um ra z with|none=>(rw[e1]at UA;cases UA)|some ls=>obtain⟨l,v5⟩:=ls;rw[e1]at UA;cases UA;obtain⟨r,sd,rfl⟩:=kx HR;have hlen:=h.sz _<|dr e1;dsimp only at hlen;rw[zD]at hlen;have hlen:r.length+1<=dl.length:=hlen;have hc:=h.cell _<|dr e1;dsimp only at hc;have ed:bP (dW ra) (.inr z)=some (.ref l):=(by rw[ic,e1];rfl);refine{_,(sc (bQ (i:=2) d_.nd<|bm0 zR PySem.F.slot_list_pop PySem.F.type_list_pop Ww<|ix hr.u (fl T.aj T.bN<|dv 0)<|dv 1)<|s1<|se<|bm zR ya yb cK (ix hr.u (fl T.aj T.bN<|dv 0)<|dv 1)<|ac (bX<|ac (ix hr.u (dv 2) di)<|ac (eR (dv 0) T.aj T.fE (xY T) hr)<|ac (ix hr.u (dv 2) di) an) an),?_};refine !{a,_,_,rfl,h.ins,rfl,_,rfl,dW ra,_,h.run,ed,{rfl,_,hc},l,_,jW sd,rfl,rfl,hc,?_,?_};rw[zI,zD];show(r.map jW++[jW sd])[(r.map jW).length+1-1]?=_;simp;have e2:((r++[sd]).map jW).dropLast=r.map jW:=(by rw[zI];exact List.dropLast_concat);rw[e2];have h1:Ei t.ao (S.set l<|.lst<|r.map jW) a ld lr cs dl (uo ra z r):=h.put e1 (by lia);generalize BF:S.set l _=S1 at h1;have XE:um (uo ra z r) z=some (l,r):=(by have hm:(z,l,r)∈uo ra z r:=(by unfold uo;exact zi.mpr {_,dr e1,if_pos rfl});cases e3:um (uo ra z r) z with|none=>exact absurd rfl (nD e3 _ hm)|some x=>exact congrArg some<|congrArg Prod.snd<|gz (f:=λr:Str×Addr×List Std=>r.1) h1.kn (dr (l:=x.1) (s:=x.2) e3) hm rfl);have ed':bP (dW<|uo ra z r) (.inr z)=some (.ref l):=(by rw[ic,XE];rfl);have Zo:=h1.cell _<|dr XE;refine !{a,_,_,rfl,h1.ins,rfl,_,rfl,_,_,h1.run,ed',{rfl,_,Zo},_,rfl,_,rfl,_,rfl,a,_,rfl,h1.ins,rfl,a,_,cs,dl,_,rfl,{ld,lr,_,h1,rfl,rfl},_,rfl,_,rfl,qO,l,_,_,rfl,rfl,Zo,bg<|by rw[zb];show r.length<=_;lia,?_};have h2:=h1.put (s':=r++[Std.mk sd.b (some dl.length) sd.ws]) XE (by rw[zD];exact hlen);have e4:px (ib ra) z dl.length=ib (uo (uo ra z r) z<|r++[Std.mk sd.b (some dl.length) sd.ws]):=(by unfold px;rw[gN,e1];show Eh (ib ra) z (iQ dl.length<|r++[sd])=_;rw[eY,PZ e1];unfold ib uo;rw[zx,zx,zx];exact zU λx _=>by dsimp only[Function.comp];by_cases hx:x.1=z<;>simp[hx]);refine{_,?_,q _ {ld,lr,_,h2,by rw[KH,KH],e4} ?_};show Sub (S1.set l<|.lst<|(r++[_]).map jW) (S1.set l<|.lst<|r.map jW++[_]);rw[zI];exact .refl _;rw[<-BF,aQ];exact tK<|KJ<|dr e1
theorem FO(h:ofStr kM d=true):∃z,d=.str z/\kM z=true:=by cases d with|str z=>exact⟨z,rfl,h⟩|_=>cases h
theorem FP(h:ph cs k v=true):∃z ws,k=.str z/\v=.tup ws/\kM z=true:=by unfold ph at h;rw[zH]at h;obtain⟨z,rfl,hz⟩:=FO h.1;cases v with|tup ws=>exact⟨z,ws,rfl,rfl,hz⟩|_=>exact absurd h.2 zd
theorem me:Gt S .av:={{.av,rfl},λ_=>nofun}
theorem P1(h:ah (wt l m)=false):l≠[]:=by rintro rfl;cases h
theorem xZ(hz:kM z=true)(i:Int):Cz rs (.str z) i=wt ((lu rs z).getD []) i:=if_pos hz
inductive eZ(t:dY)(ds:v0)(S:aq)(R:KD)(Z:KX):Prop where
 |mk (a F cs dl rs k)(h0:ds=[.ref a,k])(h1:bE t.ao S a F cs dl rs)(h2:Gt S k)(h3:(ah (Cz rs k dl.length)=false->R .av S))(h4:(ah (Cz rs k dl.length)=true->Z t.mU S))
theorem i9:oJ P w mg base T.b_ 4 (eZ t):=by obtain⟨a,F,cs,dl,rs,k,e,hS,hk,q1,q2⟩:T.b_.F.bx jf;obtain⟨ld,lr,ra,h,_⟩:=id hS;refine{_,(s1<|si (bi kF (cme (dv 0) T.aj T.dq.e ((nE T).mono<|by decide) hr T.fj d1<|al 1 an) dn) (s1<|sF ⟨T.xr⟩ T.Kw<|ac ds an) s0),?_};refine !{a,_,rfl,h.ins,rfl,_,rfl,a,F,cs,dl,rs,k,.av,rfl,hS,hk,me,λi hi=>?_,λhn=>by cases hn};cases hi;refine{_,rfl,?_};refine ck (λh1=>?_) λh1=>?_;exact{uT,fo<|q2 h1};exact fo<|q1 h1
inductive jZ(t:dY)(ds:v0)(S:aq)(R:KD)(Z:KX):Prop where
 |mk (a F cs dl rs k v)(h0:ds=[.ref a,k,v])(h1:bE t.ao S a F cs dl rs)(h2:cs.length<=8)(h3:Gt S k)(h4:UR S v)(h5:dl.length<=8000)(h6:rs.length<=8000)(h7:(ph cs k v=false->Z t.gZ S))(h8:(ph cs k v=true->ah (Cz rs k dl.length)=false->Z t.sR S))(h9:(∀z ws,k=.str z->v=.tup ws->ph cs k v=true->ah (Cz rs k dl.length)=true->∀S' F',bE t.ao S' a F' cs (dl++[.tup [.str "put",k,v]]) (uX rs z (dl.length+1) ws)->Cy F F' S S'->R .av S'))
theorem SU:oJ P w mg base T.fC 6 (jZ t):=by obtain⟨a,F,cs,dl,rs,k,v,e,hS,hc,hk,hv,hd,hn,q1,q2,q3⟩:T.fC.F.bx xR;obtain⟨ld,lr,ra,h,hF,uk⟩:=id hS;refine{_,(sc (se<|aM T.ko (nC T) hr<|ac (fl T.aj T.cT<|dv 0)<|ac (bX<|al 1<|al 2 an) an)<|sc (si (bi lQ (cme (dv 0) T.aj T.dq.e ((nE T).mono<|by decide) hr T.fj d1<|al 1 an) dn) (s1<|sF ⟨T.sU⟩ T.HD<|ac ds an) s0)<|sc (se<|bm zR ya yb cK (fl T.aj T.cM<|dv 0)<|ac (bX<|ac ds<|al 1<|al 2 an) an)<|s1<|se<|oi (dv 0) T.aj T.bJ (BE T) hr<|al 1<|al 2 an),?_};refine !{a,_,_,rfl,h.ins,rfl,_,rfl,_,rfl,bR,cs,k,v,rfl,hc,hk,hv,λHS=>?_,λAv=>fo<|q1 Av};refine !{a,_,rfl,h.ins,rfl,_,rfl,a,F,cs,dl,rs,k,.av,rfl,hS,hk,me,λi hi=>?_,λhn=>by cases hn};cases hi;refine{_,rfl,?_};refine ck (λh1=>?_) λh1=>?_;exact{uT,fo<|q2 HS<|nt h1};obtain⟨z,ws,rfl,rfl,hz⟩:=FP HS;refine !{a,_,_,rfl,h.ins,rfl,{rfl,_,h.Au},_,rfl,_,rfl,qO,ld,dl,_,rfl,rfl,h.Au,bg<|by lia,?_};have Hg:=h.NZ<|.tup [.str "put",.str z,.tup ws];have BF:bE t.ao (S.set ld<|.lst<|dl++[.tup [.str "put",.str z,.tup ws]]) a F cs (dl++[.tup [.str "put",.str z,.tup ws]]) rs:=⟨ld,lr,ra,Hg,hF,uk⟩;have hl:=KL hS z;refine !{a,_,rfl,Hg.ins,rfl,_,rfl,_,rfl,a,F,cs,_,rs,z,ws,rfl,BF,by rw[zD];exact Nat.lt_succ_of_le hl,by rw[zD];show dl.length+1<=_;lia,by lia,λS' F' rq hK=>fo<|q3 z ws rfl rfl HS (nf h1) S' F' ?_ ?_};have:(dl++[D.tup [.str "put",.str z,.tup ws]]).length=dl.length+1:=zD;rw[this]at rq;exact rq;refine Cy.trans (tK ?_) hK;rw[hF];exact zg _ zj
inductive fT(t:dY)(ds:v0)(S:aq)(R:KD)(Z:KX):Prop where
 |mk (a F cs dl rs k v)(h0:ds=[.ref a,k,v])(h1:bE t.ao S a F cs dl rs)(h2:cs.length<=8)(h3:Gt S k)(h4:UR S v)(h5:dl.length<=8000)(h6:rs.length<=8000)(h7:(ph cs k v=false->Z t.gZ S))(h8:(ph cs k v=true->ah (Cz rs k dl.length)=true->Z t.mU S))(h9:(∀z ws,k=.str z->v=.tup ws->ph cs k v=true->ah (Cz rs k dl.length)=false->∀S' F',bE t.ao S' a F' cs (dl++[.tup [.str "change",k,v]]) (uX (px rs z dl.length) z (dl.length+1) ws)->Cy F F' S S'->R .av S'))
theorem HU:oJ P w mg base T.cW 6 (fT t):=by
 obtain⟨a,F,cs,dl,rs,k,v,e,hS,hc,hk,hv,hd,hn,q1,q2,q3⟩:T.cW.F.bx qN;obtain⟨ld,lr,ra,h,hF,uk⟩:=id hS;refine{_,(sc (se<|aM T.ko (nC T) hr<|ac (fl T.aj T.cT<|dv 0)<|ac (bX<|al 1<|al 2 an) an)<|sc (se<|oi (dv 0) T.aj T.b_ (i9 T) hr<|al 1 an)<|sc (se<|oi (dv 0) T.aj T.cg (KN T) hr<|al 1 an)<|sc (se<|bm zR ya yb cK (fl T.aj T.cM<|dv 0)<|ac (bX<|ac ds<|al 1<|al 2 an) an)<|s1<|se<|oi (dv 0) T.aj T.bJ (BE T) hr<|al 1<|al 2 an),?_};refine !{a,_,_,rfl,h.ins,rfl,_,rfl,_,rfl,bR,cs,k,v,rfl,hc,hk,hv,λHS=>?_,λAv=>fo<|q1 Av};refine !{a,_,rfl,h.ins,rfl,_,rfl,a,F,cs,dl,rs,k,rfl,hS,hk,λh1=>?_,λh1=>fo<|q2 HS h1};obtain⟨z,ws,rfl,rfl,hz⟩:=FP HS;have HR:∃s,lu rs z=some s/\s≠[]:=by rw[xZ hz]at h1;have:=P1 h1;cases e:lu rs z with|none=>rw[e]at this;exact absurd rfl this|some s=>rw[e]at this;exact⟨s,rfl,this⟩
 refine !{a,_,rfl,h.ins,rfl,_,rfl,a,F,cs,dl,rs,z,rfl,hS,HR,by lia,λS1 BF XF=>?_};obtain⟨US,lr1,ra1,Hg,XG,SV⟩:=id BF;refine !{a,_,_,rfl,Hg.ins,rfl,{rfl,_,Hg.Au},_,rfl,_,rfl,qO,US,dl,_,rfl,rfl,Hg.Au,bg<|by lia,?_};have h2:=Hg.NZ<|.tup [.str "change",.str z,.tup ws];have XH:bE t.ao (S1.set US<|.lst<|dl++[.tup [.str "change",.str z,.tup ws]]) a F cs (dl++[.tup [.str "change",.str z,.tup ws]]) (px rs z dl.length):=⟨US,lr1,ra1,h2,XG,SV⟩;have hl:=KL BF z;have J1:(px rs z dl.length).length<=rs.length+1:=N1 _ _ _;refine !{a,_,rfl,h2.ins,rfl,_,rfl,_,rfl,a,F,cs,_,_,z,ws,rfl,XH,by rw[zD];exact Nat.lt_succ_of_le hl,by rw[zD];show dl.length+1<=_;lia,by lia,λS' F' rq hK=>fo<|q3 z ws rfl rfl HS h1 S' F' ?_ ?_};have:(dl++[D.tup [.str "change",.str z,.tup ws]]).length=dl.length+1:=zD;rw[this]at rq;exact rq;refine XF.trans<|Cy.trans (tK ?_) hK;rw[XG];exact zg _ zj
inductive iR(t:dY)(ds:v0)(S:aq)(R:KD)(Z:KX):Prop where
 |mk (a F cs dl rs k)(h0:ds=[.ref a,k])(h1:bE t.ao S a F cs dl rs)(h2:Gt S k)(h3:dl.length<=8000)(h4:(ofStr kM k=false->Z t.gZ S))(h5:(ofStr kM k=true->ah (Cz rs k dl.length)=true->Z t.mU S))(h6:(∀z,k=.str z->kM z=true->ah (Cz rs k dl.length)=false->∀S',bE t.ao S' a F cs (dl++[.tup [.str "take",k]]) (px rs z dl.length)->Cy F F S S'->R .av S'))
theorem N2:oJ P w mg base T.eI 6 (iR t):=by
 obtain⟨a,F,cs,dl,rs,k,e,hS,hk,hd,q1,q2,q3⟩:T.eI.F.bx uQ;obtain⟨ld,lr,ra,h,hF,uk⟩:=id hS;refine{_,(sc (si (cB<|tv<|aM T.l5 (ia T) hr<|al 1 an) (s1<|sF ⟨T.hG⟩ T.km<|ac ds an) s0)<|sc (se<|oi (dv 0) T.aj T.b_ (i9 T) hr<|al 1 an)<|sc (se<|oi (dv 0) T.aj T.cg (KN T) hr<|al 1 an)<|s1<|se<|bm zR ya yb cK (fl T.aj T.cM<|dv 0)<|ac (bX<|ac ds<|al 1 an) an),?_};refine !{k,rfl,hk,_,rfl,?_};refine ck (λh0=>?_) λh0=>?_;exact{uT,fo<|q1<|nt h0};have h0:=nf h0;refine !{a,_,rfl,h.ins,rfl,_,rfl,a,F,cs,dl,rs,k,rfl,hS,hk,λh1=>?_,λh1=>fo<|q2 h0 h1};obtain⟨z,rfl,hz⟩:=FO h0;have HR:∃s,lu rs z=some s/\s≠[]:=by rw[xZ hz]at h1;have:=P1 h1;cases e:lu rs z with|none=>rw[e]at this;exact absurd rfl this|some s=>rw[e]at this;exact⟨s,rfl,this⟩
 refine !{a,_,rfl,h.ins,rfl,_,rfl,a,F,cs,dl,rs,z,rfl,hS,HR,by lia,λS1 BF XF=>?_};obtain⟨US,lr1,ra1,Hg,XG,SV⟩:=id BF;refine !{a,_,_,rfl,Hg.ins,rfl,{rfl,_,Hg.Au},_,rfl,bR,US,dl,_,rfl,rfl,Hg.Au,bg<|by lia,?_};refine fo<|q3 z rfl hz h1 _ {US,lr1,ra1,Hg.NZ _,XG,SV}<|XF.trans<|tK ?_;rw[XG];exact zg _ zj
inductive ie(t:dY)(ds:v0)(S:aq)(R:KD)(Z:KX):Prop where
 |mk (a cs)(h0:ds=[.ref a,.tup<|cs.map aD])(h1:Gd cs)(h2:S a=some (.ins t.ao []))(h3:∀S' F,bE t.ao S' a F cs [] []->Cy [a] F S S'->R .av S')
theorem N3:oJ P w mg base T.fQ 5 (ie t):=by
 obtain⟨a,cs,e,hg,ha,q⟩:T.fQ.F.bx nr;refine{_,(sc (se<|aM T.gL (pq T) hr<|al 1 an)<|sc (sf T.aj T.cT (dv 0)<|dv 1)<|sc (sf T.aj T.cM (dv 0)<|cJ an)<|s1<|sf T.aj T.bN (dv 0) Wn),?_};refine !{cs,rfl,hg,_,rfl,_,rfl,a,[],rfl,ha,(show 0<1000 by decide),?_};refine{uS,λld UT=>!{a,[("columns",.tup<|cs.map aD)],rfl,?_,(show 1<1000 by decide),λlr J1=>!{a,[("columns",.tup<|cs.map aD),("deeds",.ref ld)],rfl,?_,(show 2<1000 by decide),?_}}};have nl:a≠ld:=by rintro rfl;rw[aa]at UT;cases UT
 rw[ae nl,aa];rfl;have nl:a≠lr:=by rintro rfl;rw[aa]at J1;cases J1
 rw[ae nl,aa];rfl;have n1:a≠ld:=by rintro rfl;rw[aa]at UT;cases UT
 have n2:a≠lr:=by rintro rfl;rw[aa]at J1;cases J1
 have n3:ld≠lr:=by rintro rfl;rw[ae n1.symm,aa]at J1;cases J1
 rw[ae n1.symm]at UT;rw[ae n2.symm,ae n3.symm,ae n2.symm]at J1;refine fo<|q _ (fp a ld lr []) {ld,lr,[],{aa,?_,?_,λr hr=>(nomatch hr),List.nodup_nil,(by simp),λr hr=>(nomatch hr)},rfl,rfl} λb c hb e=>?_;rw[ae n1.symm,ae n3,ae n1.symm,aa];rw[ae n2.symm,aa];rfl;have b1:b≠a:=λz=>hb (by rw[z];exact zj);have b2:b≠ld:=gU e UT;have b3:b≠lr:=gU e J1;refine{λm=>?_,by rw[ae b1,ae b3,ae b1,ae b2,ae b1];exact e};unfold fp at m;simp only[List.map_nil,zm,zM,or_false]at m;rcases m with m|m|m;exact b1 m;exact b2 m;exact b3 m
noncomputable def x5(rs:lh)(i:Int)(z:Str):D:=.tup [.str z,wt ((lu rs z).getD []) i]
noncomputable def mf(rs:lh)(i:Int)(ss:j4):v0:=(ss.filter λz=>!ah (wt ((lu rs z).getD []) i)).map<|x5 rs i
noncomputable def x6:D->Bool|.tup [_,x]=>!ah x|_=>false
theorem BG(ss:j4):((ss.map<|x5 rs i).filter x6).map id=mf rs i ss:=by unfold mf;rw[List.map_id,List.filter_map];rfl
inductive P2(C N:Addr)(ds:v0)(S:aq)(R:KD)(Z:KX):Prop where
 |mk (a F cs dl rs m)(h0:ds=[.ref a,m])(h1:bE C S a F cs dl rs)(h2:rs.length<64)(h3:Gt S m)(h4:(∀i ss,uW dl.length m=some i->ss.Perm (rs.map (·.1))->PyProof.Rows.sortedS ss=true->∀p,S p=none->R (.ref p) (S.set p<|.lst<|mf rs i ss)))(h5:(uW dl.length m=none->Z N S))
theorem pz:oJ P w mg base T.dO 3 (P2 t.ao t.fM):=by
 obtain⟨a,F,cs,dl,rs,m,e,hS,hn,hm,q1,q2⟩:T.dO.F.bx fe;obtain⟨ld,lr,ra,h,hF,uk⟩:=id hS;have ek:(dW ra).map (·.1)=(rs.map (·.1)).map Sum.inr:=by rw[uk];unfold dW ib;rw[zx,zx,zx];rfl
 have el:(dW ra).length<64:=by rw[uk]at hn;unfold ib at hn;unfold dW;rw[zb]at hn⊢;exact hn
 refine{_,(sc (bQ (i:=2) fe.nd<|oi (dv 0) T.aj T.cj (i8 T) hr<|al 1 an)<|sc (xl (N:=["key","then","self"]) (src:=[none,some 2,some 0]) 3 fe.nd (oj<|inClass br 10) (il<|cb A_ T.g_ fB<|ac (fl T.aj T.bN<|dv 0) an) rn<|bX<|al 0<|ac (aM T.gw (jX T) hr<|ac (bn (fl T.aj T.bN<|dv 2)<|dv 0)<|al 1 an) an)<|s1<|sr<|xk (N:=["row"]) (src:=[none]) (oj<|inClass br 10) (il<|dv 3) (if1<|bi lQ (bn (dv 0) di) dn)<|dv 0),?_};refine !{a,_,rfl,h.ins,rfl,_,rfl,a,F,cs,dl,rs,m,rfl,hS,hm,λi hi=>?_,λhn=>fo<|q2 hn};refine !{a,_,_,rfl,h.ins,rfl,lr,dW ra,rs.map (·.1),rfl,h.run,ek,el,λss hp hs p jh=>?_};have hlen:ss.length<64:=by rw[hp.length_eq,zb];exact hn
 refine{_,aa,?_};refine comp_map (λd=>match d with|.str z=>x5 rs i z|_=>.av) aa (by show(ss.map D.str).length<=1000;rw[zb];omega) (λd hd Q hQ=>?_) λp2 gD=>?_;obtain⟨z,hz,rfl⟩:=zi.mp hd;have hz':z∈rs.map (·.1):=hp.mem_iff.mp hz;obtain⟨r,my,e⟩:=zi.mp hz';rw[uk]at my;unfold ib at my;obtain⟨r0,Av,rfl⟩:=zi.mp my;have e1:um ra z=some r0.2:=by cases e3:um ra z with|none=>exact absurd e (nD e3 _ Av)|some x=>exact congrArg some<|congrArg Prod.snd<|gz (f:=λr:Str×Addr×List Std=>r.1) h.kn (dr (l:=x.1) (s:=x.2) e3) Av e.symm
 have ed:bP (dW ra) (.inr z)=some (.ref r0.2.1):=by rw[ic,e1];rfl
 have hc:=h.cell _ Av;have eq:(lu rs z).getD []=r0.2.2:=by rw[uk,gN,e1];rfl
 have hQ:Q (.tup [.str z,wt ((lu rs z).getD []) i]) (S.set p<|.lst<|ss.map D.str):=hQ;rw[eq]at hQ;have hi1:(S.set p<|.lst<|ss.map D.str) a=_:=(ae<|gU h.ins jh).trans h.ins;have HS:(S.set p<|.lst<|ss.map D.str) lr=_:=(ae<|gU h.run jh).trans h.run;have Zo:(S.set p<|.lst<|ss.map D.str) r0.2.1=_:=(ae<|gU hc jh).trans hc;exact !!{a,_,_,rfl,hi1,rfl,_,rfl,dW ra,_,HS,ed,_,rfl,_,_,i,rfl,Zo,bR,hQ};have em:(ss.map D.str).map (λd=>match d with|.str z=>x5 rs i z|_=>.av)=ss.map (x5 rs i):=by rw[zx];rfl
 refine !{ss.map<|x5 rs i,by show((S.set p _).set p2<|.lst<|(ss.map D.str).map _) p2=_;rw[aa,em],?_};refine ku x6 id (by show((S.set p _).set p2<|.lst<|(ss.map D.str).map _) p2=_;rw[aa,em]) (by show(ss.map<|x5 rs i).length<=1000;rw[zb];omega) (λd hd Q Q' hQ SW=>?_) λp3 CA=>?_;obtain⟨z,hz,rfl⟩:=zi.mp hd;refine !!!⟨?_⟩;exact ck (λh=>!⟨hQ h⟩) λh=>SW h;have acd:S p3=none:=by cases e:S p3 with|none=>rfl|some c=>exact absurd CA<|by rw[ae (gU e<|by have:(S.set p<|.lst<|ss.map D.str) p2=none:=gD;cases e':S p2 with|none=>rfl|some c'=>rw[ae<|gU e' jh,e']at this;cases this),ae<|gU e jh,e];exact nofun
 refine{S.set p3<|.lst<|mf rs i ss,λb c hb=>?_,q1 i ss hi hp hs p3 acd};show((((S.set p<|.lst<|ss.map D.str).set p2 _).set p3<|.lst<|((ss.map<|x5 rs i).filter x6).map id)) b=some c;rw[BG];by_cases hb3:b=p3;subst hb3;rw[aa]at hb⊢;exact hb;rw[ae hb3]at hb;have acf:S p2=none:=by cases e':S p2 with|none=>rfl|some c'=>have:(S.set p<|.lst<|ss.map D.str) p2=none:=gD;rw[ae<|gU e' jh,e']at this;cases this
 rw[ae hb3,ae<|gU hb acf,ae<|gU hb jh];exact hb
theorem v7{S:aq}{p:Addr}{c:Ce}(h:S p=some c):S.set p c=S:=by funext b;by_cases e:b=p;subst e;rw[aa,h];rw[ae e]
theorem KO{S:aq}{p q:Addr}{c e:Ce}(h:S q=none)(hn:p≠q):Sub (S.set p c) ((S.set q e).set p c):=λb x hb=>by by_cases XI:b=p;subst XI;rw[aa]at hb⊢;exact hb;rw[ae XI]at hb⊢;exact(Sub.new h) _ _ hb
theorem dpI:∀xs:rp,DpAll S (xs.map D.int) (xs.map PyData.int)/\PyData.canLayAll0 (xs.map PyData.int)=true/\PyData.depthAll (xs.map PyData.int)<=0|[]=>{by simp only[List.map_nil,DpAll],rfl,zV _}|x::xs=>by obtain⟨a,b,c⟩:=dpI (S:=S) xs;exact{by simp only[zC,DpAll];exact{_,_,rfl,by simp only[Dp],a},by simp only[zC,PyData.canLayAll0,PyData.canLay0,b,Bool.and_self],by simp only[zC,PyData.depthAll,PyData.depth];lia}
theorem N4{S:aq}{a b:Addr}{xs:rp}{R:KD}(e1:S a=some (.lst<|xs.map D.int))(e2:S b=some (.lst []))(q:R (.bl xs.isEmpty) S):Iz false (.ref a) (.ref b) S R:=by obtain⟨k1,k2,k3⟩:=dpI (S:=S) xs;refine{.list<|xs.map PyData.int,.list [],{_,_,e1,rfl,k1},{[],[],e2,rfl,by simp only[DpAll]},by simp only[PyData.canLay0];exact k2,by simp only[PyData.canLay0,PyData.canLayAll0],.inl<|by simp only[PyData.depth];lia,?_};rw[if_neg zd,show PyData.eqv (.list<|xs.map PyData.int) (.list [])=xs.isEmpty by cases xs<;>simp[PyData.eqv,PyData.eqvAll]];exact q
theorem N5{k n:Nat}(h:k<n):seqIndex? ((k:Nat):Int) n=some k:=by have e:(if ((k:Nat):Int)<0 then ((k:Nat):Int)+(n:Int) else ((k:Nat):Int))=((k:Nat):Int):=if_neg (by lia);unfold seqIndex?;dsimp only;rw[e,if_pos<|by simp;lia];rfl
theorem pA{p:Bool}{A B:Prop}(h:p=false)(q:B):if p=true then A else B:=by rw[h];exact aY q
theorem SX{p:Bool}{A B:Prop}(h:p=true)(q:A):if p=true then A else B:=by rw[h];exact ee q
theorem cH{L:v0}{S:aq}{p:Addr}{n:Int}{R:KD}(h0:0<=n)(h1:n<(L.length:Int))(hp:S p=none)(q:∀d,d∈L->R d S):YW p n (S.set p<|.lst L) λd S'=>Fo S' (R d):=by obtain⟨v,e1,e2⟩:=kh (l:=L) h0 h1;exact{L,v,aa,e1,S,.new hp,q v<|zp e2}
theorem tL{xs:rp}{i:Int}{P:Int->Prop}(h0:0<=i)(h1:i<((xs.map D.int).length:Int))(h:∀x∈xs,P x):∃x,kD (xs.map D.int) i=some (.int x)/\P x:=by obtain⟨d,e1,e2⟩:=kh (l:=xs.map D.int) h0 h1;obtain⟨x,hx,rfl⟩:=zi.mp<|zp e2;exact{x,e1,h x hx}
inductive qf(ds:v0)(S:aq)(R:KD)(Z:KX):Prop where
 |mk (ns:rp)(k:Nat)(h0:ds=[.kW<|ns.map D.int,.int k])(h1:∀c:Int,c=ns.getD k 0->R (.int c) S)
theorem eL:Ok P w base T.dH 1 qf:=by
 obtain⟨ns,k,e,q⟩:T.dH.F.bx xQ;refine{_,(sc (si (bi w5 (dv 1)<|cb a_ T.aW aI<|al 0 an) (s1<|sr<|bn (dv 0)<|dv 1) s0)<|s1<|sr di),?_};refine !!!!⟨?_⟩;refine ck (λh=>?_) λh=>?_;have h:(k:Int)<(((ns.map D.int).length:Nat):Int):=zy h;have hk:k<ns.length:=by rw[zb]at h;lia
 exact !!{.int ns[k],cE<|by rw[zh];simp[hk],fo<|q _<|by rw[zw,ze hk];rfl};have h:¬(k:Int)<(((ns.map D.int).length:Nat):Int):=z0 h;rw[zb]at h;exact fo<|q 0<|by rw[zw,yn<|by lia];rfl
theorem rG{L:v0}{S:aq}{p:Addr}{n:Int}{R:KD}(h0:0<=n)(h1:n<(L.length:Int))(hp:S p=none)(q:∀d,L[n.toNat]?=some d->R d S):YW p n (S.set p<|.lst L) λd S'=>Fo S' (R d):=by obtain⟨v,e1,e2⟩:=kh (l:=L) h0 h1;exact{L,v,aa,e1,S,.new hp,q v e2}
noncomputable def SY:Nat->Int->List Int|0,_=>[]|m+1,r=>if decide (1<r)=true then r%10^(15:Int).toNat::SY m (r/10^(15:Int).toNat) else[]
noncomputable def S_(c:Int):Nat->Int|0=>c%1000000000000000009+48271|i+1=>(S_ c i*S_ c i+48271*S_ c i+(0+(i:Nat)))%1000000000000000009
noncomputable def XJ(c:Int)(j:Nat):Int:=S_ c (j+4)*(S_ c (j+4)/1009+69621)%1000000000000000009
noncomputable def Zp(c:Int)(n:Nat):rp:=(SY n (if decide (10^(30:Int).toNat<=c)=true then c-10^(30:Int).toNat else 0)++(List.range n).map (XJ c)).take n
theorem Tc(h:decide (1<r)=false):∀m,SY m r=[]|0=>rfl|m+1=>by unfold SY;rw[h];rfl
inductive Dv(S:aq)(c:Int)(n:Nat)(lf:Addr)(r0:Int)(aG:SD)(S':aq):Prop where
 |mk (r:Int)(xs:rp)(h0:aG=[some<|.int c,some<|.int (n:Nat),some<|.ref lf,some<|.int r,none,none])(h1:S'=S.set lf (.lst<|xs.map D.int))(h2:xs.length<=n)(h3:∀x∈xs,0<=x)(h4:xs=SY n r0):Dv S c n lf r0 aG S'
inductive Dw(S:aq)(c:Int)(n:Nat)(lf:Addr)(r0:Int)(m:Nat)(aG:SD)(S':aq):Prop where
 |mk (r:Int)(xs:rp)(h0:aG=[some<|.int c,some<|.int (n:Nat),some<|.ref lf,some<|.int r,none,none])(h1:S'=S.set lf (.lst<|xs.map D.int))(h2:xs.length+m=n)(h3:∀x∈xs,0<=x)(h4:xs++SY m r=SY n r0):Dw S c n lf r0 m aG S'
inductive Dx(S:aq)(c:Int)(n:Nat)(lf:Addr)(r:Int)(xs:rp)(aG:SD)(S':aq):Prop where
 |mk (o4 o5:wn)(ys:rp)(h0:aG=[some<|.int c,some<|.int (n:Nat),some<|.ref lf,some<|.int r,o4,o5])(h1:S'=S.set lf (.lst<|ys.map D.int))(h2:n<=ys.length)(h3:ys.length<=40)(h4:∀x∈ys,0<=x)(h5:ys=xs++(List.range n).map (XJ c)):Dx S c n lf r xs aG S'
inductive Dy(S:aq)(c:Int)(n:Nat)(lf:Addr)(r:Int)(xs:rp)(i:Nat)(aG:SD)(S':aq):Prop where
 |mk (nu:Int)(o5:wn)(ys:rp)(h0:aG=[some<|.int c,some<|.int (n:Nat),some<|.ref lf,some<|.int r,some<|.int nu,o5])(h1:0<=nu)(h2:nu<1000000000000048280)(h3:S'=S.set lf (.lst<|ys.map D.int))(h4:ys.length=xs.length+(i-3))(h5:∀x∈ys,0<=x)(h6:nu=S_ c i)(h7:ys=xs++(List.range<|i-3).map (XJ c)):Dy S c n lf r xs i aG S'
inductive v8(ds:v0)(S:aq)(R:KD)(Z:KX):Prop where
 |mk (c:Int)(n:Nat)(h0:ds=[.int c,.int (n:Nat)])(h1:n<=20)(h2:∀(xs:rp) p,xs=Zp c n->xs.length=n->(∀x∈xs,0<=x)->S p=none->R (.ref p) (S.set p<|.lst<|xs.map D.int))
theorem ig:Ok P w base T.gx 1 v8:=by
 obtain⟨c,n,e,hn,q⟩:T.gx.F.bx cN;refine{_,(sc (bQ (i:=2) cN.nd<|cJ an)<|sc (bQ (i:=3) cN.nd di)<|sc (Ba<|si (bi aa9 (dv 0)<|bd mK di di) (s1<|bQ (i:=3) cN.nd<|bd pT (dv 0)<|bd mK di di) s0)<|sc (Ba<|swh (twd<|twand (bi qG (dv 3) di)<|tw1<|bi w5 (cb a_ T.aW aI<|al 2 an)<|dv 1)<|sc (se<|bm zR ya yb cK (dv 2)<|ac (bd ba (dv 3)<|bd mK di di) an)<|s1<|bQ (i:=3) cN.nd<|bd bH (dv 3)<|bd mK di di)<|sc (bQ (i:=4) cN.nd<|bd bu (bd ba (dv 0)<|bd bu (bd mK di di) di) di)<|sc (Ba<|JS (Pr T.gu<|ac (bd bu (dv 1) di) an) (gn (i:=5) cN.nd)<|sc (bQ (i:=4) cN.nd<|bd ba (bd bu (bd bu (bd pU (dv 4)<|dv 4)<|bd pU di<|dv 4)<|dv 5)<|bd bu (bd mK di di) di)<|s1<|si (bi qG (dv 5) di) (s1<|se<|bm zR ya yb cK (dv 2)<|ac (bd ba (bd pU (dv 4)<|bd bu (bd bH (dv 4) di) di)<|bd bu (bd mK di di) di) an) s0)<|s1<|sr<|NS (dv 2) o0<|o1<|dv 1),?_};refine{uS,λlf N6=>?_};refine{λaG S'=>∃r:Int,aG=[some<|.int c,some<|.int (n:Nat),some<|.ref lf,some<|.int r,none,none]/\S'=S.set lf (.lst [])/\r=(if decide (10^(30:Int).toNat<=c)=true then c-10^(30:Int).toNat else 0),?_,?_};refine{_,rfl,{by decide,by decide,by decide},_,rfl,ck (λh=>?_) λh=>fo {0,rfl,rfl,(if_neg λh'=>zd<|h.symm.trans h').symm}};exact{_,rfl,{by decide,by decide,by decide},fo !{rfl,(if_pos h).symm}};rintro aG S' ⟨r0,rfl,rfl,er⟩;refine{Dv S c n lf r0,?_,?_};refine{Dw S c n lf r0,{n,r0,[],rfl,rfl,Nat.zero_add _,(λ_ h=>(nomatch h)),rfl},?_};rintro m aG S' ⟨r,xs,rfl,rfl,hl,hx,hd⟩;have hS:(S.set lf<|.lst<|xs.map D.int) lf=some (.lst<|xs.map D.int):=aa;refine !!⟨ck (λh1=>!!⟨.inl {_,hS,_,rfl,_,rfl,ck (λh2=>?_) λh2=>?_}⟩) λh1=>aY<|fo {r,xs,rfl,rfl,by lia,hx,by rw[Tc h1,yJ]at hd;exact hd}⟩;have h2:(((xs.map D.int).length:Nat):Int)<((n:Nat):Int):=zy h2;rw[zb]at h2;refine{_,rfl,{rfl,_,hS},_,rfl,{by decide,by decide,by decide},by decide,lf,_,_,rfl,rfl,hS,bg<|by rw[zb];lia,?_};refine{_,rfl,{by decide,by decide,by decide},{by decide,by trivial},m-1,by lia,_,xs++[r%10^(15:Int).toNat],rfl,?_,by rw[zD];show xs.length+1+_=_;lia,λx JB=>?_,?_};rw[aQ,zI];rfl;rcases zN.mp JB with h|h;exact hx x h;rw[zE.mp h];exact zL _ (by decide);rw[<-hd,List.append_assoc];obtain⟨k,rfl⟩:∃k,m=k+1:={m-1,by lia};show _=xs++(if decide (1<r)=true then _ else _);rw[if_pos h1];rfl;have h2:¬(((xs.map D.int).length:Nat):Int)<((n:Nat):Int):=z0 h2;rw[zb]at h2;obtain rfl:m=0:=by lia
 exact fo {r,xs,rfl,rfl,by lia,hx,by rw[<-hd];exact(yJ _).symm};rintro aG S' ⟨r,xs,rfl,rfl,hl,hx,exs⟩;have nb:∀z:Int,0<=z%1000000000000000009/\z%1000000000000000009<1000000000000000009:=λz=>{zL z<|by decide,zK z<|by decide};have e18:((10:Int)^(18:Int).toNat+9)=1000000000000000009:=by decide
 refine{_,rfl,{by decide,by decide,by decide},by decide,?_};refine{Dx S c n lf r xs,?_,?_};refine !{((n:Nat):Int)+3,rfl,by lia,by lia,?_};refine{Dy S c n lf r xs,?_,λ_ _ _ _=>trivial,?_,?_};have:=nb c;rw[e18];exact{_,none,xs,rfl,by lia,by lia,rfl,rfl,hx,rfl,(yJ _).symm};rintro i d aG S' hd ⟨nu,o5,ys,rfl,n0,n1,rfl,hyl,hy,enu,Td⟩;have hd:(dM 0 (((n:Nat):Int)+3).toNat)[i]?=some d:=hd;obtain⟨hi,rfl⟩:=cL hd;refine !!{.inl {by lia,by lia},_,rfl,.inl {by decide,by decide},_,rfl,{by decide,by decide,by decide},by decide,?_};rw[e18];have b1:=nb<|nu*nu+48271*nu+(0+(i:Nat));have Zr:(nu*nu+48271*nu+(0+(i:Nat)))%1000000000000000009=S_ c (i+1):=by rw[enu];rfl
 generalize (nu*nu+48271*nu+(0+(i:Nat)))%1000000000000000009=nu2 at b1 Zr⊢;have hS:(S.set lf<|.lst<|ys.map D.int) lf=some (.lst<|ys.map D.int):=aa;refine !!⟨ck (λh=>?_) λh=>?_⟩;have h:(2:Int)<0+((i:Nat):Int):=zy h;refine{_,rfl,{rfl,_,hS},_,rfl,_,rfl,{by decide,by trivial},.inl {by lia,by lia},{by decide,by decide,by decide},by decide,lf,_,_,rfl,rfl,hS,bg<|by rw[zb];lia,?_};refine{nu2,_,ys++[nu2*(nu2/1009+69621)%(10^(18:Int).toNat+9)],rfl,by lia,by lia,?_,by rw[zD];show ys.length+1=_;lia,(λx JB=>?_),Zr,?_};rw[aQ,zI];rfl;rcases zN.mp JB with h|h;exact hy x h;rw[zE.mp h];exact zL _ (by decide);rw[Td,show i+1-3=i-3+1 by lia,List.range_succ,zI,List.append_assoc,e18,Zr];show _++(_++[_])=_++(_++[XJ c<|i-3]);unfold XJ;rw[show i-3+4=i+1 by lia];have h:¬(2:Int)<0+((i:Nat):Int):=z0 h;exact{nu2,_,ys,rfl,by lia,by lia,rfl,by lia,hy,Zr,by rw[Td,show i+1-3=i-3 by lia]};rintro aG S' ⟨nu,o5,ys,rfl,_,_,rfl,hyl,hy,_,Td⟩;rw[show({dM 0 (((n:Nat):Int)+3).toNat,λ_=>True}:rm).xs.length=(((n:Nat):Int)+3).toNat from cq]at hyl Td;exact fo {_,_,ys,rfl,rfl,by lia,by lia,hy,by rw[Td,show(((n:Nat):Int)+3).toNat-3=n by lia]};rintro aG S' ⟨o4,o5,ys,rfl,rfl,PC,O5,hy,Td⟩;refine !!!{_,aa,λp hp=>?_};have Te:S p=none:=by rw[ae<|show p≠lf by rintro rfl;rw[aa]at hp;cases hp]at hp;exact hp
 have e:cn (ys.map D.int) none (some ((n:Nat):Int))=(ys.take n).map D.int:=by unfold cn;rw[HT.sIx_nat,HT.sIx_none,zb,Nat.min_eq_left PC,List.drop_zero,Nat.sub_zero,List.map_take]
 rw[e];refine{_,λb x hb=>?_,q (ys.take n) p (by rw[Td,exs,er];rfl) (by rw[ym];lia) (λx JB=>hy x<|List.mem_of_mem_take JB) Te};by_cases XI:b=p;subst XI;rw[aa]at hb⊢;exact hb;rw[ae XI]at hb⊢;exact(Sub.new N6) _ _ hb
inductive v9(ds:v0)(S:aq)(R:KD)(Z:KX):Prop where
 |mk (p:Addr)(xs:rp)(h0:ds=[.ref p])(h1:S p=some (.lst<|xs.map D.int))(h2:xs.length<=20)(h3:∀x∈xs,0<=x)(h4:∀(x:Int)(ys:rp),0<=x->ys.length<=xs.length->(∀y∈ys,0<=y)->R (.int x) (S.set p<|.lst<|ys.map D.int))
theorem BH:Ok P w base T.rE 1 v9:=by obtain⟨p,xs,e,hp,hl,hx,q⟩:T.rE.F.bx Eb;refine{_,(sc (si (bi bf (dv 0)<|cJ an) (s1<|sr di) s0)<|s1<|sr<|bm zR PySem.F.slot_list_pop PySem.F.type_list_pop Nq (dv 0)<|ac di an),?_};refine !{uS,λp2 gD=>N4 ((Sub.new gD) _ _ hp) aa !⟨?_⟩};cases xs with|nil=>refine SX rfl {S.set p<|.lst [],?_,q 3 [] (by decide) (zq _) λ_ h=>(nomatch h)};rw[v7<|show S p=some (.lst []) from hp];exact .new gD|cons x xs=>refine pA rfl !⟨{rfl,_,(Sub.new gD) _ _ hp},p,_,_,0,.int x,rfl,rfl,(Sub.new gD) _ _ hp,by decide,by decide,N5 (k:=0)<|by simp,rfl,?_⟩;refine{_,?_,q x xs (hx x zj) (by simp) λy hy=>hx y<|zg _ hy};exact KO gD λe=>by rw[e,gD]at hp;cases hp
noncomputable abbrev KW:j4:=["a","ab","b","abc","z","a1","b22","aa","m","m0","ba","zzzzzzzzz"]
noncomputable abbrev KU:j4:=["","0","b7","zz","9"]
noncomputable abbrev KS:j4:=KW.flatMap λa=>KU.map λb=>a++b
theorem gO:∀z∈KS,kM z=true/\z.cps.size<=12/\PyData.strOk z=true:=by trivial
theorem XM:∀a∈KW,∀b∈KU,a.length+b.length<=1000:=by trivial
noncomputable abbrev CB:j4:=["key","a","ab","at","up","mark","b","price"]
theorem KP:∀z∈CB,lg z=true/\PyData.strOk z=true:=by trivial
noncomputable abbrev WDS:j4:=["","a","ab","b","a b","B","~","=b"]
theorem Tf:∀z∈WDS,p7 z=true:=by trivial
noncomputable def dF:D->Bool|.av=>true|.int _=>true|.str z=>decide (z.cps.size<=40)&&PyData.strOk z|_=>false
theorem iS(h:dF d=true):d=.av\/(∃i,d=.int i)\/∃z,d=.str z:=by cases d<;>first|exact .inl rfl|exact .inr (.inl {_,rfl})|exact .inr (.inr {_,rfl})|cases h
def Vg(kind:Str)(d:D):Prop:=iO kind d=true/\dF d=true
theorem N7(h:p7 z=true):dF (.str z)=true:=by unfold p7 at h;rw[zH,zX]at h;show(decide (z.cps.size<=40)&&PyData.strOk z)=true;rw[h.1,ye];unfold PyData.strOk;rw[<-Array.all_toList,zX];intro c hc;have:=h.2 c hc;unfold FI at this;simp only[zH,zZ]at this⊢;lia
theorem Th{k:Str}(h:k ="number")(i:Int):Vg k (.int i):={by rw[h];rfl,rfl}
theorem Tj{k:Str}(h:¬k ="number")(hz:p7 z=true):Vg k (.str z):={by unfold iO;rw[if_neg h];exact hz,N7 hz}
theorem Tp(k:Str):Vg k .av:=⟨rfl,rfl⟩
noncomputable def HV(k:Str)(x:Int):D:=if decide (x%5=4)=true then .av else if decide (k ="number")=true then (([0,1,2,10,-1,-2,x/40%10^(15:Int).toNat*10^(44:Int).toNat,0-x/40%10^(15:Int).toNat*10^(44:Int).toNat].map D.int)[(x/5%8).toNat]?).getD .av else ((WDS.map D.str)[(x/5%8).toNat]?).getD .av
noncomputable def Tq(x:Int):Str:=(KW[(x%12).toNat]?).getD ""++((["","","","","0","b7","zz","9"]:j4)[(x/12%8).toNat]?).getD ""
inductive v_(ds:v0)(S:aq)(R:KD)(Z:KX):Prop where
 |mk (k:Str)(x:Int)(h0:ds=[.str k,.int x])(h1:∀d,d=HV k x->Vg k d->R d S)
theorem tM:Ok P w base T.m9 1 v_:=by
 obtain⟨k,x,e,q⟩:T.m9.F.bx tm;refine{_,(sc (si (bi bf (bd ba (dv 1) di) di) (s1<|sr dn) s0)<|sc (si (bi bf (dv 0) ds) (sc (bQ (i:=2) tm.nd<|bd pU (bd ba (bd bH (dv 1) di)<|bd mK di di)<|bd mK di di)<|s1<|sr<|uG<|bn (cJ<|ac di<|ac di<|ac di<|ac di<|ac (DB di)<|ac (DB di)<|al 2<|ac (bd pT di<|dv 2) an)<|bd ba (bd bH (dv 1) di) di) s0)<|s1<|sr<|uG<|bn (cJ<|ac ds<|ac ds<|ac ds<|ac ds<|ac ds<|ac ds<|ac ds<|ac ds an)<|bd ba (bd bH (dv 1) di) di),?_};refine !{by decide,_,rfl,ck (λh0=>fo<|q _ (if_pos h0).symm<|Tp k) λh0=>!!⟨?_⟩};have h0:¬decide (x%5=4)=true:=by rw[show decide (x%5=4)=false from h0];exact zd
 unfold HV at q;rw[if_neg h0]at q;have i0:0<=x/5%8:=zL _ (by decide);have i1:x/5%8<8:=zK _ (by decide);refine ck (λh=>?_) λh=>?_;rw[if_pos<|show decide (k ="number")=true from h]at q;have h:k ="number":=zy h;have g0:0<=x/40%10^(15:Int).toNat:=zL _ (by decide);have g1:x/40%10^(15:Int).toNat<10^(15:Int).toNat:=zK _ (by decide);refine{_,rfl,{by decide,by trivial},{by decide,by decide,by decide},by decide,{by decide,by decide,by decide},.inl {Int.lt_of_lt_of_le (by decide) g0,Int.lt_trans g1<|by decide},?_};generalize x/40%10^(15:Int).toNat*10^(44:Int).toNat=gr at q⊢;refine !!!!{HM,λp hp=>!⟨{by decide,by trivial},by decide,rG i0 i1 hp λd he=>?_⟩};have he:([0,1,2,10,-1,-2,gr,0-gr].map D.int)[(x/5%8).toNat]?=some d:=he;have hd:=zp he;rw[he]at q;have hd:d∈[D.int 0,.int 1,.int 2,.int 10,.int (-1),.int (-2),.int gr,.int<|0-gr]:=hd;simp only[zm,zM,or_false]at hd;rcases hd with rfl|rfl|rfl|rfl|rfl|rfl|rfl|rfl<;>exact fo (q _ rfl<|Th h _);refine{HM,λp hp=>!⟨{by decide,by trivial},by decide,rG i0 i1 hp λd he=>?_⟩};have he:(WDS.map D.str)[(x/5%8).toNat]?=some d:=he;rw[if_neg<|by rw[show decide (k ="number")=false from h];exact zd,he]at q;have hd:=zp he;obtain⟨z,hz,rfl⟩:=zi.mp hd;exact fo<|q _ rfl<|Tj (z0 h)<|Tf z hz
inductive FQ(ds:v0)(S:aq)(R:KD)(Z:KX):Prop where
 |mk (x:Int)(h0:ds=[.int x])(h1:∀z,z=Tq x->z∈KS->R (.str z) S)
theorem Ek:Ok P w base T.Bx 1 FQ:=by
 obtain⟨x,e,q⟩:T.Bx.F.bx BC;refine{_,(sc (bQ (i:=1) BC.nd<|uG<|bn (cJ<|ac ds<|ac ds<|ac ds<|ac ds<|ac ds<|ac ds<|ac ds<|ac ds<|ac ds<|ac ds<|ac ds<|ac ds an)<|bd ba (dv 0) di)<|s1<|sr<|bd bu (dv 1)<|uG<|bn (cJ<|ac ds<|ac ds<|ac ds<|ac ds<|ac ds<|ac ds<|ac ds<|ac ds an)<|bd ba (bd bH (dv 0) di) di),?_};refine{XD,λp hp=>!{by decide,rG (zL _<|by decide) (zK _<|by decide) hp λd he=>?_}};have he:(KW.map D.str)[(x%12).toNat]?=some d:=he;rw[zh]at he;obtain⟨a,ea,rfl⟩:=Option.map_eq_some_iff.mp he;have ha:=zp ea;refine !{HM,λp hp=>!⟨{by decide,by trivial},by decide,rG (zL _<|by decide) (zK _<|by decide) hp λd UH=>?_⟩};have UH:((["","","","","0","b7","zz","9"]:j4).map D.str)[(x/12%8).toNat]?=some d:=UH;rw[zh]at UH;obtain⟨b,eb,rfl⟩:=Option.map_eq_some_iff.mp UH;have hb:b∈KU:=by have hd:=zp eb;simp only[zm,zM,or_false]at hd;rcases hd with h|h|h|h|h|h|h|h<;>rw[h]<;>simp
 exact{sm<|XM a ha b hb,fo<|q _ (by unfold Tq;rw[ea,eb];rfl)<|List.mem_flatMap.mpr {a,ha,zi.mpr ⟨b,hb,rfl⟩}}
theorem dI{α β:Type}{rel:α->β->Prop}{l:List α}{m:List β}(h:Paired rel l m):∀{i:Nat}{b:β},m[i]?=some b->∃a,l[i]?=some a/\rel a b:=by induction h with|nil=>intro i a h;simp at h|cons r t ih=>intro i a h;cases i with|zero=>(rw[List.getElem?_cons_zero]at h⊢;cases h;exact{_,rfl,r})|succ i=>rw[List.getElem?_cons_succ]at h⊢;exact ih h
theorem pB{α β:Type}{rel:α->β->Prop} : ∀{l:List α}{m:List β},m.length=l.length->(∀(i:Nat) a b,l[i]?=some a->m[i]?=some b->rel a b)->Paired rel l m|[],[],_,_=>.nil|a::l,b::m,h,k=>.cons (k 0 a b rfl rfl)<|pB (by simpa using h) λi x y e1 e2=>k (i+1) x y (by rw[List.getElem?_cons_succ];exact e1)<|by rw[List.getElem?_cons_succ];exact e2
def Wg(cs:ww)(ws:v0):Prop:=Paired (λ(c:Str×Str) v=>Vg c.2 v) cs ws
noncomputable def tN(tr j:Nat):Str:=CB.getD ((tr+3*j)%8) ""
theorem KQ:∀tr<8,∀i<9,((List.range i).map<|tN tr).Nodup:=by trivial
theorem Tr(tr j:Nat):tN tr j∈CB:=by have:(tr+3*j)%8<8:=Nat.mod_lt _ (by decide);unfold tN;rw[zw,ze<|show(tr+3*j)%8<CB.length from this];exact List.getElem_mem _
theorem Ts(tr j:Nat):tN (tr%8) j=tN tr j:=by unfold tN;rw[show(tr%8+3*j)%8=(tr+3*j)%8 by lia]
def Cg(cs:ww):Prop:=Gd cs/\∀c∈cs,c.1∈CB
inductive Nw(S:aq)(c:Int)(lx ln lf:Addr)(m tr:Nat)(x0:Int)(i:Nat)(aG:SD)(S':aq):Prop where
 |mk (cs:ww)(y2:Int)(o6:wn)(h0:aG=[some<|.int c,some<|.ref lx,some<|.ref ln,some<|.int (m:Nat),some<|.ref lf,o6])(h1:cs.map Prod.fst=(List.range i).map (tN tr))(h2:(∀c∈cs,c.2 ="number"\/c.2 ="word"))(h3:S' lx=some (.lst<|[x0,((tr:Nat):Int),y2].map D.int))(h4:S' ln=some (.lst<|CB.map D.str))(h5:S' lf=some (.lst<|cs.map aD))(h6:Sub S S'):Nw S c lx ln lf m tr x0 i aG S'
inductive qg(ds:v0)(S:aq)(R:KD)(Z:KX):Prop where
 |mk (c:Int)(h0:ds=[.int c])(h1:∀cs,Cg cs->R (.tup<|cs.map aD) S)
theorem El:Ok P w base T.oW 2 qg:=by
 obtain⟨c,e,q⟩:T.oW.F.bx cX;refine{_,(sc (bQ (i:=1) cX.nd<|aM T.gx (ig T) hr<|al 0<|ac di an)<|sc (bQ (i:=2) cX.nd<|cJ<|ac ds<|ac ds<|ac ds<|ac ds<|ac ds<|ac ds<|ac ds<|ac ds an)<|sc (bQ (i:=3) cX.nd<|uG<|bn (cJ<|ac di<|ac di<|ac di<|ac di<|ac di<|ac di<|ac di<|ac di an)<|bd ba (bn (dv 1) di) di)<|sc (bQ (i:=4) cX.nd<|cJ an)<|sc (Ba<|JS (Pr T.gu<|al 3 an) (gn (i:=5) cX.nd)<|sc (se<|bm zR ya yb cK (dv 4)<|ac (bX<|ac (bn (dv 2)<|bd ba (bd bu (bn (dv 1) di)<|bd pU di<|dv 5) di)<|ac (uG<|bn (cJ<|ac ds<|ac ds an)<|bd ba (bn (dv 1) di) di) an) an)<|s1<|sls (dv 1) di<|bd bH (bn (dv 1) di) di)<|s1<|sr<|ct ft T.bh aS<|al 4 an),?_};refine !{c,3,rfl,by decide,λxs lx _ Mb hx wR=>?_};obtain⟨x0,x1,x2,rfl⟩:∃x0 x1 x2,xs=[x0,x1,x2]:=by match xs,Mb with|[a,b,c],_=>exact⟨a,b,c,rfl⟩
 obtain⟨tr,rfl⟩:=Int.eq_ofNat_of_zero_le<|hx x1 (by simp);refine{HM,λln WX=>?_};have IC:((S.set lx<|.lst<|[x0,((tr:Nat):Int),x2].map D.int).set ln<|.lst<|CB.map D.str) lx=some (.lst<|[x0,((tr:Nat):Int),x2].map D.int):=(ae<|gU aa WX).trans aa;have PC:((S.set lx<|.lst<|[x0,((tr:Nat):Int),x2].map D.int).set ln<|.lst<|CB.map D.str) ln=some (.lst<|CB.map D.str):=aa;have s1:=(Sub.new (c:=.lst<|[x0,((tr:Nat):Int),x2].map D.int) wR).trans<|.new (c:=.lst<|CB.map D.str) WX;have nxn:lx≠ln:=gU aa WX;rw[show[D.str "key",.str "a",.str "ab",.str "at",.str "up",.str "mark",.str "b",.str "price"]=CB.map D.str from rfl];generalize (S.set lx<|.lst<|[x0,((tr:Nat):Int),x2].map D.int).set ln (.lst<|CB.map D.str)=S1 at IC PC s1⊢;refine{HM,λp hp=>!{_,_,(Sub.new hp) _ _ IC,rfl,by decide,cH (zL _<|by decide) (zK _<|by decide) hp λd hd=>?_}};obtain⟨m,rfl,hm⟩:∃m:Nat,d=.int m/\m<=8:=by have hd:d∈[D.int 1,.int 2,.int 3,.int 0,.int 2,.int 1,.int 8,.int 3]:=hd;simp only[zm,zM,or_false]at hd;rcases hd with h|h|h|h|h|h|h|h;exact{1,h,by decide};exact{2,h,by decide};exact{3,h,by decide};exact{0,h,by decide};exact{2,h,by decide};exact{1,h,by decide};exact{8,h,by decide};exact{3,h,by decide}
 refine{uS,λlf N6=>?_};have af6:S1 lx≠none:=by rw[IC];nofun
 have nxf:lx≠lf:=gU IC N6;have nnf:ln≠lf:=gU PC N6;have sz:=s1.trans<|Sub.new (c:=.lst []) N6;have acj:S lf=none:=by cases e:S lf with|none=>rfl|some z=>have:=s1 _ _ e;rw[N6]at this;cases this
 refine{λaG S'=>∃(cs:ww)(o6:wn),aG=[some<|.int c,some<|.ref lx,some<|.ref ln,some<|.int (m:Nat),some<|.ref lf,o6]/\Cg cs/\S' lf=some (.lst<|cs.map aD)/\Sub S S',?_,?_};refine !{((m:Nat):Int),rfl,by lia,by lia,?_};refine{Nw S c lx ln lf m tr x0,{[],x2,none,rfl,rfl,λ_ h=>(nomatch h),(ae nxf).trans IC,(ae nnf).trans PC,aa,sz},λ_ _ _ _=>trivial,?_,?_};rintro i d aG S' hd ⟨cs,y2,o6,rfl,hn,hk,hX,hN,hF,hs⟩;have hd:(dM 0 ((m:Nat):Int).toNat)[i]?=some d:=hd;obtain⟨hi,rfl⟩:=cL hd;have Cs:cs.length=i:=by have:=congrArg List.length hn;simpa using this
 have enm:kD (CB.map D.str) ((((tr:Nat):Int)+3*(0+((i:Nat):Int)))%8)=some (.str<|tN tr i):=by rw[show(((tr:Nat):Int)+3*(0+((i:Nat):Int)))%8=(((tr+3*i)%8:Nat):Int) by lia];have eB:(tr+3*i)%8<8:=Nat.mod_lt _ (by decide);refine cE ?_;rw[zh];unfold tN;rw[zw,ze<|show(tr+3*i)%8<CB.length from eB];rfl
 refine{_,rfl,{rfl,_,hF},_,rfl,_,rfl,_,_,hX,rfl,_,rfl,.inl {by decide,by decide},by decide,_,_,hN,enm,bR,λp hp=>!{_,_,(Sub.new hp) _ _ hX,rfl,by decide,cH (zL _<|by decide) (zK _<|by decide) hp λd hd=>?_}};obtain⟨kd,rfl,P4⟩:∃kd:Str,d=.str kd/\(kd ="number"\/kd ="word"):=by have hd:d∈[D.str "number",.str "word"]:=hd;simp only[zm,zM,or_false]at hd;rcases hd with h|h;exact{_,h,.inl rfl};exact{_,h,.inr rfl}
 refine{bR,lf,_,_,rfl,rfl,hF,bg<|by rw[zb];lia,?_};have Em:(S'.set lf<|.lst<|cs.map aD++[.tup [.str<|tN tr i,.str kd]]) lx=some (.lst<|[x0,((tr:Nat):Int),y2].map D.int):=(ae nxf).trans hX;refine !{_,_,Em,rfl,{by decide,by trivial},_,rfl,lx,_,2,2,rfl,rfl,Em,rfl,?_};refine{cs++[(tN tr i,kd)],y2/2,_,rfl,?_,?_,aa,(ae nxn.symm).trans<|(ae nnf).trans hN,?_,λb x hb=>?_};rw[zI,hn,List.range_succ,zI];rfl;intro c hc;rcases zN.mp hc with h|h;exact hk c h;rw[zE.mp h];exact P4;rw[ae nxf.symm,aa,zI];rfl;have hbx:b≠lx:=gU hb wR;rw[ae hbx,ae<|gU hb acj];exact hs b x hb;rintro aG S' ⟨cs,y2,o6,rfl,hn,hk,hX,hN,hF,hs⟩;rw[show({dM 0 ((m:Nat):Int).toNat,λ_=>True}:rm).xs.length=((m:Nat):Int).toNat from cq,show((m:Nat):Int).toNat=m by lia]at hn;have Cs:cs.length=m:=by have:=congrArg List.length hn;simpa using this
 have Uw:∀c∈cs,c.1∈CB:=λc hc=>by have:c.1∈cs.map Prod.fst:=zi.mpr ⟨c,hc,rfl⟩;rw[hn]at this;obtain⟨j,_,e⟩:=zi.mp this;rw[<-e];exact Tr tr j
 have hnd:(cs.map Prod.fst).Nodup:=by rw[hn,zU λj _=>(Ts tr j).symm];exact KQ (tr%8) (Nat.mod_lt _<|by decide) m<|by lia
 exact fo {cs,_,rfl,{{by lia,hnd,λc hc=>{(KP _<|Uw c hc).1,hk c hc}},Uw},hF,hs};rintro aG S' ⟨cs,o6,rfl,hc,hF,hs⟩;exact !{_,_,rfl,.inl hF,S,hs,q cs hc}
noncomputable def wsF(cs:ww)(xs:rp):v0:=(List.range cs.length).map λj=>HV (cs.getD j ("","")).2<|xs.getD j 0
inductive tO(ds:v0)(S:aq)(R:KD)(Z:KX):Prop where
 |mk (cs:ww)(l:Addr)(xs:rp)(h0:ds=[.tup<|cs.map aD,.ref l])(h1:Gd cs)(h2:S l=some (.lst<|xs.map D.int))(h3:cs.length<=xs.length)(h4:∀ws,ws=wsF cs xs->Wg cs ws->R (.tup ws) S)
theorem HW:Ok P w base T.sX 2 tO:=by
 obtain⟨cs,l,xs,e,hg,hl,Mb,q⟩:T.sX.F.bx BD;have h8:=hg.1;refine{_,(s1<|sr<|ct ft T.bh aS<|ac (xk (N:=["_law_k","_law_xs","_law_columns_here"]) (src:=[none,some 1,some 0]) (oj DV) (Pr T.gu<|ac (cb a_ T.aW aI<|al 0 an) an) rn<|aM T.m9 (tM T) hr<|ac (bn (bn (dv 2)<|dv 0) di)<|ac (bn (dv 1)<|dv 0) an) an),?_};refine !!!{by rw[zb];lia,by rw[zb];lia,?_};rw[zb];refine jT (λd v=>∃(j:Nat)(c:Str×Str),d=.int (0+(j:Nat))/\cs[j]?=some c/\Vg c.2 v/\v=HV c.2 (xs.getD j 0)) trivial (by show(dM 0 _).length<=_;rw[cq];lia) (λd hd Q hQ=>?_) λout hp p jh=>?_;obtain⟨j,hj⟩:=yg hd;have hj:(dM 0 ((cs.length:Nat):Int).toNat)[j]?=some d:=hj;obtain⟨hjn,rfl⟩:=cL hj;have hjc:j<cs.length:=by lia
 have ec:=ze hjc;generalize cs[j]=c at ec;have ex:(xs.map D.int)[j]?=some (.int<|xs[j]'(by lia)):=by rw[zh,ze<|show j<xs.length by lia];rfl
 have ed:xs.getD j 0=xs[j]'(by lia):=by rw[zw,ze<|show j<xs.length by lia];rfl
 generalize xs[j]'_=x at ex ed;have ej:(0:Int)+((j:Nat):Int)=((j:Nat):Int):=Int.zero_add _;refine !!{aD c,by rw[ej];exact cE<|by rw[zh,ec];rfl,_,rfl,_,rfl,_,rfl,_,_,hl,by rw[ej];exact cE ex,c.2,x,rfl,λv ev hv=>hQ v {j,c,rfl,ec,hv,by rw[ed];exact ev}};have hlen:=yS hp;have AN:∀(j:Nat)(c:Str×Str)(v:D),cs[j]?=some c->out[j]?=some v->Vg c.2 v/\v=HV c.2 (xs.getD j 0):=by intro j c v ec ev;obtain⟨d,hd,j',c',e1,e2,hv⟩:=dI hp ev;have hd:(dM 0 ((cs.length:Nat):Int).toNat)[j]?=some d:=hd;obtain⟨_,e3⟩:=cL hd;rw[e3]at e1;have e1:(0:Int)+((j:Nat):Int)=0+((j':Nat):Int):=D.int.inj e1;obtain rfl:j=j':=(by lia);rw[ec]at e2;cases e2;exact hv
 rw[show({dM 0 ((cs.length:Nat):Int).toNat,λ_=>True}:rm).xs=dM 0 ((cs.length:Nat):Int).toNat from rfl,cq]at hlen;have hw:Wg cs out:=pB (by lia) λj c v ec ev=>(AN j c v ec ev).1;refine{_,out,rfl,.inl aa,S,.new jh,q out (List.ext_getElem? λj=>?_) hw};unfold wsF;rw[zh];by_cases hj:j<cs.length;have ho:=ze (show j<out.length by lia);have ec:=ze hj;rw[List.getElem?_range hj,ho,(AN j _ _ ec ho).2];have e:cs.getD j ("","")=cs[j]:=by rw[zw,ec];rfl
 show _=some (HV (cs.getD j ("","")).2 _);rw[e];rw[yn<|show out.length<=j by lia,yn<|by rw[yI];lia];rfl
abbrev Kn:=List<|Str×List D
noncomputable def ij(kn:Kn):wf:=kn.map λr=>(Sum.inr r.1,D.tup r.2)
noncomputable def iw(kn:Kn)(z:Str):Option (List D):=(kn.find? λr=>decide<|r.1=z).map (·.2)
structure KI(cs:ww)(kn:Kn):Prop where
 nd:(kn.map (·.1)).Nodup
 ok:∀r∈kn,r.1∈KS/\Wg cs r.2
theorem bK:iw (r::kn) k=if r.1=k then some r.2 else iw kn k:=by unfold iw;rw[yc];by_cases h:r.1=k;rw[zr h,if_pos h];rfl;rw[zo h,if_neg h]
theorem tQ(kn:Kn)(k:Str):bP (ij kn) (.inr k)=(iw kn k).map D.tup:=by induction kn with|nil=>rfl|cons r kn ih=>rw[bK];unfold bP ij at *;rw[zC,yc];by_cases h:r.1=k;have:decide ((Sum.inr r.1:Key)=.inr k)=true:=zr (by rw[h]);dsimp only;rw[this,if_pos h];rfl;have:decide ((Sum.inr r.1:Key)=.inr k)=false:=zo λe=>h<|yL e;dsimp only;rw[this,if_neg h];exact ih
theorem rH(h:iw kn k=some ws):(k,ws)∈kn:=by induction kn with|nil=>(cases h)|cons r kn ih=>rw[bK]at h;by_cases hk:r.1=k;rw[if_pos hk]at h;cases h;rw[<-hk];exact zj;rw[if_neg hk]at h;exact zg _<|ih h
theorem mh(h:k∈kn.map (·.1)):∃ws,iw kn k=some ws:=by induction kn with|nil=>(cases h)|cons r kn ih=>rw[bK];by_cases hk:r.1=k;exact{r.2,if_pos hk};rw[if_neg hk];rw[zC]at h;rcases zm.mp h with e|h;exact absurd e.symm hk;exact ih h
theorem sub_len[DecidableEq α]:∀{l m:List α},l.Nodup->(∀x∈l,x∈m)->l.length<=m.length|[],m,_,_=>zV _|a::l,m,nd,h=>by obtain⟨n1,n2⟩:=yq.mp nd;have h1:=sub_len (m:=m.erase a) n2 λx hx=>(List.mem_erase_of_ne λe=>n1<|by rw[<-e];exact hx).mpr<|h x<|zg _ hx;have h2:=List.length_erase_of_mem<|h a zj;have h3:0<m.length:=List.length_pos_of_mem<|h a zj;rw[zQ];omega
theorem KI.len(h:KI cs kn):kn.length<=60:=by
 have:=sub_len h.nd (m:=KS) λx hx=>by obtain⟨r,hr,rfl⟩:=zi.mp hx;exact(h.ok r hr).1
 rw[zb]at this;exact zO this<|by trivial
noncomputable def nF(kn:Kn)(z:Str)(ws:v0):Kn:=if (iw kn z).isSome then kn.map λr=>if r.1=z then (r.1,ws) else r else kn++[(z,ws)]
noncomputable def uY(kn:Kn)(z:Str):Kn:=kn.filter λr=>decide<|r.1≠z
theorem KR(kn:Kn)(z:Str)(ws:v0):dput (ij kn) (.inr z) (.tup ws)=ij (nF kn z ws):=by
 unfold dput nF;have e:((ij kn).any λkv=>decide<|kv.1=.inr z)=(iw kn z).isSome:=by induction kn with|nil=>rfl|cons r kn ih=>unfold ij at *;rw[zC,yT,ih,bK];by_cases h:r.1=z;rw[if_pos h,zr<|by rw[h],Bool.true_or];rfl;rw[if_neg h,zo λe=>h<|yL e,Bool.false_or]
 rw[e];split;unfold ij;rw[zx,zx];refine zU λr _=>?_;dsimp only[Function.comp];by_cases h:r.1=z;rw[if_pos h,if_pos<|by rw[h]];rw[if_neg h,if_neg λe=>h<|yL e];unfold ij;rw[zI];rfl
theorem Tu(kn:Kn)(z:Str):A2 (ij kn) (.inr z)=ij (uY kn z):=by unfold A2 uY ij;rw[List.filter_map];congr 1;refine List.filter_congr λr _=>?_;dsimp only[Function.comp];rw[yO];exact{λh e=>h<|by rw[e],λh e=>h<|yL e}
theorem N8:iw (nF kn z ws) k=if k=z then some ws else iw kn k:=by
 unfold nF;by_cases hs:(iw kn z).isSome=true;rw[if_pos hs];by_cases hk:k=z;subst hk;rw[if_pos rfl];induction kn with|nil=>(cases hs)|cons r rs ih=>rw[zC,bK];by_cases h:r.1=k;rw[if_pos h,if_pos h];rw[if_neg h,if_neg h];rw[bK,if_neg h]at hs;exact ih hs
 rw[if_neg hk];clear hs;induction kn with|nil=>rfl|cons r rs ih=>rw[zC,bK,bK,ih];by_cases h:r.1=z;rw[if_pos h,if_neg<|show ¬r.1=k from λe=>hk<|e.symm.trans h,if_neg<|show ¬r.1=k from λe=>hk<|e.symm.trans h];rw[if_neg h]
 rw[if_neg hs];have hn:iw kn z=none:=by cases e:iw kn z<;>simp_all
 clear hs;induction kn with|nil=>rw[List.nil_append,bK];by_cases hk:k=z;rw[if_pos hk,if_pos hk.symm];rw[if_neg hk,if_neg λe=>hk e.symm]|cons r rs ih=>rw[bK]at hn;by_cases h:r.1=z;rw[if_pos h]at hn;cases hn;rw[if_neg h]at hn;rw[List.cons_append,bK,bK,ih hn];by_cases h2:r.1=k;rw[if_pos h2,if_pos h2,if_neg<|show ¬k=z from λe=>h<|h2.trans e];rw[if_neg h2,if_neg h2]
theorem N9:iw (uY kn z) k=if k=z then none else iw kn k:=by unfold uY;induction kn with|nil=>(split<;>rfl)|cons r kn ih=>rw[List.filter_cons,bK];by_cases h:r.1=z;rw[if_neg<|by simp[h],ih];by_cases hk:k=z;rw[if_pos hk,if_pos hk];rw[if_neg hk,if_neg hk,if_neg<|show ¬r.1=k from λe=>hk<|e.symm.trans h];rw[if_pos<|by simp[h],bK,ih];by_cases hk:k=z;rw[if_pos hk,if_pos hk,if_neg<|show ¬r.1=k from λe=>h<|e.trans hk];rw[if_neg hk,if_neg hk]
theorem KI.put(h:KI cs kn)(hz:z∈KS)(hw:Wg cs ws):KI cs (nF kn z ws):=by
 unfold nF;split;refine{?_,λr hr=>?_};have:(kn.map λr=>if r.1=z then (r.1,ws) else r).map (·.1)=kn.map (·.1):=by rw[zx];exact zU λr _=>by dsimp only[Function.comp];split<;>rfl
 rw[this];exact h.nd;obtain⟨r0,Av,e⟩:=zi.mp hr;by_cases q:r0.1=z;rw[if_pos q]at e;subst e;exact{(h.ok r0 Av).1,hw};rw[if_neg q]at e;subst e;exact h.ok r0 Av;rename_i hs;refine{?_,λr hr=>?_};rw[zI];refine mG h.nd λm=>hs ?_;obtain⟨Zs,e⟩:=mh m;show(iw kn z).isSome=true;rw[show iw kn z=some Zs from e];rfl;rcases zN.mp hr with hr|hr;exact h.ok r hr;rw[zE.mp hr];exact⟨hz,hw⟩
theorem KI.del(h:KI cs kn)(z:Str):KI cs (uY kn z):={(List.Sublist.map _ List.filter_sublist).nodup h.nd,λr hr=>h.ok r (yD.mp hr).1}
def GD(ks:j4)(cs:ww)(kn:Kn)(d:D):Prop:=(∃z ws,z∈ks/\Wg cs ws/\iw kn z=none/\d=.tup [.str "put",.str z,.tup ws])\/(∃z ws,z∈KS/\Wg cs ws/\(iw kn z).isSome=true/\d=.tup [.str "change",.str z,.tup ws])\/∃z,z∈KS/\(iw kn z).isSome=true/\d=.tup [.str "take",.str z]
def Ly(S:aq)(n:Nat)(d:D):Prop:=∃p,Dp S d p/\p.canLay0=true/\p.depth<=n
theorem Ly.all:∀{ds:v0},(∀d∈ds,Ly S n d)->∃ps:u8,DpAll S ds ps/\PyData.canLayAll0 ps=true/\PyData.depthAll ps<=n/\ps.length=ds.length|[],_=>{[],by simp only[DpAll],rfl,zV _,rfl}|d::ds,h=>by obtain⟨p,h1,h2,h3⟩:=h d zj;obtain⟨ps,k1,k2,k3,k4⟩:=Ly.all λx hx=>h x<|zg _ hx;refine{p::ps,by simp only[DpAll];exact⟨p,ps,rfl,h1,k1⟩,by simp only[PyData.canLayAll0,h2,k2,Bool.and_self],by simp only[PyData.depthAll];lia,by rw[zQ,zQ,k4]}
theorem Ly.tup{S:aq}{n:Nat}{ds:v0}(h:∀d∈ds,Ly S n d):Ly S (n+1) (.tup ds):=by obtain⟨ps,k1,k2,k3,_⟩:=Ly.all h;exact{.tuple ps,by simp only[Dp];exact⟨ps,rfl,k1⟩,by simp only[PyData.canLay0];exact k2,by simp only[PyData.depth];lia}
theorem Ly.str(h:PyData.strOk z=true):Ly S 0 (.str z):={.str z,by simp only[Dp],by simp only[PyData.canLay0];exact h,by simp only[PyData.depth];lia}
theorem Ly.le(h:Ly S n d)(l:n<=m):Ly S m d:=by obtain⟨p,a,b,c⟩:=h;exact{p,a,b,zO c l}
theorem Ly.av:Ly S 0 .av:={.none,by simp only[Dp],by simp only[PyData.canLay0],by simp only[PyData.depth];lia}
theorem Ly.plain(h:dF d=true):Ly S 0 d:=by cases d with|av=>exact Ly.av|int i=>exact{.int i,by simp only[Dp],by simp only[PyData.canLay0],by simp only[PyData.depth];lia}|str z=>have h:(decide (z.cps.size<=40)&&PyData.strOk z)=true:=h;rw[zH]at h;exact Ly.str h.2|_=>cases h
theorem Ly.lst{S:aq}{n:Nat}{a:Addr}{ds:v0}(e:S a=some (.lst ds))(h:∀d∈ds,Ly S n d):∃p,Dl S (.ref a) p/\p.canLay0=true/\p.depth<=n+1/\∀b,S b=some (.lst ds)->Dl S (.ref b) p:=by obtain⟨ps,k1,k2,k3,_⟩:=Ly.all h;exact{.list ps,⟨ds,ps,e,rfl,k1⟩,by simp only[PyData.canLay0];exact k2,by simp only[PyData.depth];lia,λb hb=>⟨ds,ps,hb,rfl,k1⟩}
theorem nG{S:aq}{a b:Addr}{ds:v0}{R:KD}{neg:Bool}(e1:S a=some (.lst ds))(e2:S b=some (.lst ds))(h:∀d∈ds,Ly S 60 d)(q:R (.bl<|!neg) S):Iz neg (.ref a) (.ref b) S R:=by
 obtain⟨p,k1,k2,k3,k4⟩:=Ly.lst e1 h;have e:(if neg then !PyData.eqv p p else PyData.eqv p p)=!neg:=by rw[SeqAt.eqv_refl p k2];cases neg<;>rfl
 exact{p,p,k1,k4 b e2,k2,k2,.inl<|by lia,by rw[e];exact q}
theorem KY(ps:u8):PyData.eqv (.list ps) (.list [])=ps.isEmpty:=by cases ps<;>simp[PyData.eqv,PyData.eqvAll]
theorem KZ(ps:u8):PyData.eqv (.tuple ps) (.tuple [])=ps.isEmpty:=by cases ps<;>simp[PyData.eqv,PyData.eqvAll]
theorem N_{S:aq}{ds:v0}{R:KD}(h:∀d∈ds,Ly S 60 d)(q:R (.bl ds.isEmpty) S):Iz false (.tup ds) (.tup []) S R:=by obtain⟨ps,k1,k2,k3,k4⟩:=Ly.all h;refine{.tuple ps,.tuple [],by simp only[Dl,Dp];exact⟨ps,rfl,k1⟩,by simp only[Dl,Dp];exact{[],rfl,by simp only[DpAll]},by simp only[PyData.canLay0];exact k2,by simp only[PyData.canLay0,PyData.canLayAll0],.inl<|by simp only[PyData.depth];lia,?_};rw[if_neg zd,KZ,show ps.isEmpty=ds.isEmpty by cases ps<;>cases ds<;>first|rfl|cases k4];exact q
theorem Wg.all(h:Wg cs ws):∀d∈ws,dF d=true:=by unfold Wg at h;induction h with|nil=>exact λ_ h=>(nomatch h)|cons r t ih=>intro d hd;rcases zm.mp hd with e|hd;rw[e];exact r.2;exact ih d hd
theorem Wg.ly{cs:ww}{ws:v0}(h:Wg cs ws){S:aq} : Ly S 1 (.tup ws):=Ly.tup λd hd=>Ly.plain<|h.all d hd
def Mo(sp:rj):rj:=λds S R Z=>∃R0 Z0,sp ds S R0 Z0/\(∀d S',R0 d S'->R d S')/\∀C S',Z0 C S'->Z C S'
theorem Tv(F:bG P w K mg base (fG P w mg) k f fd ps<|rl K sp):bG P w K mg base (fG P w mg) k f fd ps (rl K<|Mo sp):=F.imp <| by rintro vs H Q E ⟨ds,S,R,Z,v,hS,⟨R0,Z0,h,h1,h2⟩,hR,hZ⟩;exact{ds,S,R0,Z0,v,hS,h,λd S' u H' r=>hR d S' u H'<|h1 _ _ r,λC S' H' z=>hZ C S' H'<|h2 _ _ z}
abbrev P5:=jZ
abbrev BI:=fT
abbrev K0:=iR
def KnD(kn:Kn)(d:D)(jl:Kn):Prop:=(∃(n:Str) (z:Str) (ws:v0),(n ="put"\/n ="change")/\d=.tup [.str n,.str z,.tup ws]/\jl=nF kn z ws)\/∃z,(iw kn z).isSome=true/\d=.tup [.str "take",.str z]/\jl=uY kn z
inductive En(t:dY)(ds:v0)(S:aq)(R:KD)(Z:KX):Prop where
 |mk (a fs)(h0:S a=some (.ins t.ao fs))(h1:fs.map Prod.fst=(["columns","deeds","runs"]:j4))(h2:((∃k v,ds=[.ref a,.tup [.str "put",k,v]]/\P5 t [.ref a,k,v] S R Z)\/(∃k v,ds=[.ref a,.tup [.str "change",k,v]]/\BI t [.ref a,k,v] S R Z)\/∃k,ds=[.ref a,.tup [.str "take",k]]/\K0 t [.ref a,k] S R Z))
theorem lk0:∀{fs:wl},m∉fs.map Prod.fst->fs.lookup m=none|[],_=>rfl| (a,b)::fs,h=>by rw[zC,zm]at h;rw[zW,show(m==a)=false from beq_false_of_ne λe=>h<|.inl e];exact lk0 λq=>h<|.inr q
theorem lk3{fs:wl}(h:fs.map Prod.fst=(["columns","deeds","runs"]:j4)){m:Str}(hm:m∉(["columns","deeds","runs"]:j4)):fs.lookup m=none:=lk0<|by rw[h];exact hm
def P6(t:dY):rj:=λds S R Z=>En t ds S (λ_=>R .av) Z
theorem FR:Ok P w base T.l8 7 (P6 t):=by have j0:oJ P w mg base T.fC 6 (Mo<|P5 t):=Tv<|SU T;have fU:oJ P w mg base T.cW 6 (Mo<|BI t):=Tv<|HU T;have iT:oJ P w mg base T.eI 6 (Mo<|K0 t):=Tv<|N2 T;refine T.l8.F.ok HH (λds S R Z ⟨_,_,_,_,h⟩=>by rcases h with⟨_,_,e,_⟩|⟨_,_,e,_⟩|⟨_,e,_⟩<;>rw[e]<;>rfl) λgT A outer s H E ds S R Z hr ⟨a,fs,ha,hf,h⟩=>?_;rcases h with⟨k,v,e,h⟩|⟨k,v,e,h⟩|⟨k,e,h⟩;subst e;refine{_,(s1<|si (bp bf hr.u (ix hr.u (dv 1) di) ds) (s1<|se<|oi (dv 0) T.aj T.fC j0 hr<|ac (ix hr.u (dv 1) di)<|ac (ix hr.u (dv 1) di) an)<|s1<|si (bp bf hr.u (ix hr.u (dv 1) di) ds) (s1<|se<|oi (dv 0) T.aj T.cW fU hr<|ac (ix hr.u (dv 1) di)<|ac (ix hr.u (dv 1) di) an)<|s1<|se<|oi (dv 0) T.aj T.eI iT hr<|ac (ix hr.u (dv 1) di) an),?_};refine !!!⟨?_⟩;refine ck (λ_=>?_) λh=>absurd h (by decide);exact !{a,_,rfl,ha,lk3 hf<|by decide,_,rfl,_,rfl,_,rfl,_,rfl,_,Z,h,λd S' r=>fo r,λC S' z=>fo z};subst e;refine{_,(s1<|si (bp bf hr.u (ix hr.u (dv 1) di) ds) (s1<|se<|oi (dv 0) T.aj T.fC j0 hr<|ac (ix hr.u (dv 1) di)<|ac (ix hr.u (dv 1) di) an)<|s1<|si (bp bf hr.u (ix hr.u (dv 1) di) ds) (s1<|se<|oi (dv 0) T.aj T.cW fU hr<|ac (ix hr.u (dv 1) di)<|ac (ix hr.u (dv 1) di) an)<|s1<|se<|oi (dv 0) T.aj T.eI iT hr<|ac (ix hr.u (dv 1) di) an),?_};refine !!!⟨?_⟩;refine ck (λh=>absurd h<|by decide) λ_=>?_;refine !!!⟨?_⟩;refine ck (λ_=>?_) λh=>absurd h (by decide);exact !{a,_,rfl,ha,lk3 hf<|by decide,_,rfl,_,rfl,_,rfl,_,rfl,_,Z,h,λd S' r=>fo r,λC S' z=>fo z};subst e;refine{_,(s1<|si (bp bf hr.u (ix hr.u (dv 1) di) ds) (s1<|se<|oi (dv 0) T.aj T.fC j0 hr<|ac (ix hr.u (dv 1) di)<|ac (ix hr.u (dv 1) di) an)<|s1<|si (bp bf hr.u (ix hr.u (dv 1) di) ds) (s1<|se<|oi (dv 0) T.aj T.cW fU hr<|ac (ix hr.u (dv 1) di)<|ac (ix hr.u (dv 1) di) an)<|s1<|se<|oi (dv 0) T.aj T.eI iT hr<|ac (ix hr.u (dv 1) di) an),?_};refine !!!⟨?_⟩;refine ck (λh=>absurd h<|by decide) λ_=>?_;refine !!!⟨?_⟩;refine ck (λh=>absurd h<|by decide) λ_=>?_;exact !{a,_,rfl,ha,lk3 hf<|by decide,_,rfl,_,rfl,_,Z,h,λd S' r=>fo r,λC S' z=>fo z}
noncomputable def p3(p:Str×Str×Str):D:=.tup [.str p.1,.str p.2.1,.str p.2.2]
noncomputable def mi(z:Str):Bool:=decide (z ="up")||decide (z ="down")
noncomputable def x8(z:Str):Bool:=decide (z ="first")||decide (z ="last")
theorem K1(z a b:Str)(x y:V):(([(a,x),(b,y)]:ge).lookup z).isSome=(decide (z=a)||decide (z=b)):=by rw[zW,zW];by_cases h:z=a;rw[show(z==a)=true by simp[h],zr h];rfl;rw[show(z==a)=false by simp[h],zo h];by_cases h2:z=b;rw[show(z==b)=true by simp[h2],zr h2];rfl;rw[show(z==b)=false by simp[h2],zo h2];rfl
noncomputable def fq(cs:ww)(p:Str×Str×Str):Bool:=decide (p.1∈cs.map Prod.fst)&&(mi p.2.1&&x8 p.2.2)
noncomputable def x9(cs:ww)(ps:List<|Str×Str×Str)(wy:Str):Bool:=decide (ps.length<=8)&&(ps.all (fq cs)&&(decide ((ps.map Prod.fst).Nodup)&&mi wy))
theorem nH(l:wl)(z:Str)(h:bP (fI l) (.inr z)=some d):∃p∈l,p.1=z/\d=p.2:=by
 have all:∀(l:wl)(c:wf),bP (l.foldl (λc p=>dput c (.inr p.1) p.2) c) (.inr z)=some d->(∃p∈l,p.1=z/\d=p.2)\/bP c (.inr z)=some d:=by intro l;induction l with|nil=>intro c h;exact .inr h|cons p l ih=>intro c h;rcases ih _ h with⟨q,hq,e⟩|h;exact .inl {q,zg _ hq,e};rw[Bb]at h;by_cases e:(.inr z:Key)=.inr p.1;rw[if_pos e]at h;exact .inl {p,zj,(yL e).symm,(zT h).symm};rw[if_neg e]at h;exact .inr h
 rcases all l [] h with h|h;exact h;cases h
def Pok(p:Str×Str×Str):Prop:=p.1.cps.size<=1000/\p.2.1.cps.size<=1000/\p.2.2.cps.size<=1000
inductive BJ(ds:v0)(S:aq)(R:KD)(Z:KX):Prop where
 |mk (z)(h0:ds=[.str z])(h1:R (.bl<|mi z) S)
theorem wa:Ok P w base T.xw 1 BJ:=by obtain⟨z,e,q⟩:T.xw.F.bx HF;refine{_,(s1<|sr<|uF (cb cZ T.aA au<|al 0<|ac (ui T.pX jv) an)<|L8<|cmk T.jH (dv 0)<|dg (v:=.ref t.jC) T.iC rfl λ_=>gH _),?_};refine !{_,_,_,_,rfl,cS,rfl,_,rfl,ee !{z,rfl,rfl,?_}};rw[K1];exact fo q
inductive BK(ds:v0)(S:aq)(R:KD)(Z:KX):Prop where
 |mk (z)(h0:ds=[.str z])(h1:R (.bl<|x8 z) S)
theorem HX:Ok P w base T.D1 1 BK:=by obtain⟨z,e,q⟩:T.D1.F.bx HG;refine{_,(s1<|sr<|uF (cb cZ T.aA au<|al 0<|ac (ui T.pX jv) an)<|L8<|cmk T.pW (dv 0)<|dg (v:=.ref t.jD) T.mZ rfl λ_=>gH _),?_};refine !{_,_,_,_,rfl,cS,rfl,_,rfl,ee !{z,rfl,rfl,?_}};rw[K1];exact fo q
inductive nI(ds:v0)(S:aq)(R:KD)(Z:KX):Prop where
 |mk (cs z)(h0:ds=[.tup<|cs.map aD,.str z])(h1:Gd cs)(h2:z.cps.size<=1000)(h3:(∀k,(z,k)∈cs->R (.str k) S))(h4:(z∉cs.map Prod.fst->R .av S))
theorem gQ:Ok P w base T.eF 3 nI:=by
 obtain⟨cs,z,e,hg,hz,q1,q2⟩:T.eF.F.bx uK;refine{_,(sc (si (cB<|tv<|aM T.rD (tH T) hr<|al 1 an) (s1<|sr dn) s0)<|s1<|sr<|bv (ct JW T.Ku Fc<|al 0 an)<|dv 1),?_};refine !{.str z,rfl,gt_str hz,_,rfl,?_};refine ck (λh=>?_) λh=>?_;have h:lg z=false:=nt h;refine fo<|q2 λm=>?_;obtain⟨c,hc,rfl⟩:=zi.mp m;rw[(hg.2.2 c hc).1]at h;cases h;have ek:cs.map aD=(cs.map λc=>(c.1,D.str c.2)).map Fn:=by rw[zx];rfl
 refine !{(cs.map λc=>(c.1,D.str c.2)),by rw[ek],λp hp=>{p,_,rfl,aa,_,rfl,_,.inr z,aa,rfl,S,.new hp,?_}};have h1:=vN (cs.map λc=>(c.1,D.str c.2)) z;cases q3:bP (fI<|cs.map λc=>(c.1,D.str c.2)) (.inr z) with|none=>(rw[q3]at h1;refine q2 λm=>?_;obtain⟨c,hc,e⟩:=zi.mp m;have:(cs.map λc=>(c.1,D.str c.2)).any (λp=>decide<|p.1=z)=true:=List.any_eq_true.mpr {_,zi.mpr ⟨c,hc,rfl⟩,zr e};rw[this]at h1;cases h1)|some d=>obtain⟨p,hp,e1,rfl⟩:=nH _ _ q3;obtain⟨c,hc,rfl⟩:=zi.mp hp;have e1:c.1=z:=e1;exact q1 c.2<|by rw[<-e1];exact hc
inductive wb(ds:v0)(S:aq)(R:KD)(Z:KX):Prop where
 |mk (cs p)(h0:ds=[.tup<|cs.map aD,p3 p])(h1:Gd cs)(h2:Pok p)(h3:R (.bl<|fq cs p) S)
theorem Eo:Ok P w base T.xy 4 wb:=by
 have x_:Ok P w base T.eF 3 (λds S R _=>∃cs z,ds=[.tup<|cs.map aD,.str z]/\Gd cs/\z.cps.size<=1000/\∀d,ah d=!decide (z∈cs.map Prod.fst)->R d S):=(gQ T).Nx <| by rintro ds S R Z ⟨cs,z,e,hg,hz,q⟩;exact{cs,z,e,hg,hz,λk hk=>q _<|by rw[zr<|zi.mpr {_,hk,rfl}];rfl,λhn=>q _<|by rw[zo hn];rfl}
 obtain⟨cs,p,e,hg,hp,q⟩:T.xy.F.bx D_;refine{_,(sc (si (twd<|twor (cB<|tv<|cb cZ T.aA au<|al 1<|ac (ui T.bh aS) an)<|tw1<|bi lR (cb a_ T.aW aI<|al 1 an) di) (s1<|sr db) s0)<|s1<|sr<|uF (be lQ (aM T.eF x_ hr<|al 0<|ac (bn (dv 1) di) an) dn)<|uF (aM T.xw (wa T) hr<|ac (bn (dv 1) di) an)<|L8<|aM T.D1 (HX T) hr<|ac (bn (dv 1) di) an),?_};refine !{_,_,_,_,rfl,aV,rfl,_,rfl,aY !!!⟨aY ?_⟩};refine !!!{cs,p.1,rfl,hg,hp.1,λd hd=>!⟨?_⟩};unfold fq at q;refine ck (λh=>?_) λh=>?_;have h:(!ah d)=true:=h;rw[hd,Bool.not_not]at h;rw[h,ye]at q;refine !!{p.2.1,rfl,_,rfl,?_};refine ck (λh2=>?_) λh2=>?_;rw[h2,ye]at q;exact !!{p.2.2,rfl,fo q};rw[h2,zY]at q;exact fo q;have h:(!ah d)=false:=h;rw[hd,Bool.not_not]at h;rw[h,zY]at q;exact fo q
inductive lq(t:dY)(ds:v0)(S:aq)(R:KD)(Z:KX):Prop where
 |mk (cs ps wy)(h0:ds=[.tup<|cs.map aD,.tup [.tup<|ps.map p3,.str wy]])(h1:Gd cs)(h2:(∀p∈ps,Pok p))(h3:(x9 cs ps wy=true->R .av S))(h4:(x9 cs ps wy=false->Z t.lW S))
theorem fV:Ok P w base T.eU 5 (lq t):=by
 obtain⟨cs,ps,wy,e,hg,hp,q1,q2⟩:T.eU.F.bx fR;have Tw:(ps.map p3).length=ps.length:=zb _;refine{_,(sc (si (twd<|twor (cB<|tv<|cb cZ T.aA au<|al 1<|ac (ui T.bh aS) an)<|tw1<|bi lR (cb a_ T.aW aI<|al 1 an) di) (s1<|sF ⟨T.dA⟩ T.eS<|ac ds an) s0)<|sc (bQ (i:=2) fR.nd<|bn (dv 1) di)<|sc (si (twd<|twor (cB<|tv<|cb cZ T.aA au<|al 2<|ac (ui T.bh aS) an)<|tw1<|bi qG (cb a_ T.aW aI<|al 2 an)<|dg (v:=.int 8) T.jF {_,rfl} λ_=>aP _) (s1<|sF ⟨T.dA⟩ T.eS<|ac ds an) s0)<|sc (si (cB<|tv<|cb kX T.k7 gG<|ac (xk (N:=["part","columns"]) (src:=[none,some 0]) (oj kY) (JR<|dv 2) rn<|aM T.xy (Eo T) hr<|al 1<|al 0 an) an) (s1<|sF ⟨T.dA⟩ T.eS<|ac ds an) s0)<|sc (xl (N:=["part"]) (src:=[none]) 3 fR.nd (oj kY) (JR<|dv 2) rn<|bn (dv 0) di)<|sc (si (bi lR (lse (dv 3) T.aW T.PR)<|cb a_ T.aW aI<|al 3 an) (s1<|sF ⟨T.dA⟩ T.eS<|ac ds an) s0)<|s1<|si (cB<|tv<|aM T.xw (wa T) hr<|ac (bn (dv 1) di) an) (s1<|sF ⟨T.dA⟩ T.eS<|ac ds an) s0),?_};refine !{_,_,_,_,rfl,aV,rfl,_,rfl,aY !!!⟨aY ?_⟩};refine !!!{_,_,_,_,rfl,aV,rfl,_,rfl,aY !!!⟨?_⟩};refine ck (λh=>?_) λh=>?_;have h:(8:Int)<(((ps.map p3).length:Nat):Int):=zy h;rw[Tw]at h;exact{uT,fo<|q2<|by unfold x9;rw[zo<|by omega];rfl};have h:¬(8:Int)<(((ps.map p3).length:Nat):Int):=z0 h;rw[Tw]at h;have h8:ps.length<=8:=by omega
 unfold x9 at q1 q2;rw[zr h8,ye]at q1 q2;refine !{_,.inl rfl,?_};refine jT (λd v=>∃p,d=p3 p/\v=.bl (fq cs p)) trivial (by show(ps.map p3).length<=_;omega) (λd hd Q hQ=>?_) λout ho p jh=>?_;obtain⟨p,hpm,rfl⟩:=zi.mp hd;exact !!{cs,p,rfl,hg,hp p hpm,hQ _ ⟨p,rfl,rfl⟩};have eo:out=(ps.map<|fq cs).map D.bl:=by have:∀{ps:List (Str×Str×Str)}{out:v0},Paired (λd v=>∃p,d=p3 p/\v=.bl (fq cs p)) (ps.map p3) out->out=(ps.map<|fq cs).map D.bl:=(by intro ps;induction ps with|nil=>(intro out h;cases h;rfl)|cons x ps ih=>intro out h;cases h with|cons r t=>obtain⟨p,e1,e2⟩:=r;have:x=p:=(by obtain⟨a,b,c⟩:=x;obtain⟨a',b',c'⟩:=p;unfold p3 at e1;injection e1 with e1;injection e1 with h1 e1;injection e1 with h2 e1;injection e1 with h3 _;injection h1 with h1;injection h2 with h2;injection h3 with h3;rw[show a=a' from h1,show b=b' from h2,show c=c' from h3]);rw[e2,ih t,<-this];rfl);exact this ho
 subst eo;refine{.ref p,ps.map<|fq cs,rfl,aa,_,rfl,?_};rw[show(ps.map<|fq cs).all id=ps.all (fq cs) from all_map];refine ck (λha=>?_) λha=>?_;have ha:=nt ha;exact{uT,S,.new jh,q2<|by rw[ha];rfl};have ha:=nf ha;rw[ha,ye]at q1 q2;refine !{_,.inl rfl,?_};refine comp_map (λd=>match d with|.tup (x::_)=>x|_=>.av) trivial (by show(ps.map p3).length<=_;omega) (λd hd Q hQ=>?_) λp2 gD=>?_;obtain⟨p,hpm,rfl⟩:=zi.mp hd;exact !!⟨hQ⟩;have e3:(ps.map p3).map (λd=>match d with|.tup (x::_)=>x|_=>.av)=(ps.map Prod.fst).map D.str:=by rw[zx,zx];rfl
 rw[show({ps.map p3,λ_=>True}:rm).xs=ps.map p3 from rfl,e3];have sb:Sub S ((S.set p<|.lst<|(ps.map<|fq cs).map D.bl).set p2<|.lst<|(ps.map Prod.fst).map D.str):=(Sub.new jh).trans<|.new gD;have XH:((S.set p<|.lst<|(ps.map<|fq cs).map D.bl).set p2<|.lst<|(ps.map Prod.fst).map D.str) p2=some (.lst<|(ps.map Prod.fst).map D.str):=aa;generalize (S.set p<|.lst<|(ps.map<|fq cs).map D.bl).set p2 (.lst<|(ps.map Prod.fst).map D.str)=S2 at sb XH⊢;refine !{ps.map Prod.fst,XH,by rw[zb];omega,_,rfl,_,rfl,.inl {_,XH,_,rfl,?_}};have e4:decide ((((iX<|ps.map Prod.fst).length:Nat):Int)=((((ps.map Prod.fst).map D.str).length:Nat):Int))=decide ((ps.map Prod.fst).Nodup):=by rw[yO,<-vH,zb];omega
 refine ck (λhn=>?_) λhn=>?_;have hn:(!decide ((((iX<|ps.map Prod.fst).length:Nat):Int)=((((ps.map Prod.fst).map D.str).length:Nat):Int)))=true:=hn;rw[e4]at hn;exact{uT,S,sb,q2<|by rw[nt hn];rfl};have hn:(!decide ((((iX<|ps.map Prod.fst).length:Nat):Int)=((((ps.map Prod.fst).map D.str).length:Nat):Int)))=false:=hn;rw[e4]at hn;rw[nf hn,ye]at q1 q2;refine !!{wy,rfl,_,rfl,?_};refine ck (λhw=>?_) λhw=>?_;exact{uT,S,sb,q2<|nt hw};exact{S,sb,q1<|nf hw}
def yZ(o:Str)(c:Str×Str)(v:D):Prop:=o ="is"\/(v≠.av/\(o ="below"\/o ="above"\/(o ="begins"/\c.2 ="word")))
def Lf(cs:ww)(d:D):Prop:=d=.tup [.str "every"]\/(∃ks:j4,d=.tup [.str "key",.tup<|ks.map .str]/\ks.length<=8/\∀k∈ks,k∈KS)\/∃(o:Str) (c:Str×Str) (v:D),c∈cs/\Vg c.2 v/\yZ o c v/\d=.tup [.str o,.str c.1,v]
def Sg(cs:ww):Nat->D->Prop|0,_=>False|n+1,d=>Lf cs d\/(∃e,d=.tup [.str "not",e]/\Sg cs n e)\/∃(o:Str) (ds:v0),(o ="and"\/o ="or")/\d=.tup [.str o,.tup ds]/\ds.length<=8/\∀e∈ds,Sg cs n e
theorem P7(h:Vg k v):Gt S v:=by have h:=h.2;cases v with|av=>(exact{{_,rfl},λz e=>by cases e})|int i=>(exact{{_,rfl},λz e=>by cases e})|str z=>unfold dF at h;simp only[zH,zZ]at h;exact gt_str (by lia)|_=>cases h
noncomputable def nJ:D->List D|.tup [.str o,.tup ds]=>(if o ="not" then[.tup ds] else if o ="and"\/o ="or" then ds else[])|.tup [.str o,e]=>(if o ="not" then[e] else[])|_=>[]
noncomputable def qh:Nat->D->Nat|0,_=>0|n+1,d=>((nJ d).map<|qh n).sum+1
theorem y0(e:D):nJ (.tup [.str "not",e])=[e]:=by cases e<;>rfl
theorem y1{o:Str}(h:o ="and"\/o ="or")(ds:v0):nJ (.tup [.str o,.tup ds])=ds:=by rcases h with rfl|rfl<;>rfl
def Sq(cs:ww)(d:D):Prop:=Sg cs 7 d/\qh 7 d<=200
inductive ik(ds:v0)(S:aq)(R:KD)(Z:KX):Prop where
 |mk (es)(h0:ds=[.tup es])(h1:es.length<=8)(h2:R (.bl true) S)
theorem qj:Ok P w base T.dR 1 ik:=by obtain⟨es,e,hl,q⟩:T.dR.F.bx ng;refine{_,(s1<|sr<|uF (cb cZ T.aA au<|al 0<|ac (ui T.bh aS) an)<|L8<|be jx (cb a_ T.aW aI<|al 0 an)<|dg (v:=.int 8) T.lZ {_,rfl} λ_=>aP _),?_};refine !{_,_,_,_,rfl,aV,rfl,_,rfl,ee !!⟨?_⟩};have e1:decide (((es.length:Nat):Int)<=8)=true:=zr (by lia);show Fo S (R<|.bl<|decide<|((es.length:Nat):Int)<=8);rw[e1];exact fo q
inductive gR(ds:v0)(S:aq)(R:KD)(Z:KX):Prop where
 |mk (cs o c v)(h0:ds=[.tup<|cs.map aD,.tup [.str o,.str c.1,v]])(h1:Gd cs)(h2:c∈cs)(h3:Vg c.2 v)(h4:yZ o c v)(h5:R (.bl true) S)
theorem tR:Ok P w base T.jM 4 gR:=by
 obtain⟨cs,o,c,v,e,hg,hc,hv,ho,q⟩:T.jM.F.bx jP;have hn:∀k,(c.1,k)∈cs->k=c.2:=λk hk=>by have:=gz hg.2.1 hk hc rfl;rw[<-this]
 refine{_,(sc (bQ (i:=2) jP.nd<|aM T.eF (gQ T) hr<|al 0<|ac (bn (dv 1) di) an)<|sc (si (twd<|twor (bi kF (dv 2) dn)<|tw1<|cB<|tv<|aM T.jJ (jV T) hr<|al 2<|ac (bn (dv 1) di) an) (s1<|sr db) s0)<|sc (si (bi bf (bn (dv 1) di) ds) (s1<|sr db) s0)<|sc (si (twd<|twand (bi bf (bn (dv 1) di) ds)<|tw1<|bi lR (dv 2) ds) (s1<|sr db) s0)<|s1<|sr<|be lQ (bn (dv 1) di) dn),?_};refine !!!{cs,c.1,rfl,hg,pj (hg.2.2 c hc).1,λk hk=>?_,λhk=>absurd (zi.mpr ⟨c,hc,rfl⟩) hk};cases hn k hk;refine !!⟨aY !!!{c.2,v,rfl,P7 hv,_,rfl,?_}⟩;rw[hv.1];refine aY !!!⟨?_⟩;rcases ho with rfl|⟨hvn,ho⟩;exact mR<|fo q;have PD:ah v=false:=by cases v<;>first|rfl|exact absurd rfl hvn
 have e9:(!ah v)=true:=by rw[PD];rfl
 have fin:Fo S (R<|.bl<|!ah v):=by rw[e9];exact fo q
 rcases ho with rfl|rfl|⟨rfl,hw⟩;refine cu !!!⟨cu !!⟨fin⟩⟩;refine cu !!!⟨cu !!⟨fin⟩⟩;refine cu !!!⟨mR !!⟨?_⟩⟩;rw[hw];exact cu !!⟨fin⟩
theorem Oa(h:z∈KS):z.cps.size<=1000:=zO (gO z h).2.1<|by decide
inductive qk(ds:v0)(S:aq)(R:KD)(Z:KX):Prop where
 |mk (cs n d)(h0:ds=[.tup<|cs.map aD,d])(h1:Gd cs)(h2:Sg cs n d)(h3:R (.bl true) S)
theorem y3:Ok P w base T.oV 5 qk:=by
 obtain⟨cs,n,d,e,hg,hs,q⟩:T.oV.F.bx xN;refine{_,(sc (si (twd<|twor (cB<|tv<|cb cZ T.aA au<|al 1<|ac (ui T.bh aS) an)<|twor (bi bf (cb a_ T.aW aI<|al 1 an) di)<|tw1<|cB<|tv<|cb cZ T.aA au<|ac (bn (dv 1) di)<|ac (ui T.pX jv) an) (s1<|sr db) s0)<|sc (si (bi lR (mgk T.HC (by decide) (gK T.DY)<|bn (dv 1) di)<|cb a_ T.aW aI<|al 1 an) (s1<|sr db) s0)<|sc (si (bi Dz (bn (dv 1) di)<|bX<|ac ds<|ac ds<|ac ds<|ac ds an) (s1<|sr<|aM T.jM (tR T) hr<|al 0<|al 1 an) s0)<|sc (si (bi bf (bn (dv 1) di) ds) (s1<|sr<|uF (aM T.dR (qj T) hr<|ac (bn (dv 1) di) an)<|L8<|cb kX T.k7 gG<|ac (xk (N:=["key"]) (src:=[none]) (oj Bn) (JR<|bn (dv 1) di) rn<|aM T.l5 (ia T) hr<|al 0 an) an) s0)<|sc (si (bi Dz (bn (dv 1) di)<|bX<|ac ds<|ac ds an) (s1<|sr<|aM T.dR (qj T) hr<|ac (bn (dv 1) di) an) s0)<|s1<|sr db),?_};cases n with|zero=>exact hs.elim|succ n =>
 rcases hs with (rfl|⟨ks,rfl,hk8,DL⟩|⟨o,c,v,hc,hv,ho,rfl⟩)|⟨e,rfl,he⟩|⟨o,es,ho,rfl,Ob,_⟩;refine !{_,_,_,_,rfl,aV,rfl,_,rfl,aY !!!⟨pA rfl !!{_,_,_,_,rfl,cS,rfl,_,rfl,aY ?_}⟩};refine !!!!!!⟨pA rfl ?_⟩;exact !!{uU,rfl,rfl,_,rfl,cu !!!⟨cu !!{bR,rfl,rfl,_,rfl,cu<|fo q}⟩};refine !{_,_,_,_,rfl,aV,rfl,_,rfl,aY !!!⟨pA rfl !!{_,_,_,_,rfl,cS,rfl,_,rfl,aY ?_}⟩};refine !!!!!!⟨pA rfl ?_⟩;refine !!{uU,rfl,rfl,_,rfl,cu !!!⟨mR ?_⟩};refine !!!{by rw[zb];exact hk8,_,rfl,ee !!{_,.inl rfl,?_}};refine comp_map (λ_=>.bl true) trivial (by show(ks.map D.str).length<=1000;rw[zb];lia) (λd hd Q hQ=>?_) λp hp=>?_;obtain⟨k,hk,rfl⟩:=zi.mp hd;refine !{.str k,rfl,gt_str<|Oa<|DL k hk,?_};show Q (.bl<|kM k) S;rw[(gO k<|DL k hk).1];exact hQ;have e2:(ks.map D.str).map (λ_=>D.bl true)=(ks.map λ_=>true).map D.bl:=by rw[zx,zx];rfl
 have e3:(ks.map λ_=>true).all id=true:=by rw[all_map];exact zX.mpr λ_ _=>rfl
 refine{.ref p,ks.map λ_=>true,rfl,?_,S,.new hp,?_};show(S.set p<|.lst<|(ks.map D.str).map _) p=_;rw[aa,e2];rw[e3];exact q;have h4:o ="is"\/o ="below"\/o ="above"\/o ="begins":=by rcases ho with h|⟨_,h|h|⟨h,_⟩⟩;exact .inl h;exact .inr<|.inl h;exact .inr<|.inr<|.inl h;exact .inr<|.inr<|.inr h
 refine !{_,_,_,_,rfl,aV,rfl,_,rfl,aY !!!⟨pA rfl !!{_,_,_,_,rfl,cS,rfl,_,rfl,aY ?_}⟩};have fin:∀Zq:KX,gR [D.tup<|cs.map aD,.tup [.str o,.str c.1,v]] S (λd S'=>Fo S'<|R d) Zq:=λ_=>{cs,o,c,v,rfl,hg,hc,hv,ho,fo q};rcases h4 with rfl|rfl|rfl|rfl;exact !!!!!!⟨pA rfl !!{uU,rfl,rfl,_,rfl,mR !!⟨(fin _)⟩}⟩;exact !!!!!!⟨pA rfl !!{uU,rfl,rfl,_,rfl,mR !!⟨(fin _)⟩}⟩;exact !!!!!!⟨pA rfl !!{uU,rfl,rfl,_,rfl,mR !!⟨(fin _)⟩}⟩;exact !!!!!!⟨pA rfl !!{uU,rfl,rfl,_,rfl,mR !!⟨(fin _)⟩}⟩;refine !{_,_,_,_,rfl,aV,rfl,_,rfl,aY !!!⟨pA rfl !!{_,_,_,_,rfl,cS,rfl,_,rfl,aY ?_}⟩};refine !!!!!!⟨pA rfl ?_⟩;exact !!{uU,rfl,rfl,_,rfl,cu !!!⟨cu !!{bR,rfl,rfl,_,rfl,cu<|fo q}⟩};have h8:es.length<=8:=by lia
 rcases ho with rfl|rfl;refine !{_,_,_,_,rfl,aV,rfl,_,rfl,aY !!!⟨pA rfl !!{_,_,_,_,rfl,cS,rfl,_,rfl,aY ?_}⟩};refine !!!!!!⟨pA rfl ?_⟩;exact !!{uU,rfl,rfl,_,rfl,cu !!!⟨cu !!{bR,rfl,rfl,_,rfl,mR !!!{h8,fo q}}⟩};refine !{_,_,_,_,rfl,aV,rfl,_,rfl,aY !!!⟨pA rfl !!{_,_,_,_,rfl,cS,rfl,_,rfl,aY ?_}⟩};refine !!!!!!⟨pA rfl ?_⟩;exact !!{uU,rfl,rfl,_,rfl,cu !!!⟨cu !!{bR,rfl,rfl,_,rfl,mR !!!{h8,fo q}}⟩}
inductive i_(ds:v0)(S:aq)(R:KD)(Z:KX):Prop where
 |mk (l es cs m)(h0:ds=[.ref l])(h1:S l=some (.lst es))(h2:(es.flatMap nJ).length<=900)(h3:(∀e∈es,Sg cs (m+1) e))(h4:∀p,S p=none->R (.ref p) (S.set p<|.lst<|es.flatMap nJ))
theorem pC:Ok P w base T.gM 1 i_:=by
 obtain⟨l,es,cs,m,e,hl,h8,Ob,q⟩:T.gM.F.bx eJ;refine{_,(sc (bQ (i:=1) eJ.nd<|cJ an)<|sc (Ba<|JS (il<|dv 0) (gn (i:=2) eJ.nd)<|sc (Ba<|si (bi bf (bn (dv 2) di) ds) (s1<|se<|bm zR ya yb cK (dv 1)<|ac (bn (dv 2) di) an) s0)<|s1<|si (bi Dz (bn (dv 2) di)<|bX<|ac ds<|ac ds an) (s1<|se<|bm zR PySem.F.slot_list_extend PySem.F.type_list_extend Hn (dv 1)<|ac (bn (dv 2) di) an) s0)<|s1<|sr<|dv 1),?_};refine{uS,λf hf=>?_};have N6:l≠f:=gU hl hf;refine{λaG S'=>∃o,aG=[some<|.ref l,some<|.ref f,o]/\S'=S.set f (.lst<|es.flatMap nJ),?_,?_};refine !{es,(ae N6).trans hl,?_};refine{λi aG S'=>∃o,aG=[some<|.ref l,some<|.ref f,o]/\S'=S.set f (.lst<|(es.take i).flatMap nJ),⟨none,rfl,rfl⟩,?_,?_,?_};rintro i aG S' ⟨o,rfl,rfl⟩;exact(ae N6).trans hl;rintro i e aG S' he ⟨o,rfl,rfl⟩;have he:es[i]?=some e:=he;have hem:=Ob e<|zp he;have et:(es.take<|i+1).flatMap nJ=(es.take i).flatMap nJ++nJ e:=by rw[List.take_add_one,he,List.flatMap_append];simp
 have Oc:((es.take i).flatMap nJ).length+(nJ e).length<=900:=by rw[<-zD,<-et];refine zO ?_ h8;(conv=>rhs;rw[<-List.take_append_drop (i+1) es,List.flatMap_append,zD]);exact Nat.le_add_right _ _
 generalize (es.take i).flatMap nJ=fs at et Oc⊢;have UU:(S.set f<|.lst fs) f=some (.lst fs):=aa;have keep:nJ e=[]->∃o,[some<|D.ref l,some<|D.ref f,some e]=[some<|.ref l,some<|.ref f,o]/\S.set f (.lst fs)=S.set f (.lst<|(es.take<|i+1).flatMap nJ):=λh=>!⟨by rw[et,h,yJ]⟩;have more:∀ds,nJ e=ds->∃o,[some<|D.ref l,some<|D.ref f,some e]=[some<|.ref l,some<|.ref f,o]/\(S.set f<|.lst fs).set f (.lst<|fs++ds)=S.set f (.lst<|(es.take<|i+1).flatMap nJ):=λds h=>!⟨by rw[et,h,aQ]⟩;rcases hem with (rfl|⟨ks,rfl,_,_⟩|⟨o,c,v,_,_,ho,rfl⟩)|⟨e',rfl,L9⟩|⟨o,ds,ho,rfl,hds,hd⟩;refine{λq8 S2=>q8=_/\S2=S.set f (.lst fs),!!!⟨cu<|fo ⟨rfl,rfl⟩⟩,?_};rintro _ _ ⟨rfl,rfl⟩;exact !!{bR,rfl,rfl,_,rfl,cu<|keep rfl};refine{λq8 S2=>q8=_/\S2=S.set f (.lst fs),!!!⟨cu<|fo ⟨rfl,rfl⟩⟩,?_};rintro _ _ ⟨rfl,rfl⟩;exact !!{bR,rfl,rfl,_,rfl,cu<|keep rfl};rcases ho with rfl|⟨_,rfl|rfl|⟨rfl,_⟩⟩;refine{λq8 S2=>q8=_/\S2=S.set f (.lst fs),!!!⟨cu<|fo ⟨rfl,rfl⟩⟩,?_};rintro _ _ ⟨rfl,rfl⟩;exact !!{bR,rfl,rfl,_,rfl,cu<|keep rfl};refine{λq8 S2=>q8=_/\S2=S.set f (.lst fs),!!!⟨cu<|fo ⟨rfl,rfl⟩⟩,?_};rintro _ _ ⟨rfl,rfl⟩;exact !!{bR,rfl,rfl,_,rfl,cu<|keep rfl};refine{λq8 S2=>q8=_/\S2=S.set f (.lst fs),!!!⟨cu<|fo ⟨rfl,rfl⟩⟩,?_};rintro _ _ ⟨rfl,rfl⟩;exact !!{bR,rfl,rfl,_,rfl,cu<|keep rfl};refine{λq8 S2=>q8=_/\S2=S.set f (.lst fs),!!!⟨cu<|fo ⟨rfl,rfl⟩⟩,?_};rintro _ _ ⟨rfl,rfl⟩;exact !!{bR,rfl,rfl,_,rfl,cu<|keep rfl};refine{λq8 S2=>q8=_/\S2=(S.set f<|.lst fs).set f (.lst<|fs++[e']),!!!⟨mR !⟨{rfl,_,UU},_,rfl,_,rfl,f,_,_,rfl,rfl,UU,bg<|by rw[y0]at Oc;simp at Oc;omega,fo ⟨rfl,rfl⟩⟩⟩,?_};rintro _ _ ⟨rfl,rfl⟩;exact !!{bR,rfl,rfl,_,rfl,cu<|more _<|y0 e'};have eds:=y1 ho ds;rw[eds]at Oc;rcases ho with rfl|rfl;refine{λq8 S2=>q8=_/\S2=S.set f (.lst fs),!!!⟨cu<|fo ⟨rfl,rfl⟩⟩,?_};rintro _ _ ⟨rfl,rfl⟩;exact !!{bR,rfl,rfl,_,rfl,mR !⟨{rfl,_,UU},_,rfl,_,rfl,f,_,_,rfl,rfl,UU,sm<|by omega,more _ eds⟩};refine{λq8 S2=>q8=_/\S2=S.set f (.lst fs),!!!⟨cu<|fo ⟨rfl,rfl⟩⟩,?_};rintro _ _ ⟨rfl,rfl⟩;exact !!{bR,rfl,rfl,_,rfl,mR !⟨{rfl,_,UU},_,rfl,_,rfl,f,_,_,rfl,rfl,UU,sm<|by omega,more _ eds⟩};rintro aG S' ⟨o,rfl,rfl⟩;refine fo {o,rfl,?_};rw[show({es,λS=>S l=some (.lst es)}:rm).xs=es from rfl,yG];rintro aG S' ⟨o,rfl,rfl⟩;exact{_,rfl,fo<|q f hf}
theorem K2{cs:ww}{n:Nat}{d:D}(h:Sg cs (n+1) d):∀f∈nJ d,Sg cs n f:=by
 rcases h with (rfl|⟨ks,rfl,_,_⟩|⟨o,c,v,_,_,ho,rfl⟩)|⟨e',rfl,L9⟩|⟨o,ds,ho,rfl,hds,hd⟩;exact nofun;exact nofun;exact nofun;rw[y0];exact λf hf=>by rw[zE.mp hf];exact L9
 rw[y1 ho];exact hd
theorem K3(n:Nat):∀es:v0,(es.map<|qh<|n+1).sum=es.length+((es.flatMap nJ).map<|qh n).sum|[]=>rfl|e::es=>by have:=K3 n es;rw[zC,List.sum_cons,zQ,List.flatMap_cons,zI,List.sum_append,this,show qh (n+1) e=((nJ e).map<|qh n).sum+1 from rfl];lia
theorem Tx{cs:ww}{n:Nat}{es:v0}(h:∀e∈es,Sg cs (n+1) e):(es.flatMap nJ).length<=((es.flatMap nJ).map<|qh n).sum:=by
 have h:∀f∈es.flatMap nJ,Sg cs n f:=λf hf=>by obtain⟨e,he,hf⟩:=List.mem_flatMap.mp hf;exact K2 (h e he) f hf
 generalize es.flatMap nJ=fs at h⊢;induction fs with|nil=>exact zq _|cons f fs ih=>have h1:=h f zj;have ih:=ih λx hx=>h x<|zg _ hx;have:1<=qh n f:=(by cases n with|zero=>exact h1.elim|succ n=>exact Nat.le_add_left _ _);rw[zC,List.sum_cons,zQ];lia
inductive lA(ds:v0)(S:aq)(R:KD)(Z:KX):Prop where
 |mk (cs d)(h0:ds=[.tup<|cs.map aD,d])(h1:Gd cs)(h2:Sq cs d)(h3:R .av S)
theorem fW:Ok P w base T.eV 6 lA:=by
 obtain⟨cs,d,e,hg,hd,q⟩:T.eV.F.bx bD;refine{_,(sc (bQ (i:=2) bD.nd<|cJ<|al 1 an)<|sc (bQ (i:=3) bD.nd di)<|sc (bQ (i:=4) bD.nd di)<|s1<|swh (bi qG (cb a_ T.aW aI<|al 2 an) di)<|sc (sau (i:=3) bD.nd di)<|sc (sau (i:=4) bD.nd<|cb a_ T.aW aI<|al 2 an)<|sc (si (twd<|twor (bi qG (dv 3)<|dg (v:=.int 8) T.xo {_,rfl} λ_=>aP _)<|tw1<|bi qG (dv 4)<|dg (v:=.int 200) T.jG {_,rfl} λ_=>aP _) (s1<|sF ⟨T.iD⟩ T.pY<|ac ds an) s0)<|sc (si (cB<|tv<|cb kX T.k7 gG<|ac (xk (N:=["thing","columns"]) (src:=[none,some 0]) (oj uJ) (il<|dv 2) rn<|aM T.oV (y3 T) hr<|al 1<|al 0 an) an) (s1<|sF ⟨T.iD⟩ T.pY<|ac ds an) s0)<|s1<|bQ (i:=2) bD.nd<|aM T.gM (pC T) hr<|al 2 an),?_};refine !{uT,λl0 PN=>?_};refine{λm aG S'=>∃(l:Addr)(es:v0)(dp p:Nat),aG=[some<|.tup<|cs.map aD,some d,some<|.ref l,some<|.int dp,some<|.int p]/\S' l=some (.lst es)/\Sub S S'/\(∀e∈es,Sg cs m e)/\dp+m=7/\p+(es.map<|qh m).sum<=200,{7,l0,[d],0,0,rfl,aa,.new PN,λe he=>by rw[zE.mp he];exact hd.1,rfl,by have:=hd.2;simp only[zC,List.map_nil,List.sum_cons,List.sum_nil];lia},?_};rintro m aG S' ⟨l,es,dp,p,rfl,hl,sb,Ob,hdp,hp⟩;refine !!⟨.inl {_,hl,_,rfl,?_}⟩;refine ck (λh1=>?_) λh1=>?_;have Hc:0<es.length:=by have h1:(0:Int)<((es.length:Nat):Int):=zy h1;lia
 obtain⟨e0,he0⟩:=List.exists_mem_of_length_pos Hc;obtain⟨n,rfl⟩:∃n,m=n+1:=by cases m with|zero=>exact(Ob e0 he0).elim|succ n=>exact⟨n,rfl⟩
 have age:=K3 n es;have V5:=Tx (cs:=cs) (n:=n) (es:=es) Ob;refine !!!!!⟨.inl {_,hl,_,rfl,?_}⟩;refine !!⟨pA (zo<|by lia) !!⟨pA (zo<|by lia) ?_⟩⟩;refine !{es,hl,?_};refine comp_map (λ_=>.bl true) hl (by show es.length<=1000;lia) (λe he Q hQ=>?_) λp1 Ax=>?_;exact !!{cs,_,e,rfl,hg,Ob e he,hQ};have e2:es.map (λ_=>D.bl true)=(es.map λ_=>true).map D.bl:=by rw[zx];rfl
 have e3:(es.map λ_=>true).all id=true:=by rw[all_map];exact zX.mpr λ_ _=>rfl
 refine{.ref p1,es.map λ_=>true,rfl,?_,_,rfl,?_};show(S'.set p1<|.lst<|es.map _) p1=_;rw[aa,e2];rw[e3];refine aY ?_;have s1:=sb.trans<|.new (c:=.lst<|es.map λ_=>D.bl true) Ax;have y4:(S'.set p1<|.lst<|es.map λ_=>D.bl true) l=some (.lst es):=(ae<|gU hl Ax).trans hl;refine !{l,es,cs,n,rfl,y4,by lia,Ob,λp2 h3=>?_};refine{n,Nat.lt_succ_self n,p2,es.flatMap nJ,dp+1,p+es.length,?_,aa,s1.trans<|.new h3,λf hf=>?_,by lia,by lia};show[_,_,_,some<|D.int<|((dp:Nat):Int)+1,some<|D.int<|((p:Nat):Int)+((es.length:Nat):Int)]=_;rw[show(((dp:Nat):Int)+1)=((dp+1:Nat):Int) by lia,show(((p:Nat):Int)+((es.length:Nat):Int))=((p+es.length:Nat):Int) by lia];obtain⟨e,he,hf⟩:=List.mem_flatMap.mp hf;exact K2 (Ob e he) f hf;exact⟨S,sb,q⟩
noncomputable def Mc(cs:ww)(z:Str):Nat:=(cs.map Prod.fst).idxOf z
noncomputable def ak(cs:ww)(ws:v0)(z:Str):D:=(ws[Mc cs z]?).getD .av
noncomputable def ag(r:Str×List D):D:=.tup [.str r.1,.tup r.2]
theorem Ep{α β:Type}{rel:α->β->Prop}{l:List α}{m:List β}(h:Paired rel l m):∀{i:Nat}{a:α},l[i]?=some a->∃b,m[i]?=some b/\rel a b:=by induction h with|nil=>intro i a h;simp at h|cons r t ih=>intro i a h;cases i with|zero=>(rw[List.getElem?_cons_zero]at h⊢;cases h;exact{_,rfl,r})|succ i=>rw[List.getElem?_cons_succ]at h⊢;exact ih h
theorem pE(hg:Gd cs)(h:c∈cs):cs[Mc cs c.1]?=some c/\(cs.map Prod.fst)[Mc cs c.1]?=some c.1:=by
 have hm:c.1∈cs.map Prod.fst:=zi.mpr ⟨c,h,rfl⟩;have hi:(cs.map Prod.fst).idxOf c.1<(cs.map Prod.fst).length:=List.idxOf_lt_length_of_mem hm;have e1:(cs.map Prod.fst)[(cs.map Prod.fst).idxOf c.1]?=some c.1:=by rw[ze hi,List.getElem_idxOf]
 refine{?_,e1};obtain⟨j,ej⟩:=yg h;have ej1:(cs.map Prod.fst)[j]?=some c.1:=by rw[zh,ej];rfl
 obtain⟨b1,c1⟩:=zf.mp e1;obtain⟨b2,c2⟩:=zf.mp ej1;have:=(List.getElem_inj hg.2.1 (h₀:=b1) (h₁:=b2)).mp<|c1.trans c2.symm;unfold Mc;rw[this];exact ej
theorem nK{cs:ww}(hg:Gd cs){ws:v0}(hw:Wg cs ws){c:Str×Str}(h:c∈cs):ws[Mc cs c.1]?=some (ak cs ws c.1)/\Vg c.2 (ak cs ws c.1):=by obtain⟨v,e,r⟩:=Ep hw (pE hg h).1;unfold ak;rw[e];exact⟨rfl,r⟩
noncomputable def qP:D->D->Bool|.av,.av=>true|.int i,.int j=>decide (i=j)|.str i,.str j=>decide (i=j)|_,_=>false
theorem du(ha:dF a=true)(hb:dF b=true):qP a b=true↔a=b:=by rcases iS ha with rfl|⟨i,rfl⟩|⟨i,rfl⟩<;>rcases iS hb with rfl|⟨j,rfl⟩|⟨j,rfl⟩<;>simp[qP]
theorem BL(ha:dF a=true)(hb:dF b=true)(q:R (.bl<|if neg then !qP a b else qP a b) S):Iz neg a b S R:=by
 obtain⟨p,p1,p2,p3⟩:=Ly.plain (S:=S) ha;obtain⟨r,r1,r2,r3⟩:=Ly.plain (S:=S) hb;have fin:PyData.eqv p r=qP a b->R (.bl<|if neg then !PyData.eqv p r else PyData.eqv p r) S:=λe=>by rw[e];exact q
 have d:p.depth<=64:=by lia
 rcases iS ha with rfl|⟨i,rfl⟩|⟨i,rfl⟩<;>rcases iS hb with rfl|⟨j,rfl⟩|⟨j,rfl⟩<;>first|exact q|exact{p,r,p1,r1,p2,r2,.inl d,fin<|by simp only[Dp]at p1 r1;subst p1 r1;rfl}
noncomputable def uZ:D->D->Bool|.int i,.int j=>decide (i<j)|.str i,.str j=>vB i j|_,_=>false
noncomputable def stP:D->D->Bool|.str i,.str j=>PySem.Txt.startswith i j|_,_=>false
noncomputable def FT(o:Str)(a b:D):Bool:=if o ="is" then qP a b else if ah a then false else if o ="below" then uZ a b else if o ="above" then uZ b a else stP a b
noncomputable def HY:D->List D|.tup ds=>ds|_=>[]
noncomputable def XN(cs:ww)(r:Str×List D)(f:D->Bool):D->Bool|.tup [.str _]=>true|.tup [.str o,e]=>(if o ="not" then !f e else if o ="key" then GZ (kG<|.str r.1) ((HY e).map kG) else if o ="and" then (HY e).all f else (HY e).any f)|.tup [.str o,.str z,v]=>FT o (ak cs r.2 z) v|_=>false
noncomputable def bZ(cs:ww)(r:Str×List D):Nat->D->Bool|0,_=>false|n+1,d=>XN cs r (bZ cs r n) d
theorem FU(cs:ww)(r:Str×List D)(n:Nat)(o:Str)(e:D):bZ cs r (n+1) (.tup [.str o,e])=if o ="not" then !bZ cs r n e else if o ="key" then GZ (kG<|.str r.1) ((HY e).map kG) else if o ="and" then (HY e).all (bZ cs r n) else (HY e).any (bZ cs r n):=rfl
theorem XO(cs:ww)(r:Str×List D)(n:Nat)(o z:Str)(v:D):bZ cs r (n+1) (.tup [.str o,.str z,v])=FT o (ak cs r.2 z) v:=rfl
theorem K4(cs:ww)(r:Str×List D)(n:Nat)(ks:v0):bZ cs r (n+1) (.tup [.str "key",.tup ks])=GZ (kG<|.str r.1) (ks.map kG):=by rw[FU,if_neg<|by trivial,if_pos rfl];rfl
theorem K5(cs:ww)(r:Str×List D)(n:Nat)(e:D):bZ cs r (n+1) (.tup [.str "not",e])=!bZ cs r n e:=by rw[FU,if_pos rfl]
theorem K6(cs:ww)(r:Str×List D)(n:Nat)(es:v0):bZ cs r (n+1) (.tup [.str "and",.tup es])=es.all (bZ cs r n):=by rw[FU,if_neg<|by trivial,if_neg<|by trivial,if_pos rfl];rfl
theorem Od(cs:ww)(r:Str×List D)(n:Nat)(es:v0):bZ cs r (n+1) (.tup [.str "or",.tup es])=es.any (bZ cs r n):=by rw[FU,if_neg<|by trivial,if_neg<|by trivial,if_neg<|by trivial];rfl
theorem y6{k:Str}(ha:Vg k a)(hb:Vg k b)(na:a≠.av)(nb:b≠.av):(∃i j,a=.int i/\b=.int j)\/∃i j,a=.str i/\b=.str j:=by
 obtain⟨a1,a2⟩:=ha;obtain⟨b1,b2⟩:=hb;have no:∀{i:Int}{z:Str},iO k (.int i)=true->iO k (.str z)=true->False:=λh1 h2=>by unfold iO at h1 h2;simp only[ah,Bool.false_or]at h1 h2;by_cases e:k ="number";rw[if_pos e]at h2;cases h2;rw[if_neg e]at h1;cases h1
 rcases iS a2 with rfl|⟨i,rfl⟩|⟨i,rfl⟩<;>rcases iS b2 with rfl|⟨j,rfl⟩|⟨j,rfl⟩<;>first|exact absurd rfl na|exact absurd rfl nb|exact .inl ⟨i,j,rfl,rfl⟩|exact .inr ⟨i,j,rfl,rfl⟩|exact(no a1 b1).elim|exact(no b1 a1).elim
theorem FV(h:Vg "word" a)(n:a≠.av):∃z,a=.str z:=by obtain⟨h1,h2⟩:=h;rcases iS h2 with rfl|⟨i,rfl⟩|⟨z,rfl⟩;exact absurd rfl n;unfold iO at h1;rw[if_neg<|by trivial]at h1;cases h1;exact⟨z,rfl⟩
theorem bz(h:ah a=false):a≠.av:=by rintro rfl;cases h
inductive mj(ds:v0)(S:aq)(R:KD)(Z:KX):Prop where
 |mk (cs r c)(h0:ds=[.tup<|cs.map aD,ag r,.str c.1])(h1:Gd cs)(h2:Wg cs r.2)(h3:c∈cs)(h4:R (ak cs r.2 c.1) S)
theorem dJ:Ok P w base T.cw 2 mj:=by
 obtain⟨cs,r,c,e,hg,hw,hc,q⟩:T.cw.F.bx BB;obtain⟨n1,n2⟩:=pE hg hc;refine{_,(s1<|sr<|bn (bn (dv 1) di)<|bm zR PySem.F.slot_list_index PySem.F.type_list_index A3 (aM T.m8 (p_ T) hr<|al 0 an)<|al 2 an),?_};refine !!!{cs,rfl,hg.1,λp hp=>?_};refine{{rfl,_,aa},_,rfl,(cs.map Prod.fst).map D.str,.str c.1,Mc cs c.1,rfl,aa,rfl,?_,{.str c.1,by rw[zh,n2];rfl,by show(c.1==c.1)=true;simp},?_,?_};rw[List.all_map];exact zX.mpr λ_ _=>rfl;intro m u hm hu;rw[zh]at hu;cases e:(cs.map Prod.fst)[m]? with|none=>(rw[e]at hu;cases hu)|some z'=>rw[e]at hu;cases hu;show(z'==c.1)=false;have:z'≠c.1:=λq=>(by subst q;obtain⟨b1,c1⟩:=zf.mp e;obtain⟨b2,c2⟩:=zf.mp n2;have:=(List.getElem_inj hg.2.1 (h₀:=b1) (h₁:=b2)).mp<|c1.trans c2.symm;lia);simpa using this
 exact{_,cE (nK hg hw hc).1,S,.new hp,q}
inductive fX(ds:v0)(S:aq)(R:KD)(Z:KX):Prop where
 |mk (o a b c)(h0:ds=[.str o,a,b])(h1:Vg c.2 a)(h2:Vg c.2 b)(h3:yZ o c b)(h4:R (.bl<|FT o a b) S)
theorem qQ:Ok P w base T.iG 1 fX:=by
 obtain⟨o,a,b,c,e,ha,hb,ho,q⟩:T.iG.F.bx qJ;refine{_,(sc (si (bi bf (dv 0) ds) (s1<|sr<|be bf (dv 1)<|dv 2) s0)<|sc (si (bi kF (dv 1) dn) (s1<|sr db) s0)<|sc (si (bi bf (dv 0) ds) (s1<|sr<|be w5 (dv 1)<|dv 2) s0)<|sc (si (bi bf (dv 0) ds) (s1<|sr<|be qG (dv 1)<|dv 2) s0)<|s1<|sr<|bm PySem.F.plainAttrs_str PySem.F.slot_str_startswith PySem.F.type_str_startswith JK (dv 1)<|al 2 an),?_};unfold FT at q;rcases ho with rfl|⟨nb,ho⟩;rw[if_pos rfl]at q;exact !!⟨mR !!⟨BL ha.2 hb.2<|fo q⟩⟩;have ne:∀{A B:Bool},o≠"is"->R (.bl<|if o ="is" then A else B) S->R (.bl B) S:=λh q=>by rw[if_neg h]at q;exact q
 rcases ho with rfl|rfl|⟨rfl,hk⟩;rw[if_neg<|by trivial]at q;refine !!⟨cu !!⟨ck (λh=>?_) λh=>?_⟩⟩;rw[if_pos h]at q;exact fo q;rw[if_neg<|by rw[show ah a=false from h];exact zd,if_pos rfl]at q;refine !!⟨mR !!⟨?_⟩⟩;rcases y6 ha hb (bz h) nb with⟨i,j,rfl,rfl⟩|⟨i,j,rfl,rfl⟩<;>exact fo q;rw[if_neg<|by trivial]at q;refine !!⟨cu !!⟨ck (λh=>?_) λh=>?_⟩⟩;rw[if_pos h]at q;exact fo q;rw[if_neg<|by rw[show ah a=false from h];exact zd,if_neg<|by trivial,if_pos rfl]at q;refine !!⟨cu !!⟨mR !!⟨?_⟩⟩⟩;rcases y6 ha hb (bz h) nb with⟨i,j,rfl,rfl⟩|⟨i,j,rfl,rfl⟩<;>exact fo q;rw[if_neg<|by trivial]at q;refine !!⟨cu !!⟨ck (λh=>?_) λh=>?_⟩⟩;rw[if_pos h]at q;exact fo q;rw[if_neg<|by rw[show ah a=false from h];exact zd,if_neg<|by trivial,if_neg<|by trivial]at q;refine !!⟨cu !!⟨cu ?_⟩⟩;rw[hk]at ha hb;obtain⟨i,rfl⟩:=FV ha<|bz h;obtain⟨j,rfl⟩:=FV hb nb;exact !{rfl,_,rfl,i,j,rfl,rfl,fo q}
inductive K7(n:Nat)(ds:v0)(S:aq)(R:KD)(Z:KX):Prop where
 |mk (cs d r)(h0:ds=[.tup<|cs.map aD,d,ag r])(h1:Gd cs)(h2:Sg cs n d)(h3:Wg cs r.2)(h4:R (.bl<|bZ cs r n d) S)
theorem kz(T:Txt w K mg t):∀n,Ok P w base T.passes (3+n) (K7 n)
 |0=>by refine T.passes.F.ok (k:=2) vX (by rintro ds S R Z ⟨_,_,_,e,_⟩;rw[e];rfl) (by rintro gT A outer s H E ds S R Z hr ⟨cs,d,r,e,hg,hs,_⟩;exact hs.elim)
 |n+1=>by
  refine T.passes.F.ok (k:=3+n) vX (by rintro ds S R Z ⟨_,_,_,e,_⟩;rw[e];rfl) ?_;obtain⟨cs,d,r,e,hg,hs,hw,q⟩;refine{_,(sc (si (bp bf hr.u (ix hr.u (dv 1) di) ds) (s1<|sr db) s0)<|sc (si (bp bf hr.u (ix hr.u (dv 1) di) ds) (s1<|sr<|cm Dz hr.u (ix hr.u (dv 2) di)<|ix hr.u (dv 1) di) s0)<|sc (si (bp bf hr.u (ix hr.u (dv 1) di) ds) (s1<|sr<|RW<|aM T.passes (kz T n) hr<|al 0<|ac (ix hr.u (dv 1) di)<|al 2 an) s0)<|sc (si (bp bf hr.u (ix hr.u (dv 1) di) ds) (s1<|sr<|cb kX T.k7 gG<|ac (xk (N:=["inner","columns","row"]) (src:=[none,some 0,some 2]) (oj Bo) (JR<|ix hr.u (dv 1) di) rn<|aM T.passes (kz T n) hr<|al 1<|al 0<|al 2 an) an) s0)<|sc (si (bp bf hr.u (ix hr.u (dv 1) di) ds) (s1<|sr<|cb WE T.Xy RD<|ac (xk (N:=["inner","columns","row"]) (src:=[none,some 0,some 2]) (oj Bo) (JR<|ix hr.u (dv 1) di) rn<|aM T.passes (kz T n) hr<|al 1<|al 0<|al 2 an) an) s0)<|s1<|sr<|aM T.iG (qQ T) hr<|ac (ix hr.u (dv 1) di)<|ac (aM T.cw (dJ T) hr<|al 0<|al 2<|ac (ix hr.u (dv 1) di) an)<|ac (ix hr.u (dv 1) di) an),?_};rcases hs with (rfl|⟨ks,rfl,hk8,DL⟩|⟨o,c,v,hc,hv,ho,rfl⟩)|⟨e,rfl,he⟩|⟨o,es,ho,rfl,Ob,Uy⟩;exact !!!⟨mR<|fo q⟩;refine !!!⟨cu !!!⟨mR ?_⟩⟩;refine !!!!{rfl,?_,?_};rw[List.all_map];exact zX.mpr λ_ _=>rfl;rw[K4]at q;exact fo q;rw[XO]at q;have fin:∀Zq,fX [D.str o,ak cs r.2 c.1,v] S (λd S'=>Fo S'<|R d) Zq:=λ_=>{o,_,v,c,rfl,(nK hg hw hc).2,hv,ho,fo q};have h4:o ="is"\/o ="below"\/o ="above"\/o ="begins":=by rcases ho with h|⟨_,h|h|⟨h,_⟩⟩;exact .inl h;exact .inr<|.inl h;exact .inr<|.inr<|.inl h;exact .inr<|.inr<|.inr h
  rcases h4 with rfl|rfl|rfl|rfl;exact !!!⟨cu !!!⟨cu !!!⟨cu !!!⟨cu !!!⟨cu !!!!!!{cs,r,c,rfl,hg,hw,hc,_,rfl,_,rfl,fin _}⟩⟩⟩⟩⟩;exact !!!⟨cu !!!⟨cu !!!⟨cu !!!⟨cu !!!⟨cu !!!!!!{cs,r,c,rfl,hg,hw,hc,_,rfl,_,rfl,fin _}⟩⟩⟩⟩⟩;exact !!!⟨cu !!!⟨cu !!!⟨cu !!!⟨cu !!!⟨cu !!!!!!{cs,r,c,rfl,hg,hw,hc,_,rfl,_,rfl,fin _}⟩⟩⟩⟩⟩;exact !!!⟨cu !!!⟨cu !!!⟨cu !!!⟨cu !!!⟨cu !!!!!!{cs,r,c,rfl,hg,hw,hc,_,rfl,_,rfl,fin _}⟩⟩⟩⟩⟩;rw[K5]at q;exact !!!⟨cu !!!⟨cu !!!⟨mR !!!!{cs,e,r,rfl,hg,he,hw,_,rfl,fo q}⟩⟩⟩;have hz:es.length<=1000:=by lia
  rcases ho with rfl|rfl;rw[K6]at q;refine !!!⟨cu !!!⟨cu !!!⟨cu !!!⟨mR !!{_,.inl rfl,?_}⟩⟩⟩⟩;refine comp_map (λd=>.bl<|bZ cs r n d) trivial hz (λd hd Q hQ=>!!!{cs,d,r,rfl,hg,Uy d hd,hw,hQ}) λp hp=>?_;refine{.ref p,es.map<|bZ cs r n,rfl,?_,S,.new hp,?_};show(S.set p<|.lst<|es.map _) p=_;rw[aa,zx];rfl;rw[all_map];exact q;rw[Od]at q;refine !!!⟨cu !!!⟨cu !!!⟨cu !!!⟨cu !!!⟨mR !!{_,.inl rfl,?_}⟩⟩⟩⟩⟩;refine comp_map (λd=>.bl<|bZ cs r n d) trivial hz (λd hd Q hQ=>!!!{cs,d,r,rfl,hg,Uy d hd,hw,hQ}) λp hp=>?_;refine{.ref p,es.map<|bZ cs r n,rfl,?_,S,.new hp,?_};show(S.set p<|.lst<|es.map _) p=_;rw[aa,zx];rfl;rw[List.any_map];exact q
abbrev Row:=Str×List D
abbrev wS:=List Row
abbrev Part:=Str×Str×Str
abbrev wP:=List Part
theorem Tz{a b:Str}(h:a.cps.toList=b.cps.toList):a=b:=by obtain⟨x⟩:=a;obtain⟨y⟩:=b;exact congrArg Str.mk<|Array.ext' h
theorem FW(a:Str):vB a a=false:=zo<|List.lt_irrefl _
theorem y7{a b:Str}(h:a≠b):vB b a=!vB a b:=by unfold vB;rw[yE];simp only[decide_eq_true_iff,Bool.not_eq_true',yj];constructor;exact λh1 h2=>List.lt_irrefl _<|List.lt_trans h1 h2;intro h1;by_cases h2:b.cps.toList<a.cps.toList;exact h2;exact absurd (Tz<|List.le_antisymm (List.not_lt.mp h2)<|List.not_lt.mp h1) h
theorem TB(h1:vB a b=true)(h2:vB b c=true):vB a c=true:=zr<|List.lt_trans (zy h1)<|zy h2
theorem FX(a:D):uZ a a=false:=by cases a<;>first|rfl|exact FW _|exact zo (Int.lt_irrefl _)
theorem nL(ha:Vg k a)(hb:Vg k b)(na:a≠.av)(nb:b≠.av)(h:a≠b):uZ b a=!uZ a b:=by rcases y6 ha hb na nb with⟨i,j,rfl,rfl⟩|⟨i,j,rfl,rfl⟩;have lS:i≠j:=λe=>h<|congrArg D.int e;show decide (j<i)=!decide (i<j);rw[yE];simp only[decide_eq_true_iff,Bool.not_eq_true',yj];lia;exact y7 λe=>h<|congrArg D.str e
theorem K8(h1:uZ a b=true)(h2:uZ b c=true):uZ a c=true:=by cases a with|int i=>(cases b with|int j=>(cases c with|int l=>have h1:i<j:=zy h1;have h2:j<l:=zy h2;exact zr (by lia)|_=>cases h2)|_=>cases h1)|str i=>(cases b with|str j=>(cases c with|str l=>exact TB h1 h2|_=>cases h2)|_=>cases h1)|_=>cases h1
theorem K9(h:Xd a b):uZ a b=true:=by cases a with|int i=>(cases b with|int j=>exact zr h|_=>exact h.elim)|str i=>(cases b with|str j=>exact zr h|_=>exact h.elim)|_=>exact h.elim
noncomputable def bL(p:Part)(x y:D):Bool:=if (ah x != ah y)=true then ah x==decide (p.2.2 ="first") else uZ x y==decide (p.2.1 ="up")
noncomputable def cQ(cs:ww)(wy:Str):List Part->Row->Row->Bool|[],a,b=>vB a.1 b.1==decide (wy ="up")|p::ps,a,b=>if qP (ak cs a.2 p.1) (ak cs b.2 p.1)=true then cQ cs wy ps a b else bL p (ak cs a.2 p.1) (ak cs b.2 p.1)
theorem bxor:((!x)==u)=!(x==u):=by cases x<;>cases u<;>rfl
theorem dX(h:ah x=true):x=.av:=by cases x<;>first|rfl|cases h
theorem wc(hx:Vg k x)(hy:Vg k y)(h:x≠y):bL p y x=!bL p x y:=by unfold bL;cases nx:ah x with|true=>(cases ny:ah y with|true=>exact absurd ((dX nx).trans (dX ny).symm) h|false=>rw[if_pos<|by rfl,if_pos<|by rfl];cases decide (p.2.2 ="first")<;>rfl)|false=>cases ny:ah y with|true=>(rw[if_pos<|by rfl,if_pos<|by rfl];cases decide (p.2.2 ="first")<;>rfl)|false=>rw[if_neg<|by simp,if_neg<|by simp,nL hx hy (bz nx) (bz ny) h,bxor]
theorem Oe(hx:Vg k x)(hy:Vg k y)(hz:Vg k z)(hxy:x≠y)(hyz:y≠z)(h1:bL p x y=true)(h2:bL p y z=true):x≠z/\bL p x z=true:=by
 have hxz:x≠z:=by rintro rfl;have:=wc (p:=p) hx hy hxy;rw[h1,h2]at this;cases this
 refine{hxz,?_};unfold bL at h1 h2⊢;cases nx:ah x with|true=>(cases ny:ah y with|true=>exact absurd ((dX nx).trans (dX ny).symm) hxy|false=>rw[nx,ny,if_pos<|by rfl]at h1;cases nz:ah z with|true=>exact absurd ((dX nx).trans (dX nz).symm) hxz|false=>rw[if_pos<|by rfl];exact h1)|false=>cases ny:ah y with|true=>(rw[nx,ny,if_pos<|by rfl]at h1;cases nz:ah z with|true=>exact absurd ((dX ny).trans (dX nz).symm) hyz|false=>rw[ny,nz,if_pos<|by rfl]at h2;cases e:decide (p.2.2 ="first")<;>rw[e]at h1 h2<;>first|cases h1;done|cases h2;done)|false=>rw[nx,ny,if_neg<|by simp]at h1;cases nz:ah z with|true=>rw[ny,nz,if_pos<|by rfl]at h2;rw[if_pos<|by rfl];exact h2|false=>rw[ny,nz,if_neg<|by simp]at h2;rw[if_neg<|by simp];cases e:decide (p.2.1 ="up") with|true=>rw[e]at h1 h2;rw[K8 (a:=x) (b:=y) (c:=z) (by simpa using h1)<|by simpa using h2];rfl|false=>rw[e]at h1 h2;have h1:uZ x y=false:=(by simpa using h1);have h2:uZ y z=false:=(by simpa using h2);have a1:=nL hx hy (bz nx) (bz ny) hxy;have a2:=nL hy hz (bz ny) (bz nz) hyz;rw[h1]at a1;rw[h2]at a2;have a3:=K8 a2 a1;have a4:=nL hx hz (bz nx) (bz nz) hxz;rw[a3]at a4;cases q:uZ x z with|true=>(rw[q]at a4;cases a4)|false=>rfl
def Pin(cs:ww)(ps:wP):Prop:=∀p∈ps,∃c∈cs,c.1=p.1
section
variable{cs:ww}{wy:Str}
theorem Pin.tail(h:Pin cs<|p::ps):Pin cs ps:=λq hq=>h q<|zg _ hq
theorem y8(hg:Gd cs)(h:Pin cs<|p::ps):∃k,∀ws,Wg cs ws->Vg k (ak cs ws p.1):=by obtain⟨c,hc,e⟩:=h p zj;rw[<-e];exact{c.2,λws hw=>(nK hg hw hc).2}
theorem tT(hg:Gd cs):∀{ps:wP}{a b:Row},Pin cs ps->Wg cs a.2->Wg cs b.2->a.1≠b.1->cQ cs wy ps b a=!cQ cs wy ps a b|[],a,b,_,_,_,h=>by show(vB b.1 a.1==_)=!(vB a.1 b.1==_);rw[y7 h,bxor]|p::ps,a,b,hp,ha,hb,h=>by obtain⟨k,hk⟩:=y8 hg hp;have va:=hk _ ha;have vb:=hk _ hb;unfold cQ;by_cases e:ak cs a.2 p.1=ak cs b.2 p.1;rw[if_pos<|(du vb.2 va.2).mpr e.symm,if_pos<|(du va.2 vb.2).mpr e];exact tT hg hp.tail ha hb h;rw[if_neg λq=>e ((du vb.2 va.2).mp q).symm,if_neg λq=>e<|(du va.2 vb.2).mp q];exact wc va vb e
def Rg(cs:ww)(rs:wS):Prop:=(∀r∈rs,Wg cs r.2)/\(rs.map Prod.fst).Nodup
theorem Rg.perm(h:Rg cs rs)(p:c_.Perm rs):Rg cs c_:={λr hr=>h.1 r<|p.mem_iff.mp hr,(p.map _).nodup_iff.mpr h.2}
theorem Rg.sub(h:Rg cs rs)(p:c_.Sublist rs):Rg cs c_:={λr hr=>h.1 r<|p.subset hr,h.2.sublist<|p.map _}
theorem Of(hg:Gd cs)(hp:Pin cs ps)(hr:Rg cs m)(hl:l.Pairwise λa b=>cQ cs wy ps a b=true)(hm:m.Pairwise λa b=>cQ cs wy ps a b=true)(pm:l.Perm m):l=m:=by refine List.Perm.eq_of_pairwise (le:=λa b=>cQ cs wy ps a b=true) (λa b ha hb h1 h2=>?_) hl hm pm;have ha:=pm.mem_iff.mp ha;by_cases e:a.1=b.1;exact gz (f:=Prod.fst) hr.2 ha hb e;have:=tT (wy:=wy) hg hp (hr.1 a ha) (hr.1 b hb) e;rw[h1,h2]at this;cases this
end
theorem Er{l m:wp}(hl:l.Nodup)(hm:m.Nodup)(h:∀x,x∈l↔x∈m):l.Perm m:=by induction l generalizing m with|nil=>(cases m with|nil=>exact .nil|cons y m=>exact absurd ((h y).mpr zj)<|by simp)|cons x l ih=>obtain⟨n1,n2⟩:=yq.mp hl;have hx:=(h x).mp zj;refine .trans ((ih n2 (hm.erase x) λy=>?_).cons x) (List.perm_cons_erase hx).symm;rw[hm.mem_erase_iff];constructor;intro hy;exact{λe=>n1<|e ▸ hy,(h y).mp<|zg _ hy};rintro⟨h1,h2⟩;rcases zm.mp ((h y).mpr h2) with e|e;exact absurd e h1;exact e
theorem map_range(d:α)(xs:List α):(List.range xs.length).map (λk=>xs.getD k d)=xs:=by refine List.ext_getElem (by simp) λi h1 h2=>?_;simp[ze h2]
theorem HZ{α:Type}(d:α){xs:List α}{g:Nat->Nat}(lt:∀k,k<xs.length->g k<xs.length)(inj:∀i j,i<xs.length->j<xs.length->g i=g j->i=j):((List.range xs.length).map λk=>xs.getD (g k) d).Perm xs:=by
 have nd:((List.range xs.length).map g).Nodup:=by refine List.pairwise_map.mpr<|List.nodup_range.imp_of_mem λ{a b} ha hb n e=>n<|inj a b (zS.mp ha) (zS.mp hb) e
 have sub:∀x∈(List.range xs.length).map g,x∈List.range xs.length:=λx hx=>by obtain⟨k,hk,rfl⟩:=zi.mp hx;exact zS.mpr<|lt k<|zS.mp hk
 have p:((List.range xs.length).map g).Perm (List.range xs.length):=Er nd List.nodup_range λx=>by refine{sub x,λhx=>?_};by_cases h:x∈(List.range xs.length).map g;exact h;exfalso;have:=sub_len nd (m:=(List.range xs.length).erase x) λy hy=>(List.Nodup.mem_erase_iff List.nodup_range).mpr {λe=>h<|e ▸ hy,sub y hy};rw[zb,List.length_erase_of_mem hx,yI]at this;have:=zS.mp hx;lia
 have e:((List.range xs.length).map λk=>xs.getD (g k) d)=((List.range xs.length).map g).map λk=>xs.getD k d:=by rw[zx];rfl
 rw[e];have:=p.map λk=>xs.getD k d;rw[map_range]at this;exact this
theorem H9{α:Type}(d:α){xs:List α}{g:Nat->Nat}{r:α->α->Prop}(h:∀i j,i<j->j<xs.length->r (xs.getD (g i) d) (xs.getD (g j) d)):((List.range xs.length).map λk=>xs.getD (g k) d).Pairwise r:=by rw[List.pairwise_map,List.pairwise_iff_getElem];intro i j hi hj lS;rw[yI]at hj;rw[List.getElem_range,List.getElem_range];exact h i j lS hj
noncomputable def r0:Row:=("",[])
theorem getD_map{rs:wS}{j:Nat}(h:j<rs.length):(rs.map ag).getD j .av=ag (rs.getD j r0):=by rw[zw,zw,zh,ze h];rfl
theorem getD_mem{rs:wS}{j:Nat}(h:j<rs.length):rs.getD j r0∈rs:=by rw[zw,ze h];exact List.getElem_mem h
theorem nM{rs:wS}{b:Bool}{f:D->D}{g:Nat->Nat}(h:So b (λj=>f<|(rs.map ag).getD j .av) (rs.map ag).length g): ∃c_:wS,(List.range (rs.map ag).length).map (λk=>(rs.map ag).getD (g k) .av)=c_.map ag/\c_.Perm rs/\∀q r:Row->Row->Prop,rs.Pairwise q->(∀x y,x∈rs->y∈rs->(if b=true then Xd (f<|ag y) (f<|ag x) else Xd (f<|ag x) (f<|ag y))->r x y)->(∀x y,x∈rs->y∈rs->f (ag x)=f (ag y)->q x y->r x y)->c_.Pairwise r:=by have hn:(rs.map ag).length=rs.length:=zb _;rw[hn]at h⊢;refine{(List.range rs.length).map λk=>rs.getD (g k) r0,?_,HZ r0 h.lt h.inj,λq r hq h1 h2=>H9 r0 λi j lS hj=>?_};rw[zx];exact zU λk hk=>getD_map<|h.lt k<|zS.mp hk;have gi:=h.lt i<|Nat.lt_trans lS hj;have gj:=h.lt j hj;have o:=h.ord i j lS hj;rw[getD_map gi,getD_map gj]at o;rcases o with o|⟨o,l⟩;exact h1 _ _ (getD_mem gi) (getD_mem gj) o;refine h2 _ _ (getD_mem gi) (getD_mem gj) o ?_;have:=List.pairwise_iff_getElem.mp hq (g i) (g j) gi gj l;rw[zw,zw,ze gi,ze gj];exact this
section
variable{cs:ww}{wy:Str}
noncomputable def valued(cs:ww)(p:Part)(r:Row):Bool:=!ah (ak cs r.2 p.1)
theorem Oh(h1:ah x=true)(h2:ah y=true):qP x y=true:=by rw[dX h1,dX h2];rfl
theorem y9(h:ah x≠ah y):qP x y=false:=by cases x<;>cases y<;>first|rfl|exact absurd rfl h
theorem H_{ps:wP}{p:Part}{L V:wS}(hL:L.Pairwise λa b=>cQ cs wy ps a b=true)(hV:V.Perm<|L.filter<|valued cs p)(Zt:V.Pairwise λa b=>cQ cs wy (p::ps) a b=true): (if p.2.2 ="first" then L.filter (λr=>!valued cs p r)++V else V++L.filter (λr=>!valued cs p r)).Perm L/\(if p.2.2 ="first" then L.filter (λr=>!valued cs p r)++V else V++L.filter (λr=>!valued cs p r)).Pairwise λa b=>cQ cs wy (p::ps) a b=true:=by
 have hN:(L.filter λr=>!valued cs p r).Pairwise λa b=>cQ cs wy (p::ps) a b=true:=by refine(hL.sublist List.filter_sublist).imp_of_mem λ{a b} ha hb h=>?_;have ha:=(yD.mp ha).2;have hb:=(yD.mp hb).2;unfold valued at ha hb;rw[Bool.not_not]at ha hb;show(if qP (ak cs a.2 p.1) (ak cs b.2 p.1)=true then cQ cs wy ps a b else _)=true;rw[if_pos<|Oh ha hb];exact h
 have P8:∀a∈L.filter (λr=>!valued cs p r),∀b∈V,ah (ak cs a.2 p.1)=true/\ah (ak cs b.2 p.1)=false:=λa ha b hb=>by have ha:=(yD.mp ha).2;have hb:=(yD.mp<|hV.mem_iff.mp hb).2;unfold valued at ha hb;rw[Bool.not_not]at ha;exact{ha,by simpa using hb}
 have pm:(L.filter (λr=>!valued cs p r)++V).Perm L:=(List.Perm.append_left _ hV).trans<|List.perm_append_comm.trans<|List.filter_append_perm (valued cs p) L;by_cases e:p.2.2 ="first";rw[if_pos e];refine{pm,List.pairwise_append.mpr {hN,Zt,λa ha b hb=>?_}};obtain⟨na,nb⟩:=P8 a ha b hb;show(if qP (ak cs a.2 p.1) (ak cs b.2 p.1)=true then cQ cs wy ps a b else bL p (ak cs a.2 p.1) (ak cs b.2 p.1))=true;rw[y9<|by rw[na,nb];nofun,if_neg zd];unfold bL;rw[na,nb,if_pos<|by rfl,zr e];rfl;rw[if_neg e];refine{List.perm_append_comm.trans pm,List.pairwise_append.mpr {Zt,hN,λa ha b hb=>?_}};obtain⟨na,nb⟩:=P8 b hb a ha;show(if qP (ak cs a.2 p.1) (ak cs b.2 p.1)=true then cQ cs wy ps a b else bL p (ak cs a.2 p.1) (ak cs b.2 p.1))=true;rw[y9<|by rw[na,nb];nofun,if_neg zd];unfold bL;rw[na,nb,if_pos<|by rfl,zo e];rfl
end
noncomputable abbrev qK:Str:="sorted_by_keys.<locals>.<lambda>"
noncomputable abbrev qV:Str:="sorted_by_values.<locals>.<lambda>"
noncomputable def TC:D->D|.tup (x::_)=>x|_=>.av
noncomputable def Es(cs:ww)(z:Str):D->D|.tup [_,.tup ws]=>ak cs ws z|_=>.av
inductive K_(t:dY)(ds:v0)(S:aq)(R:KD)(Z:KX):Prop where
 |mk (cs:ww)(l:Addr)(rs:wS)(wy:Str)(h0:ds=[.ref l,.str wy])(h1:mi wy=true)(h2:S l=some (.lst<|rs.map ag))(h3:rs.length<64)(h4:Rg cs rs)(h5:S t.aR=some (.tab qK))(h6:∀(c_:wS)(p:Addr),c_.Perm rs->(c_.Pairwise λa b=>cQ cs wy [] a b=true)->S p=none->R (.ref p) (S.set p<|.lst<|c_.map ag))
theorem bF{S S2:aq}{p:Addr}{c:Ce}(h:Sub S S2):Sub (S.set p c) (S2.set p c):=λb e hb=>by by_cases q:b=p;subst q;rw[aa]at hb⊢;exact hb;rw[ae q]at hb⊢;exact h b e hb
theorem bW{S S2:aq}{p:Addr}(h:Sub S S2)(e:S2 p=none):S p=none:=by cases q:S p with|none=>rfl|some c=>rw[h p c q]at e;cases e
theorem rJ{z:Str}(h:mi z=true):z ="up"\/z ="down":=by unfold mi at h;simpa using h
theorem Rg.unlike(h:Rg cs rs):rs.Pairwise λa b=>a.1≠b.1:=List.pairwise_map.mp h.2
theorem nN(B:Bm mg base):Ok P w base T.fO 4 (K_ t):=by
 refine T.fO.F.okC (k:=3) nj (by rintro ds S R Z ⟨_,_,_,_,e,_⟩;rw[e];rfl) ?_;rintro gT A outer s H E ds S R Z uh hr ⟨cs,l,rs,wy,e,Md,hl,hn,my,ht,q⟩;subst e;have DL:Bf ((rs.map ag).map TC):=.inl {rs.map Prod.fst,by rw[zx,zx];rfl};have un:rs.Pairwise λa b=>a.1≠b.1:=my.unlike;have OU:(rs.map ag).length<64:=by rw[zb];exact hn
 refine{_,(sc (si (bp bf hr.u (dv 1) ds) (s1<|sr<|PL (N:=["row"]) (src:=[none]) (uh.trans T.gv) ⟨T.dQ,B⟩ hr (V2 (ai gX) ["rows","way"] rfl rfl<|by trivial) (dv 0) (λ_ _ _ _=>(ix (hr.in1.in1.deeper _).units (dv 0) di)) T.g_ fB) s0)<|s1<|sr<|Xf (N:=["row"]) (src:=[none]) (uh.trans T.gv) ⟨T.dQ,B⟩ hr (V2 (ai gX) ["rows","way"] rfl rfl<|by trivial) (dv 0) (λ_ _ _ _=>(ix (hr.in1.in1.deeper _).units (dv 0) di)) T.g_ fB),?_};rcases rJ Md with rfl|rfl;refine !!⟨cu !{l,rs.map ag,TC,rfl,hl,OU,ht,DL,λx hx S' hs Qk hQ=>?_,λg S2 p hg hs hp=>?_}⟩;obtain⟨r,hr,rfl⟩:=zi.mp hx;exact !!⟨hQ S'<|.refl _⟩;obtain⟨c_,e,pm,h⟩:=nM hg;rw[e];refine{S.set p<|.lst<|c_.map ag,bF hs,q c_ p pm (h _ _ un (λx y hx hy eB=>?_) λx y hx hy e ne=>absurd (D.str.inj e) ne)<|bW hs hp};show(vB x.1 y.1==decide (("up": Str) ="up"))=true;have:vB x.1 y.1=true:=zr eB;rw[this];rfl;refine !!⟨mR !{l,rs.map ag,TC,rfl,hl,OU,ht,DL,λx hx S' hs Qk hQ=>?_,λg S2 p hg hs hp=>?_}⟩;obtain⟨r,hr,rfl⟩:=zi.mp hx;exact !!⟨hQ S'<|.refl _⟩;obtain⟨c_,e,pm,h⟩:=nM hg;rw[e];refine{S.set p<|.lst<|c_.map ag,bF hs,q c_ p pm (h _ _ un (λx y hx hy eB=>?_) λx y hx hy e ne=>absurd (D.str.inj e) ne)<|bW hs hp};show(vB x.1 y.1==decide (("down": Str) ="up"))=true;have:vB y.1 x.1=true:=zr eB;by_cases e:x.1=y.1;rw[e,FW]at this;cases this;rw[y7 e]at this;have h2:vB x.1 y.1=false:=by simpa using this
 rw[h2,zo<|by trivial];rfl
inductive La(t:dY)(ds:v0)(S:aq)(R:KD)(Z:KX):Prop where
 |mk (cs:ww)(ps:wP)(p:Part)(wy:Str)(l:Addr)(rs:wS)(h0:ds=[.tup<|cs.map aD,p3 p,.ref l])(h1:Gd cs)(h2:Pin cs<|p::ps)(h3:mi p.2.1=true)(h4:S l=some (.lst<|rs.map ag))(h5:rs.length<64)(h6:Rg cs rs)(h7:(∀r∈rs,valued cs p r=true))(h8:(rs.Pairwise λa b=>cQ cs wy ps a b=true))(h9:S t.aK=some (.tab qV))(h10:∀(c_:wS)(a:Addr),c_.Perm rs->(c_.Pairwise λa b=>cQ cs wy (p::ps) a b=true)->S a=none->R (.ref a) (S.set a<|.lst<|c_.map ag))
theorem Et{α:Type}{f:α->D}{β:Type}{mk:β->D} : ∀{l:List α},(∀x∈l,∃b,f x=mk b)->∃bs:List β,l.map f=bs.map mk|[],_=>{[],rfl}|x::l,h=>by obtain⟨b,e⟩:=h x zj;obtain⟨bs,e2⟩:=Et λy hy=>h y<|zg _ hy;exact{b::bs,by rw[zC,e,e2];rfl}
theorem Ia{cs:ww}{p:Part}{k:Str}{rs:wS}(hk:∀r∈rs,Vg k<|ak cs r.2 p.1)(hv:∀r∈rs,valued cs p r=true):Bf ((rs.map ag).map<|Es cs p.1):=by
 rw[zx];have nn:∀r∈rs,ak cs r.2 p.1≠.av:=λr hr=>bz (by have:=hv r hr;unfold valued at this;simpa using this);by_cases e:k ="number";refine .inr<|Et λr hr=>?_;have h1:=hk r hr;have h2:=nn r hr;show ∃b,ak cs r.2 p.1=.int b;generalize ak cs r.2 p.1=v at h1 h2;cases v with|av=>exact absurd rfl h2|int i=>exact⟨i,rfl⟩|str z=>(have h1:=h1.1;unfold iO at h1;simp only[ah,Bool.false_or]at h1;rw[if_pos e]at h1;cases h1)|_=>cases h1.2
 refine .inl<|Et λr hr=>?_;have h1:=hk r hr;have h2:=nn r hr;show ∃b,ak cs r.2 p.1=.str b;generalize ak cs r.2 p.1=v at h1 h2;cases v with|av=>exact absurd rfl h2|str i=>exact⟨i,rfl⟩|int z=>(have h1:=h1.1;unfold iO at h1;simp only[ah,Bool.false_or]at h1;rw[if_neg e]at h1;cases h1)|_=>cases h1.2
theorem Lb{cs:ww}{wy:Str}{ps:wP}{p:Part}{x y:Row}(nx:valued cs p x=true)(ny:valued cs p y=true)(ne:qP (ak cs x.2 p.1) (ak cs y.2 p.1)=false)(h:(uZ (ak cs x.2 p.1) (ak cs y.2 p.1)==decide (p.2.1 ="up"))=true):cQ cs wy (p::ps) x y=true:=by
 unfold valued at nx ny;have nx:ah (ak cs x.2 p.1)=false:=by simpa using nx
 have ny:ah (ak cs y.2 p.1)=false:=by simpa using ny
 show(if qP (ak cs x.2 p.1) (ak cs y.2 p.1)=true then cQ cs wy ps x y else bL p (ak cs x.2 p.1) (ak cs y.2 p.1))=true;rw[ne,if_neg zd];unfold bL;rw[nx,ny,if_neg<|by simp];exact h
theorem Ld{x y:D}(h:uZ x y=true):qP x y=false:=by cases x with|int i=>(cases y with|int j=>(exact zo λe=>by rw[e,FX]at h;cases h)|_=>cases h)|str i=>(cases y with|str j=>(exact zo λe=>by rw[e,FX]at h;cases h)|_=>cases h)|_=>cases h
theorem Le(x y:D):qP x y=qP y x:=by cases x<;>cases y<;>first|rfl|exact yO.mpr ⟨Eq.symm,Eq.symm⟩
theorem kN(B:Bm mg base):Ok P w base T.eC 6 (La t):=by
 refine T.eC.F.okC (k:=5) kL (by rintro ds S R Z ⟨_,_,_,_,_,_,e,_⟩;rw[e];rfl) ?_;rintro gT A outer s H E ds S R Z uh hr ⟨cs,ps,p,wy,l,rs,e,hg,Lg,Md,hl,hn,my,hv,XQ,ht,q⟩;subst e;obtain⟨c,hc,ec⟩:=Lg p zj;obtain⟨k,hk⟩:=y8 hg Lg;have DL:Bf ((rs.map ag).map<|Es cs p.1):=Ia (λr hr=>hk _<|my.1 r hr) hv;have OU:(rs.map ag).length<64:=by rw[zb];exact hn
 have same:∀x y:Row,x∈rs->y∈rs->Es cs p.1 (ag x)=Es cs p.1 (ag y)->cQ cs wy ps x y=true->cQ cs wy (p::ps) x y=true:=λx y hx hy e h=>by show(if qP (ak cs x.2 p.1) (ak cs y.2 p.1)=true then cQ cs wy ps x y else _)=true;rw[if_pos<|(du (hk _<|my.1 x hx).2 (hk _<|my.1 y hy).2).mpr e];exact h
 have step:∀x,x∈rs.map ag->∀Qk:KD,∀S':aq,Qk (Es cs p.1 x) S'->∀Zq,mj [D.tup<|cs.map aD,x,.str p.1] S' Qk Zq:=λx hx Qk S' hQ _=>by obtain⟨r,hr,rfl⟩:=zi.mp hx;exact{cs,r,c,by rw[ec],hg,my.1 r hr,hc,by rw[ec];exact hQ}
 refine{_,(sc (si (bp bf hr.u (ix hr.u (dv 1) di) ds) (s1<|sr<|PL (N:=["row","columns","part"]) (src:=[none,some 0,some 1]) (uh.trans T.fk) ⟨T.dj,B⟩ hr (V2 (ai fL) ["columns","part","rows"] rfl rfl<|by trivial) (dv 2) (λ_ _ _ _=>(cf ((dJ T).mono<|by decide) (hr.in1.in1.deeper _) T.cw.m T.cw.k T.cw.b d0<|al 1<|al 0<|ac (ix (hr.in1.in1.deeper _).units (dv 2) di) an)) T.g_ fB) s0)<|s1<|sr<|Xf (N:=["row","columns","part"]) (src:=[none,some 0,some 1]) (uh.trans T.fk) ⟨T.dj,B⟩ hr (V2 (ai fL) ["columns","part","rows"] rfl rfl<|by trivial) (dv 2) (λ_ _ _ _=>(cf ((dJ T).mono<|by decide) (hr.in1.in1.deeper _) T.cw.m T.cw.k T.cw.b d0<|al 1<|al 0<|ac (ix (hr.in1.in1.deeper _).units (dv 2) di) an)) T.g_ fB),?_};rcases rJ Md with e1|e1;refine !!!⟨pA (by rw[e1];decide +kernel) !{l,rs.map ag,Es cs p.1,rfl,hl,OU,ht,DL,λx hx S' hs Qk hQ=>!!!!⟨step x hx _ S' (hQ S'<|.refl _) _⟩,λg S2 a hg hs ha=>?_}⟩;obtain⟨c_,e,pm,h⟩:=nM hg;rw[e];refine{S.set a<|.lst<|c_.map ag,bF hs,q c_ a pm (h _ _ XQ (λx y hx hy eB=>?_) same)<|bW hs ha};have eB:=K9 (a:=ak cs x.2 p.1) (b:=ak cs y.2 p.1) eB;exact Lb (hv x hx) (hv y hy) (Ld eB) (by rw[eB,zr e1];rfl);refine !!!⟨SX (by rw[e1];decide +kernel) !{l,rs.map ag,Es cs p.1,rfl,hl,OU,ht,DL,λx hx S' hs Qk hQ=>!!!!⟨step x hx _ S' (hQ S'<|.refl _) _⟩,λg S2 a hg' hs ha=>?_}⟩;obtain⟨c_,e,pm,h⟩:=nM hg';rw[e];refine{S.set a<|.lst<|c_.map ag,bF hs,q c_ a pm (h _ _ XQ (λx y hx hy eB=>?_) same)<|bW hs ha};have eB:=K9 (a:=ak cs y.2 p.1) (b:=ak cs x.2 p.1) eB;have ne:=Ld eB;refine Lb (hv x hx) (hv y hy) (by rw[Le];exact ne) ?_;have nn:∀r∈rs,ak cs r.2 p.1≠.av:=λr hr=>bz (by have:=hv r hr;unfold valued at this;simpa using this);have HR:ak cs x.2 p.1≠ak cs y.2 p.1:=λe=>by have:=(du (hk _<|my.1 y hy).2 (hk _<|my.1 x hx).2).mpr e.symm;rw[ne]at this;cases this
 have:=nL (hk _<|my.1 x hx) (hk _<|my.1 y hy) (nn x hx) (nn y hy) HR;rw[eB]at this;have h2:uZ (ak cs x.2 p.1) (ak cs y.2 p.1)=false:=by simpa using this
 rw[h2,e1,zo<|by trivial];rfl
def Tb(t:dY)(S:aq):Prop:=S t.aR=some (.tab qK)/\S t.aK=some (.tab qV)
theorem Tb.sub{t:dY}{S S':aq}(h:Tb t S)(s:Sub S S'):Tb t S':={s _ _ h.1,s _ _ h.2}
noncomputable def FY(b:Bool)(cs:ww)(p:Part):D->Bool|.tup [_,.tup ws]=>ah (ak cs ws p.1)==b|_=>false
theorem pF{rs:wS}{f:D->Bool}{g:Row->Bool}(h:∀r,f (ag r)=g r):((rs.map ag).filter f).map id=(rs.filter g).map ag:=by rw[List.map_id,List.filter_map];exact congrArg (List.map ag)<|List.filter_congr λr _=>h r
inductive Lh(t:dY)(ds:v0)(S:aq)(R:KD)(Z:KX):Prop where
 |mk (cs:ww)(ps:wP)(p:Part)(wy:Str)(l:Addr)(rs:wS)(h0:ds=[.tup<|cs.map aD,p3 p,.ref l])(h1:Gd cs)(h2:Pin cs<|p::ps)(h3:mi p.2.1=true)(h4:S l=some (.lst<|rs.map ag))(h5:rs.length<64)(h6:Rg cs rs)(h7:(rs.Pairwise λa b=>cQ cs wy ps a b=true))(h8:Tb t S)(h9:∀(c_:wS)(a:Addr),c_.Perm rs->(c_.Pairwise λa b=>cQ cs wy (p::ps) a b=true)->S a=none->R (.ref a) (S.set a<|.lst<|c_.map ag))
theorem nO(B:Bm mg base):Ok P w base T.fP 7 (Lh t):=by
 obtain⟨cs,ps,p,wy,l,rs,e,hg,Lg,Md,hl,hn,my,XQ,ht,q⟩:T.fP.F.bx cG;obtain⟨c,hc,ec⟩:=Lg p zj;have hz:(rs.map ag).length<=1000:=by rw[zb];lia
 refine{_,(sc (xl (N:=["row","columns","part"]) (src:=[none,some 0,some 1]) 3 cG.nd (oj gY) (il<|dv 2) (if1<|bi kF (aM T.cw (dJ T) hr<|al 1<|al 0<|ac (bn (dv 2) di) an) dn)<|dv 0)<|sc (xl (N:=["row","columns","part"]) (src:=[none,some 0,some 1]) 4 cG.nd (oj gY) (il<|dv 2) (if1<|bi lQ (aM T.cw (dJ T) hr<|al 1<|al 0<|ac (bn (dv 2) di) an) dn)<|dv 0)<|sc (bQ (i:=4) cG.nd<|aM T.eC (kN T B) hr<|al 0<|al 1<|al 4 an)<|s1<|sr<|RX (bi bf (bn (dv 1) di) ds) (bd bu (dv 3)<|dv 4)<|bd bu (dv 4)<|dv 3),?_};refine !{_,hl,?_};refine ku (FY true cs p) id hl hz (λd hd Q Q' hQ SW=>?_) λp1 Ax=>?_;obtain⟨r,hr,rfl⟩:=zi.mp hd;refine !!!!{cs,r,c,(show[D.tup<|cs.map aD,ag r,D.str p.1]=[_,_,D.str c.1] by rw[ec]),hg,my.1 r hr,hc,?_};rw[ec];refine{_,rfl,ck (λh=>!⟨hQ ?_⟩) λh=>SW ?_};show(ah (ak cs r.2 p.1)==true)=true;rw[show ah (ak cs r.2 p.1)=true from h];rfl;show(ah (ak cs r.2 p.1)==true)=false;rw[show ah (ak cs r.2 p.1)=false from h];rfl;have e1:((rs.map ag).filter<|FY true cs p).map id=(rs.filter λr=>!valued cs p r).map ag:=pF λr=>by show(ah (ak cs r.2 p.1)==true)=!valued cs p r;unfold valued;cases ah (ak cs r.2 p.1)<;>rfl
 rw[show({rs.map ag,λS=>vI S (.ref l)<|rs.map ag}:rm).xs=rs.map ag from rfl,e1];have TF:Sub S (S.set p1<|.lst<|(rs.filter λr=>!valued cs p r).map ag):=.new Ax;have h1:(S.set p1<|.lst<|(rs.filter λr=>!valued cs p r).map ag) p1=some (.lst<|(rs.filter λr=>!valued cs p r).map ag):=aa;generalize S.set p1 (.lst<|(rs.filter λr=>!valued cs p r).map ag)=S1 at TF h1⊢;have y4:=TF _ _ hl;refine !{_,y4,?_};refine ku (FY false cs p) id y4 hz (λd hd Q Q' hQ SW=>?_) λp2 gD=>?_;obtain⟨r,hr,rfl⟩:=zi.mp hd;refine !!!!{cs,r,c,(show[D.tup<|cs.map aD,ag r,D.str p.1]=[_,_,D.str c.1] by rw[ec]),hg,my.1 r hr,hc,?_};rw[ec];refine{_,rfl,ck (λh=>!⟨hQ ?_⟩) λh=>SW ?_};show(ah (ak cs r.2 p.1)==false)=true;rw[show ah (ak cs r.2 p.1)=false from nt h];rfl;show(ah (ak cs r.2 p.1)==false)=false;rw[show ah (ak cs r.2 p.1)=true from nf h];rfl;have e2:((rs.map ag).filter<|FY false cs p).map id=(rs.filter<|valued cs p).map ag:=pF λr=>by show(ah (ak cs r.2 p.1)==false)=valued cs p r;unfold valued;cases ah (ak cs r.2 p.1)<;>rfl
 rw[show({rs.map ag,λS=>vI S (.ref l)<|rs.map ag}:rm).xs=rs.map ag from rfl,e2];have L7:Sub S (S1.set p2<|.lst<|(rs.filter<|valued cs p).map ag):=TF.trans<|.new gD;have h21:(S1.set p2<|.lst<|(rs.filter<|valued cs p).map ag) p1=_:=(ae<|gU h1 gD).trans h1;have h22:(S1.set p2<|.lst<|(rs.filter<|valued cs p).map ag) p2=_:=aa;generalize S1.set p2 (.lst<|(rs.filter<|valued cs p).map ag)=S2 at L7 h21 h22⊢;have fl:(rs.filter<|valued cs p).length<=rs.length:=List.length_filter_le _ _;have fl2:(rs.filter λr=>!valued cs p r).length<=rs.length:=List.length_filter_le _ _;refine !!!{cs,ps,p,wy,p2,rs.filter<|valued cs p,rfl,hg,Lg,Md,h22,by lia,my.sub List.filter_sublist,λr hr=>(yD.mp hr).2,XQ.sublist List.filter_sublist,(ht.sub L7).2,λV p3 hV Zt CA=>?_};obtain⟨pm,pw⟩:=H_ XQ hV Zt;have h31:(S2.set p3<|.lst<|V.map ag) p1=_:=(ae<|gU h21 CA).trans h21;have h33:(S2.set p3<|.lst<|V.map ag) p3=some (.lst<|V.map ag):=aa;have XR:Sub S (S2.set p3<|.lst<|V.map ag):=L7.trans<|.new CA;generalize S2.set p3 (.lst<|V.map ag)=S3 at h31 h33 XR⊢;have hVl:=hV.length_eq;refine !!!⟨ck (λh=>?_) λh=>?_⟩;rw[if_pos<|zy h]at pm pw;refine !!{_,_,h31,h33,sm<|by rw[zb,zb];lia,λp4 hp4=>?_};rw[<-zI];exact{_,bF XR,q _ p4 pm pw<|bW XR hp4};rw[if_neg<|z0 h]at pm pw;refine !!{_,_,h33,h31,sm<|by rw[zb,zb];lia,λp4 hp4=>?_};rw[<-zI];exact{_,bF XR,q _ p4 pm pw<|bW XR hp4}
structure Og(cs:ww)(ps:wP)(wy:Str):Prop where
 pin:Pin cs ps
 TH:∀p∈ps,mi p.2.1=true
 way:mi wy=true
 ok:x9 cs ps wy=true
 tx:∀p∈ps,Pok p
noncomputable def cY(ps:wP)(wy:Str):D:=.tup [.tup<|ps.map p3,.str wy]
inductive Ew(S:aq)(cs:ww)(ps:wP)(wy:Str)(l:Addr)(rs:wS)(qs:wP)(aG:SD)(S':aq):Prop where
 |mk (o:wn)(p:Addr)(c_:wS)(h0:aG=[some<|.tup<|cs.map aD,some<|cY ps wy,some<|.ref l,some<|.ref p,o])(h1:S p=none)(h2:S' p=some (.lst<|c_.map ag))(h3:Sub S S')(h4:c_.Perm rs)(h5:c_.Pairwise λa b=>cQ cs wy qs a b=true):Ew S cs ps wy l rs qs aG S'
inductive P9(t:dY)(ds:v0)(S:aq)(R:KD)(Z:KX):Prop where
 |mk (cs:ww)(ps:wP)(wy:Str)(l:Addr)(rs:wS)(h0:ds=[.tup<|cs.map aD,cY ps wy,.ref l])(h1:Gd cs)(h2:Og cs ps wy)(h3:S l=some (.lst<|rs.map ag))(h4:rs.length<64)(h5:Rg cs rs)(h6:Tb t S)(h7:∀(c_:wS)(a:Addr),c_.Perm rs->(c_.Pairwise λa b=>cQ cs wy ps a b=true)->S a=none->R (.ref a) (S.set a<|.lst<|c_.map ag))
structure Vw(C:Addr)(S:aq)(a:Addr)(cs:ww)(m:D)(rows:wS):Prop where
 sh:∃F dl rs,bE C S a F cs dl rs/\rs.length<64/\uW dl.length m≠none/\∀i ss,uW dl.length m=some i->ss.Perm (rs.map (·.1))->PyProof.Rows.sortedS ss=true->mf rs i ss=rows.map ag
 mo:Gt S m
 len:rows.length<64
 rg:Rg cs rows
theorem bE.sub(b:Sub S S')(h:bE C S a F cs dl rs):bE C S' a F cs dl rs:=by obtain⟨ld,lr,ra,h,e⟩:=h;exact{ld,lr,ra,{b _ _ h.ins,b _ _ h.Au,b _ _ h.run,λr hr=>b _ _<|h.cell r hr,h.kn,h.an,h.sz},e}
theorem BM(B:Bm mg base):Ok P w base T.sW 8 (P9 t):=by
 obtain⟨cs,ps,wy,l,rs,e,hg,ho,hl,hn,my,ht,q⟩:T.sW.F.bx gy;refine{_,(sc (bQ (i:=3) gy.nd<|aM T.fO (nN T B) hr<|al 2<|ac (bn (dv 1) di) an)<|sc (Ba<|JS (irt T.sT<|ac (bn (dv 1) di) an) (gn (i:=4) gy.nd)<|s1<|bQ (i:=3) gy.nd<|aM T.fP (nO T B) hr<|al 0<|al 4<|al 3 an)<|s1<|sr<|dv 3),?_};refine !!!{cs,l,rs,wy,rfl,ho.way,hl,hn,my,ht.1,λrs1 p1 pm1 pw1 Ax=>?_};have hrl:ps.reverse.length=ps.length:=zP;refine{Ew S cs ps wy l rs ps,?_,?_};refine !!!⟨?_⟩;refine{λi=>Ew S cs ps wy l rs (ps.reverse.take i).reverse,{none,p1,rs1,rfl,Ax,aa,.new Ax,pm1,pw1},λ_ _ _ _=>trivial,?_,?_};rintro i d aG S' hd ⟨o,p,c_,rfl,hp,dy,sb,pm,pw⟩;have hd:(ps.map p3).reverse[i]?=some d:=hd;rw[<-List.map_reverse,zh]at hd;cases e5:ps.reverse[i]? with|none=>(rw[e5]at hd;cases hd)|some pt=>rw[e5]at hd;cases hd;have RP:pt∈ps:=List.mem_reverse.mp<|zp e5;have et:(ps.reverse.take<|i+1).reverse=pt::(ps.reverse.take i).reverse:=(by rw[List.take_add_one,e5,List.reverse_append];rfl);have Uw:Pin cs (pt::(ps.reverse.take i).reverse):=λx hx=>(by rcases zm.mp hx with rfl|hx;exact ho.pin _ RP;exact ho.pin _<|List.mem_reverse.mp<|List.mem_of_mem_take<|List.mem_reverse.mp hx);refine !!!{cs,(ps.reverse.take i).reverse,pt,wy,p,c_,rfl,hg,Uw,ho.TH pt RP,dy,by rw[pm.length_eq];exact hn,my.perm pm,pw,ht.sub sb,λPK p2 pm2 pw2 gD=>?_};rw[<-et]at pw2;exact{_,p2,PK,rfl,bW sb gD,aa,sb.trans<|.new gD,pm2.trans pm,pw2}
 rintro aG S' ⟨o,p,c_,rfl,hp,dy,sb,pm,pw⟩;have pw:c_.Pairwise λa b=>cQ cs wy (ps.reverse.take (ps.map p3).reverse.length).reverse a b=true:=pw;rw[zP,zb,List.take_of_length_le<|Nat.le_of_eq hrl,List.reverse_reverse]at pw;exact fo ⟨o,p,c_,rfl,hp,dy,sb,pm,pw⟩;rintro aG S' ⟨o,p,c_,rfl,hp,dy,sb,pm,pw⟩;refine !{S.set p<|.lst<|c_.map ag,λb c hb=>?_,q c_ p pm pw hp};by_cases e:b=p;subst e;rw[aa]at hb;cases hb;exact dy;rw[ae e]at hb;exact sb b c hb
noncomputable def P_(cs:ww)(d:D):D->Bool|.tup [.str k,.tup ws]=>bZ cs (k,ws) 7 d|_=>false
inductive Li(t:dY)(ds:v0)(S:aq)(R:KD)(Z:KX):Prop where
 |mk (a cs d m rows)(h0:ds=[.ref a,d,m])(h1:Gd cs)(h2:Sq cs d)(h3:Vw t.ao S a cs m rows)(h4:∀p,S p=none->R (.ref p) (S.set p<|.lst<|(rows.filter λr=>bZ cs r 7 d).map ag))
theorem qR:Ok P w base T.iH 11 (Li t):=by obtain⟨a,cs,d,m,rows,e,hg,hd,hv,q⟩:T.iH.F.bx i5;obtain⟨F,dl,rs,hS,hn,Zu,Zv⟩:=hv.sh;obtain⟨ld,lr,ra,h,_⟩:=id hS;refine{_,(sc (bQ (i:=3) i5.nd<|eR (dv 0) T.aj T.aB (aL T) hr)<|s1<|sr<|xk (N:=["row","columns","sieve"]) (src:=[none,some 3,some 1]) (oj sN) (il<|oi (dv 0) T.aj T.dO (pz T) hr<|al 2 an) (if1<|tv<|aM T.passes (kz T 7) hr<|al 1<|al 2<|al 0 an)<|dv 0),?_};refine !{a,_,rfl,h.ins,rfl,a,F,cs,dl,rs,rfl,hS,?_};refine !{a,_,rfl,h.ins,rfl,_,rfl,a,F,cs,dl,rs,m,rfl,hS,hn,hv.mo,λi ss hi hp hs p jh=>?_,λh=>absurd h Zu};rw[Zv i ss hi hp hs];refine{_,aa,?_};refine ku (P_ cs d) id aa (by show(rows.map ag).length<=1000;rw[zb];have:=hv.len;lia) (λx hx Q Q' hQ SW=>?_) λp2 gD=>?_;obtain⟨r,hr,rfl⟩:=zi.mp hx;refine !!!{cs,d,r,rfl,hg,hd.1,hv.rg.1 r hr,_,rfl,ck (λh=>!⟨hQ h⟩) λh=>SW h};have e1:((rows.map ag).filter<|P_ cs d).map id=(rows.filter λr=>bZ cs r 7 d).map ag:=pF λr=>rfl;rw[show({rows.map ag,λS=>vI S (.ref p)<|rows.map ag}:rm).xs=rows.map ag from rfl,e1];exact{_,bF<|.new jh,q p2<|bW (.new jh) gD}
inductive XS(t:dY)(ds:v0)(S:aq)(R:KD)(Z:KX):Prop where
 |mk (a cs ps wy d m rows)(h0:ds=[.ref a,cY ps wy,d,m])(h1:Gd cs)(h2:Og cs ps wy)(h3:Sq cs d)(h4:Vw t.ao S a cs m rows)(h5:Tb t S)(h6:∀(c_:wS)(p:Addr),c_.Perm (rows.filter λr=>bZ cs r 7 d)->(c_.Pairwise λa b=>cQ cs wy ps a b=true)->S p=none->R (.ref p) (S.set p<|.lst<|c_.map ag))
theorem cI(B:Bm mg base):Ok P w base T.bU 12 (XS t):=by obtain⟨a,cs,ps,wy,d,m,rows,e,hg,ho,hd,hv,ht,q⟩:T.bU.F.bx nh;obtain⟨F,dl,rs,hS,hn,Zu,Zv⟩:=hv.sh;obtain⟨ld,lr,ra,h,_⟩:=id hS;refine{_,(s1<|sr<|aM T.sW (BM T B) hr<|ac (eR (dv 0) T.aj T.aB (aL T) hr)<|al 1<|ac (aM T.iH (qR T) hr<|al 0<|al 2<|al 3 an) an),?_};refine !{a,_,rfl,h.ins,rfl,a,F,cs,dl,rs,rfl,hS,?_};refine !!!!{a,cs,d,m,rows,rfl,hg,hd,hv,λp hp=>?_};have fl:(rows.filter λr=>bZ cs r 7 d).length<=rows.length:=List.length_filter_le _ _;have:=hv.len;refine{cs,ps,wy,p,rows.filter λr=>bZ cs r 7 d,rfl,hg,ho,aa,Nat.lt_of_le_of_lt fl this,hv.rg.sub List.filter_sublist,ht.sub<|.new hp,λc_ p2 pm pw gD=>?_};exact{_,bF<|.new hp,q c_ p2 pm pw<|bW (.new hp) gD}
theorem kd_sub(h:Sub S S')(hk:RZ S d k):RZ S' d k:=by cases d with|ref a=>(rcases hk with⟨e,ds,q⟩|⟨e,ds,q⟩;exact .inl {e,ds,h _ _ q};exact .inr {e,ds,h _ _ q})|_=>exact hk
theorem Gt.sub(h:Sub S S')(g:Gt S d):Gt S' d:={by obtain⟨k,hk⟩:=g.1;exact{k,kd_sub h hk},g.2}
theorem TJ:Gt S (.tup ws):={{.tup,rfl},λ_=>nofun}
theorem Oi(h:ws.length<=1000)(g:∀v∈ws,Gt S v):UR S (.tup ws):={TJ,λZs e=>by cases e;exact⟨h,g⟩}
theorem gt_int:Gt S (.int i):={{.int,rfl},λ_=>nofun}
theorem FZ(h:z.cps.size<=1000):Gt S (.str z):={{.str,rfl},λz' e=>by cases e;exact h}
theorem Lj(h:dF d=true):Gt S d:=by cases d with|av=>exact me|int i=>exact gt_int|str z=>have h:(decide (z.cps.size<=40)&&PyData.strOk z)=true:=h;rw[zH]at h;have:=zy h.1;exact FZ (by lia)|_=>cases h
theorem Eu(h:Paired rel cs ws):ws.length=cs.length:=by induction h with|nil=>rfl|cons _ _ ih=>rw[zQ,zQ,ih]
theorem Wg.len(h:Wg cs ws):ws.length=cs.length:=Eu h
theorem Wg.TK(h:Wg cs ws):nA cs (.tup ws)=true:=by show(decide (ws.length=cs.length)&&(List.zipWith (λc v=>iO c.2 v) cs ws).all id)=true;rw[zr h.len,ye];unfold Wg at h;induction h with|nil=>rfl|cons r t ih=>rw[List.zipWith_cons_cons,List.all_cons,ih];show(id (iO _ _)&&true)=true;rw[show id (iO _ _)=true from r.1];rfl
theorem Wg.gts(h:Wg cs ws)(hc:cs.length<=8):UR S (.tup ws):=Oi (by rw[h.len];lia) λv hv=>Lj<|h.all v hv
theorem Oj(hg:Gd cs)(hN:∀c∈cs,c.1∈CB):∀d∈cs.map aD,Ly S 60 d:=λd hd=>by obtain⟨c,hc,rfl⟩:=zi.mp hd;refine(Ly.tup (n:=0) λx hx=>?_).le (by decide);have hx:x∈[D.str c.1,D.str c.2]:=hx;simp only[zm,zM,or_false]at hx;rcases hx with rfl|rfl;exact Ly.str (KP _<|hN c hc).2;rcases (hg.2.2 c hc).2 with e|e<;>rw[e]<;>exact Ly.str (by trivial)
theorem Ol{S:aq}{a b:Addr}{ds:v0}{R:KD}(e1:S a=some (.lst ds))(e2:S b=some (.lst []))(h:∀d∈ds,Ly S 60 d)(q:R (.bl<|!ds.isEmpty) S):Iz true (.ref a) (.ref b) S R:=by obtain⟨ps,k1,k2,k3,k4⟩:=Ly.all h;refine{.list ps,.list [],⟨ds,ps,e1,rfl,k1⟩,{[],[],e2,rfl,by simp only[DpAll]},by simp only[PyData.canLay0];exact k2,by simp only[PyData.canLay0,PyData.canLayAll0],.inl<|by simp only[PyData.depth];lia,?_};rw[if_pos rfl,KY,show ps.isEmpty=ds.isEmpty by cases ps<;>cases ds<;>first|rfl|cases k4];exact q
theorem Om{n a b tn:Nat}(ha:a<n)(hb:b<n)(h:(a+tn)%n=(b+tn)%n):a=b:=by rcases Nat.lt_trichotomy a b with l|l|l;have:=Nat.sub_mod_eq_zero_of_mod_eq h.symm;rw[show b+tn-(a+tn)=b-a by lia,Nat.mod_eq_of_lt<|by lia]at this;lia;exact l;have:=Nat.sub_mod_eq_zero_of_mod_eq h;rw[show a+tn-(b+tn)=a-b by lia,Nat.mod_eq_of_lt<|by lia]at this;lia
noncomputable def wd(cs:ww)(tn k:Nat):Str:=(cs.getD ((tn+k)%cs.length) ("","")).1
theorem BN(h:0<cs.length):∃c∈cs,cs[(tn+k)%cs.length]?=some c/\c.1=wd cs tn k:=by have eB:(tn+k)%cs.length<cs.length:=Nat.mod_lt _ h;refine{cs[(tn+k)%cs.length],List.getElem_mem eB,ze eB,?_};unfold wd;rw[zw,ze eB];rfl
theorem BO{cs:ww}(hg:(cs.map Prod.fst).Nodup){tn i:Nat}(hi:i<=cs.length):((List.range i).map<|wd cs tn).Nodup:=by
 refine List.pairwise_map.mpr<|List.nodup_range.imp_of_mem λ{a b} ha hb n e=>n ?_;have ha:=zS.mp ha;have hb:=zS.mp hb;have h0:0<cs.length:=by lia
 have la:(tn+a)%cs.length<cs.length:=Nat.mod_lt _ h0;have lb:(tn+b)%cs.length<cs.length:=Nat.mod_lt _ h0;unfold wd at e;rw[zw,ze la,zw,ze lb]at e;have e:(cs[(tn+a)%cs.length]).1=(cs[(tn+b)%cs.length]).1:=e;have e2:(cs.map Prod.fst)[(tn+a)%cs.length]'(by rw[zb];exact la)=(cs.map Prod.fst)[(tn+b)%cs.length]'(by rw[zb];exact lb):=by rw[List.getElem_map,List.getElem_map];exact e
 have e3:=(List.getElem_inj hg).mp e2;rw[Nat.add_comm tn a,Nat.add_comm tn b]at e3;exact Om (n:=cs.length) (by lia) (by lia) e3
inductive Ow(S1:aq)(cs:ww)(c0:Int)(lx lp:Addr)(k tn i:Nat)(aG:SD)(S':aq):Prop where
 |mk (o5 o6:wn)(ps:wP)(h0:aG=[some<|.tup<|cs.map aD,some<|.int c0,some<|.ref lx,some<|.int (k:Nat),some<|.ref lp,o5,o6])(h1:ps.map Prod.fst=(List.range i).map (wd cs tn))(h2:∀p∈ps,mi p.2.1=true/\x8 p.2.2=true)(h3:S'=S1.set lp (.lst<|ps.map p3)):Ow S1 cs c0 lx lp k tn i aG S'
inductive we(ds:v0)(S:aq)(R:KD)(Z:KX):Prop where
 |mk (cs:ww)(c:Int)(h0:ds=[.tup<|cs.map aD,.int c])(h1:Gd cs)(h2:∀(ps:wP)(wy:Str),Og cs ps wy->R (cY ps wy) S)
theorem Lk:Ok P w base T.xB 2 we:=by
 obtain⟨cs,c0,e,hg,q⟩:T.xB.F.bx eK;have h8:=hg.1;have Cs:(cs.map aD).length=cs.length:=zb _;refine{_,(sc (bQ (i:=2) eK.nd<|aM T.gx (ig T) hr<|al 1<|ac di an)<|sc (bQ (i:=3) eK.nd<|cb Pm T.PU JF<|ac (cb a_ T.aW aI<|al 0 an)<|ac (uG<|bn (cJ<|ac di<|ac di<|ac di<|ac di<|ac di<|ac di<|ac di<|ac di an)<|bd ba (bn (dv 2) di) di) an)<|sc (bQ (i:=4) eK.nd<|cJ an)<|sc (Ba<|JS (Pr T.gu<|al 3 an) (gn (i:=5) eK.nd)<|sc (bQ (i:=6) eK.nd<|bn (bn (dv 0)<|bd ba (bd bu (bn (dv 2) di)<|dv 5)<|cb a_ T.aW aI<|al 0 an) di)<|s1<|se<|bm zR ya yb cK (dv 4)<|ac (bX<|al 6<|ac (uG<|bn (cJ<|ac ds<|ac ds an)<|bd ba (bn (dv 2)<|bd bu di<|dv 5) di)<|ac (uG<|bn (cJ<|ac ds<|ac ds an)<|bd ba (bd bH (bn (dv 2)<|bd bu di<|dv 5) di) di) an) an)<|s1<|sr<|bX<|ac (ct ft T.bh aS<|al 4 an)<|ac (uG<|bn (cJ<|ac ds<|ac ds an)<|bd ba (bn (dv 2) di) di) an),?_};refine !{c0,12,rfl,by decide,λxs lx _ Mb hx wR=>?_};have s1:=Sub.new (c:=.lst<|xs.map D.int) wR;have hX:(S.set lx<|.lst<|xs.map D.int) lx=some (.lst<|xs.map D.int):=aa;generalize S.set lx (.lst<|xs.map D.int)=S1 at s1 hX⊢;have at_:∀k:Nat,k<12->∃x:Int,kD (xs.map D.int) ((k:Nat):Int)=some (.int x)/\0<=x:=λk hk=>tL (by lia) (by rw[zb];lia) hx;obtain⟨x0,e0,_⟩:=at_ 0 (by decide);obtain⟨x1,e1,x10⟩:=at_ 1 (by decide);obtain⟨x11,e11,_⟩:=at_ 11 (by decide);obtain⟨tn,rfl⟩:=Int.eq_ofNat_of_zero_le x10;refine !!{HM,λp hp=>!{_,_,(Sub.new hp) _ _ hX,e0,by decide,cH (zL _<|by decide) (zK _<|by decide) hp λd hd=>?_}};obtain⟨m,rfl⟩:∃m:Nat,d=.int m:=by have hd:d∈[D.int 1,.int 2,.int 0,.int 3,.int 1,.int 2,.int 8,.int 3]:=hd;simp only[zm,zM,or_false]at hd;rcases hd with h|h|h|h|h|h|h|h;exact{1,h};exact{2,h};exact{0,h};exact{3,h};exact{1,h};exact{2,h};exact{8,h};exact{3,h}
 obtain⟨k,hk,ek⟩:∃k:Nat,k<=cs.length/\(if decide ((m:Int)<(((cs.map aD).length:Nat):Int))=true then (m:Int) else (((cs.map aD).length:Nat):Int))=(k:Int):=by rw[Cs];by_cases h:(m:Int)<((cs.length:Nat):Int);exact{m,by lia,by rw[zr h,if_pos rfl]};exact{cs.length,zq _,by rw[zo h,if_neg zd]}
 refine{_,_,rfl,?_};have Zw:(if (λi j:Int=>decide<|i<j) ((m:Nat):Int) (((cs.map aD).length:Nat):Int)=true then ((m:Nat):Int) else (((cs.map aD).length:Nat):Int))=((k:Nat):Int):=ek;rw[Zw];refine{uS,λlp UW=>?_};have nxp:lx≠lp:=gU hX UW;refine{Ow S1 cs c0 lx lp k tn k,?_,?_};refine !{((k:Nat):Int),rfl,by lia,by lia,?_};refine{Ow S1 cs c0 lx lp k tn,{none,none,[],rfl,rfl,λ_ h=>(nomatch h),rfl},λ_ _ _ _=>trivial,?_,?_};rintro i d aG S' hd ⟨o5,o6,ps,rfl,hn,dk,rfl⟩;have hd:(dM 0 ((k:Nat):Int).toNat)[i]?=some d:=hd;obtain⟨hi,rfl⟩:=cL hd;have hi:i<k:=by lia
 have dy:ps.length=i:=by have:=congrArg List.length hn;simpa using this
 obtain⟨c,hc,ec,xk⟩:=BN (cs:=cs) (tn:=tn) (k:=i) (by lia);have Em:(S1.set lp<|.lst<|ps.map p3) lx=some (.lst<|xs.map D.int):=(ae nxp).trans hX;have hP2:(S1.set lp<|.lst<|ps.map p3) lp=some (.lst<|ps.map p3):=aa;have eat:kD (cs.map aD) ((((tn:Nat):Int)+(0+((i:Nat):Int)))%(((cs.map aD).length:Nat):Int))=some (aD c):=by rw[Cs,show(((tn:Nat):Int)+(0+((i:Nat):Int)))%((cs.length:Nat):Int)=(((tn+i)%cs.length:Nat):Int) by rw[Int.zero_add,Int.natCast_emod,Int.natCast_add]];refine cE ?_;rw[zh,ec];rfl
 obtain⟨xi,Zx,_⟩:=at_ (2+i) (by lia);have Zx:kD (xs.map D.int) (2+(0+((i:Nat):Int)))=some (.int xi):=by rw[show(2:Int)+(0+((i:Nat):Int))=((2+i:Nat):Int) by lia];exact Zx
 refine !!{_,_,Em,e1,_,rfl,_,rfl,_,rfl,by rw[Cs];lia,_,eat,_,rfl,?_};refine{_,rfl,{rfl,_,hP2},_,rfl,bR,λp hp=>!!{_,_,(Sub.new hp) _ _ Em,Zx,by decide,cH (zL _<|by decide) (zK _<|by decide) hp λd hd=>?_}};obtain⟨wy,rfl,Md⟩:∃wy:Str,d=.str wy/\mi wy=true:=by have hd:d∈[D.str "up",.str "down"]:=hd;simp only[zm,zM,or_false]at hd;rcases hd with h|h;exact{_,h,by trivial};exact{_,h,by trivial}
 refine{bR,λp hp=>!!{_,_,(Sub.new hp) _ _ Em,Zx,{by decide,by trivial},by decide,cH (zL _<|by decide) (zK _<|by decide) hp λd hd=>?_}};obtain⟨en,rfl,Ct⟩:∃en:Str,d=.str en/\x8 en=true:=by have hd:d∈[D.str "first",.str "last"]:=hd;simp only[zm,zM,or_false]at hd;rcases hd with h|h;exact{_,h,by trivial};exact{_,h,by trivial}
 refine{qO,lp,_,_,rfl,rfl,hP2,bg<|by rw[zb];lia,?_};refine{_,_,ps++[(c.1,wy,en)],rfl,?_,λx hx=>?_,?_};rw[zI,hn,List.range_succ,zI];show _=_++[wd cs tn i];rw[<-xk];rfl;rcases zN.mp hx with h|h;exact dk x h;rw[zE.mp h];exact⟨Md,Ct⟩;rw[aQ,zI];rfl;rintro aG S' ⟨o5,o6,ps,rfl,hn,dk,rfl⟩;rw[show({dM 0 ((k:Nat):Int).toNat,λ_=>True}:rm).xs.length=((k:Nat):Int).toNat from cq,show((k:Nat):Int).toNat=k by lia]at hn;exact fo ⟨o5,o6,ps,rfl,hn,dk,rfl⟩;rintro aG S' ⟨o5,o6,ps,rfl,hn,dk,rfl⟩;have Em:(S1.set lp<|.lst<|ps.map p3) lx=some (.lst<|xs.map D.int):=(ae nxp).trans hX;refine !{_,_,rfl,.inl aa,bR,λp hp=>!{_,_,(Sub.new hp) _ _ Em,e11,by decide,cH (zL _<|by decide) (zK _<|by decide) hp λd hd=>?_}};obtain⟨wy,rfl,Md⟩:∃wy:Str,d=.str wy/\mi wy=true:=by have hd:d∈[D.str "up",.str "down"]:=hd;simp only[zm,zM,or_false]at hd;rcases hd with h|h;exact{_,h,by trivial};exact{_,h,by trivial}
 have dy:ps.length=k:=by have:=congrArg List.length hn;simpa using this
 have pin:Pin cs ps:=λx hx=>by have:x.1∈ps.map Prod.fst:=zi.mpr ⟨x,hx,rfl⟩;rw[hn]at this;obtain⟨k,hk,e⟩:=zi.mp this;have:=zS.mp hk;obtain⟨c,hc,_,ec⟩:=BN (cs:=cs) (tn:=tn) (k:=k) (by lia);exact{c,hc,ec.trans e}
 refine{bR,S,s1.trans<|.new UW,q ps wy {pin,λx hx=>(dk x hx).1,Md,?_,λx hx=>?_}};unfold x9;rw[zr<|show ps.length<=8 by lia,ye,zH,zH];refine{zX.mpr λx hx=>?_,zr<|by rw[hn];exact BO hg.2.1 hk,Md};obtain⟨c,hc,ec⟩:=pin x hx;unfold fq;rw[zr<|zi.mpr ⟨c,hc,ec⟩,(dk x hx).1,(dk x hx).2];rfl;obtain⟨c,hc,ec⟩:=pin x hx;obtain⟨h1,h2⟩:=dk x hx;refine{by rw[<-ec];exact pj (hg.2.2 c hc).1,by rcases rJ h1 with e|e<;>rw[e]<;>decide +kernel,?_};unfold x8 at h2;simp only[yK,zZ]at h2;rcases h2 with e|e<;>rw[e]<;>decide +kernel
theorem Qa{c1:Bool}{X A B:Prop}(c2:Bool)(hx:(if c2=true then A else B)->X)(h:if (c1||c2)=true then A else B):if c1=true then (if true=true then A else B) else X:=by cases c1 with|true=>exact h|false=>exact hx h
theorem Ex{c1:Bool}{X A B:Prop}(c2:Bool)(hx:(if c2=true then A else B)->X)(h:if (c1&&c2)=true then A else B):if c1=true then X else (if false=true then A else B):=by cases c1 with|true=>exact hx h|false=>exact h
theorem keys_str{out:v0} : (∀d∈out,∃z∈KS,d=.str z)->∃ks:j4,out=ks.map D.str/\∀k∈ks,k∈KS:=by induction out with|nil=>exact λ_=>{[],rfl,λ_ h=>(nomatch h)}|cons x l ih=>intro h;obtain⟨z,hz,e⟩:=h x zj;obtain⟨ks,e2,hk⟩:=ih λd hd=>h d<|zg _ hd;exact{z::ks,by rw[e,e2];rfl,λk Jq=>(zm.mp Jq).elim (λe=>e ▸ hz)<|hk k}
theorem Ey{rel:D->D->Prop}{xs out:v0}(h:Paired rel xs out):∀v∈out,∃x,rel x v:=by induction h with|nil=>exact λ_ h=>(nomatch h)|cons r t ih=>exact List.forall_mem_cons.mpr {{_,r},ih}
theorem Qb{cs:ww}{d:D}(h:Lf cs d){n:Nat} : qh (n+1) d=1:=by rcases h with rfl|⟨ks,rfl,_⟩|⟨o,c,v,_,_,_,rfl⟩<;>rfl
theorem TL(n:Nat)(e:D):qh (n+1) (.tup [.str "not",e])=qh n e+1:=by show((nJ _).map<|qh n).sum+1=_;rw[y0];simp
theorem Oo{o:Str}(h:o ="and"\/o ="or")(n:Nat)(ds:v0):qh (n+1) (.tup [.str o,.tup ds])=(ds.map<|qh n).sum+1:=by show((nJ _).map<|qh n).sum+1=_;rw[y1 h]
theorem Ib{I:rm}{S1:aq}{g:A6}{te:TD}{σ:SD}{src:List<|Option Nat}{R:KD}(P:Nat->List D->aq->Prop)(h0:P 0 [] S1)(aN:∀i out S,P i out S->I.ok S)(step:∀i d out S,I.xs[i]?=some d->P i out S->out.length<sizeLine/\g d (mO σ src) S λf_ S3=>te f_ S3 (λv S5=>P (i+1) (out++[v]) S5) Zf)(fin:∀out S2,P I.xs.length out S2->∀p,S2 p=none->R (.ref p) (S2.set p<|.lst out)):A8 σ src g mP te R I S1:=by
 refine{P,h0,aN,λi d out S hd h=>{(step i d out S hd h).1,?_},fin};have e:(λ(f_:SD)(S3:aq)=>mP f_ S3 (λb S4=>if b=true then te f_ S4 (λv S5=>P (i+1) (out++[v]) S5) Zf else P (i+1) out S4) Zf)=λf_ S3=>te f_ S3 (λv S5=>P (i+1) (out++[v]) S5) Zf:=by funext f_ S3;simp[mP]
 rw[e];exact(step i d out S hd h).2
theorem Ll{f:D->Nat}{k:Nat} : ∀{l:v0},(∀e∈l,f e<=k)->(l.map f).sum<=k*l.length|[],_=>zV _|e::l,h=>by have h1:=h e zj;have ih:=Ll λx hx=>h x<|zg _ hx;rw[zC,List.sum_cons,zQ,Nat.mul_succ];lia
noncomputable def TM:Nat->Nat|0=>0|n+1=>1+3*TM n
theorem TN{S S':aq}{p:Addr}{c c':Ce}(h:Sub (S.set p c) S'):Sub (S.set p c') (S'.set p c'):=λb x hb=>by by_cases e:b=p;subst e;rw[aa]at hb⊢;exact hb;rw[ae e]at hb⊢;exact h b x<|(ae e).trans hb
inductive TQ(n:Nat)(ds:v0)(S:aq)(R:KD)(Z:KX):Prop where
 |mk (cs:ww)(lx:Addr)(m:Nat)(xs:rp)(hn:n=m+1)(h0:ds=[.tup<|cs.map aD,.ref lx,.int ((m:Nat):Int)])(h1:Cg cs)(h2:S lx=some (.lst<|xs.map D.int))(h3:xs.length<=20)(h4:∀x∈xs,0<=x)
  (h5:∀(d:D)(ys:rp),Sg cs n d->qh n d<=TM n->ys.length<=20->(∀y∈ys,0<=y)->R d (S.set lx<|.lst<|ys.map D.int)):TQ n ds S R Z
theorem pG(T:Txt w K mg t):∀n,Ok P w base T.iM (2+n) (TQ n)
 |0=>by refine T.iM.F.bx (k:=1) cO ?_;rintro _ _ _ _ _ _ _ S R Z hr ⟨_,_,_,_,e,_⟩;cases e
 |n+1=>by
  refine T.iM.F.bx (k:=2+n) cO ?_;obtain⟨cs,lx,m,xs,en,e,hc,hX,Mb,hx,q⟩;cases en;have hg:=hc.1;have n2:=bR;have n3:=qO;refine{_,(sc (bQ (i:=3) cO.nd<|aM T.rE (BH T) hr<|al 1 an)<|sc (bQ (i:=4) cO.nd<|bo ba hr.u (dv 3) di)<|sc (si (twd<|twand (bp qG hr.u (dv 2) di)<|tw1<|bp bf hr.u (dv 4) di) (s1<|sr<|bX<|ac ds<|ac (aM T.iM (pG T n) hr<|al 0<|al 1<|ac (bo pT hr.u (dv 2) di) an) an) s0)<|sc (si (twd<|twand (bp qG hr.u (dv 2) di)<|tw1<|bp w5 hr.u (dv 4) di) (sc (xl (N:=["_law_k","_law_columns_here","_law_xs","_law_deep"]) (src:=[none,some 0,some 1,some 2]) 5 cO.nd (oj vR) (Pr T.gu<|ac (uG<|ix hr.u (cJ<|ac di<|ac di<|ac di<|ac di an)<|bo ba hr.u (bo bH hr.u (dv 3) di) di) an) rn<|aM T.iM (pG T n) hr<|al 1<|al 2<|ac (bo pT hr.u (dv 3) di) an)<|s1<|sr<|bX<|ac (uG<|ix hr.u (cJ<|ac ds<|ac ds an)<|bo pT hr.u (dv 4) di)<|ac (ct ft T.bh aS<|al 5 an) an) s0)<|sc (si (twd<|twor (bp bf hr.u (dv 4) di)<|tw1<|bp bf hr.u (dv 0)<|bX an) (s1<|sr<|uG<|ix hr.u (cJ<|ac (bX<|ac ds an)<|ac (bX<|ac ds<|ac (ct ft T.bh aS<|ac (xk (N:=["_law_k","_law_x"]) (src:=[none,some 3]) (oj vR) (Pr T.gu<|ac (bo ba hr.u (bo bH hr.u (dv 3) di) di) an) rn<|aM T.Bx (Ek T) hr<|ac (bo bu hr.u (bo bH hr.u (dv 1) di)<|bo pU hr.u di<|dv 0) an) an) an) an)<|bo ba hr.u (bo bH hr.u (dv 3) di) di) s0)<|sc (sa (ix hr.u (dv 0)<|bo ba hr.u (bo bH hr.u (dv 3) di)<|cb a_ T.aW aI<|al 0 an)<|gt (n:=2)<|gc (gn (i:=6) cO.nd)<|gc (gn (i:=7) cO.nd) g0)<|sc (bQ (i:=8) cO.nd<|aM T.m9 (tM T) hr<|al 7<|ac (aM T.rE (BH T) hr<|al 1 an) an)<|sc (si (twd<|twor (bp kF hr.u (dv 8) dn)<|tw1<|bp w5 hr.u (dv 4) di) (s1<|sr<|bX<|ac ds<|al 6<|al 8 an) s0)<|sc (si (twd<|twand (bp bf hr.u (dv 4) di)<|tw1<|bp bf hr.u (dv 7) ds) (s1<|sr<|bX<|ac ds<|al 6<|al 8 an) s0)<|s1<|sr<|bX<|ac (uG<|ix hr.u (cJ<|ac ds<|ac ds an)<|bo ba hr.u (dv 4) di)<|al 6<|al 8 an),?_};refine !{lx,xs,rfl,hX,Mb,hx,λx ys x0 yl hy=>?_};have hY:(S.set lx<|.lst<|ys.map D.int) lx=some (.lst<|ys.map D.int):=aa;have q1:∀d,Lf cs d->R d (S.set lx<|.lst<|ys.map D.int):=λd hd=>q d ys (.inl hd) (by rw[Qb hd];show 1<=1+_;lia) (by lia) hy;refine !{by decide,?_};have w0:0<=x%9:=zL _ (by decide);have w1:x%9<9:=zK _ (by decide);generalize x%9=way at w0 w1⊢;have ed:0<n->((n:Nat):Int)-1=((n-1:Nat):Int):=λh=>by lia
  refine !{decide<|(0:Int)<((n:Nat):Int),rfl,Ex (decide<|way=0) (λh=>!!⟨h⟩)<|ck (λh=>?_) λNU=>?_};rw[zH,zZ,zZ]at h;have hn:0<n:=by lia
  refine !!!{cs,lx,n-1,ys,by lia,by rw[ed hn];rfl,hc,hY,by lia,hy,λd zs hd hz zl As=>{n2,?_}};rw[aQ];exact fo<|q _ zs (.inr<|.inl ⟨d,rfl,hd⟩) (by rw[TL];show _<=1+3*TM n;lia) zl As;refine !{decide<|(0:Int)<((n:Nat):Int),rfl,Ex (decide<|way<3) (λh=>!!⟨h⟩)<|ck (λh=>?_) λ_=>?_};rw[zH,zZ,zZ]at h;have hn:0<n:=by lia
  have hwz:way≠0:=λe=>by rw[Bool.and_eq_false_iff,yj,yj]at NU;lia
  refine{uU,λp hp=>!⟨{by decide,by trivial},by decide,cH (zL _<|by decide) (zK _<|by decide) hp λd hd=>?_⟩};obtain⟨k,rfl,hk⟩:∃k:Nat,d=.int k/\k<=3:=by have hd:d∈[D.int 2,.int 3,.int 1,.int 0]:=hd;simp only[zm,zM,or_false]at hd;rcases hd with h|h|h|h;exact{2,h,by decide};exact{3,h,by decide};exact{1,h,by decide};exact{0,h,by decide}
  refine{((k:Nat):Int),rfl,by lia,by lia,?_};refine Ib (λi out S'=>∃zs:rp,Sub (S.set lx<|.lst<|zs.map D.int) S'/\zs.length<=20/\(∀z∈zs,0<=z)/\out.length=i/\∀e∈out,Sg cs n e/\qh n e<=TM n) {ys,.refl _,by lia,hy,rfl,λ_ h=>(nomatch h)} (λ_ _ _ _=>trivial) ?_ ?_;rintro i d out S' hd ⟨zs,sb,zl,hz,RS,ho⟩;have hi:i<k:=by have hd:(dM 0 ((k:Nat):Int).toNat)[i]?=some d:=hd;have:=(cL hd).1;lia
  refine{bg<|by lia,_,rfl,_,rfl,_,rfl,cs,lx,n-1,zs,by lia,by rw[ed hn];rfl,hc,sb _ _ aa,zl,hz,λd vs hd hsz vl hv=>{vs,TN sb,vl,hv,by rw[zD,RS];rfl,λe he=>?_}};rcases zN.mp he with he|he;exact ho e he;rw[zE.mp he];exact⟨hd,hsz⟩;rintro out S' ⟨zs,sb,zl,hz,RS,ho⟩ pl dy;rw[show({dM 0 ((k:Nat):Int).toNat,λ_=>True}:rm).xs.length=((k:Nat):Int).toNat from cq]at RS;refine{n2,λp2 gD=>!⟨cH (by lia) (by show way-1<2;lia) gD λd hd=>?_⟩};obtain⟨o,rfl,hoo⟩:∃o:Str,d=.str o/\(o ="and"\/o ="or"):=by have hd:d∈[D.str "and",.str "or"]:=hd;simp only[zm,zM,or_false]at hd;rcases hd with h|h;exact{_,h,.inl rfl};exact{_,h,.inr rfl}
  refine !{_,_,rfl,.inl aa,n2,_,sb.trans<|.new dy,q _ zs (.inr<|.inr {o,out,hoo,rfl,by lia,λe he=>(ho e he).1}) ?_ zl hz};have hs:=Ll λe he=>(ho e he).2;have:TM n*out.length<=TM n*3:=Nat.mul_le_mul_left _ (by lia);rw[Oo hoo];show _<=1+3*TM n;lia;refine !{decide<|way=8,rfl,Qa (cs.map aD).isEmpty (λh=>!{uS,N_ (Oj hc.1 hc.2) !⟨h⟩})<|ck (λh=>?_) λh=>?_};have k0:0<=x/9%4:=zL _ (by decide);have k1:x/9%4<4:=zK _ (by decide);refine{uT,_,rfl,{by decide,by trivial},by decide,x/9%4,rfl,by lia,by lia,?_};refine jT (λ_ v=>∃z∈KS,v=.str z) trivial (by show(dM 0 _).length<=_;rw[cq];lia) (λd hd Q hQ=>?_) λout ho p1 Ax=>?_;obtain⟨j,hj⟩:=yg hd;obtain⟨_,rfl⟩:=cL hj;exact{_,rfl,{by decide,by trivial},_,rfl,.inl {by decide,by decide},_,rfl,λz _ hz=>hQ _ ⟨z,hz,rfl⟩};obtain⟨ks,rfl,DL⟩:=keys_str λd hd=>(Ey ho d hd).elim λ_ h=>h;have hl:=yS ho;rw[show({dM 0 (x/9%4).toNat,λ_=>True}:rm).xs=dM 0 (x/9%4).toNat from rfl,cq,zb]at hl;refine{_,_,rfl,.inl aa,n2,n2,λp hp=>!⟨{by decide,by trivial},by decide,cH (zL _<|by decide) (zK _<|by decide) hp λd hd=>?_⟩};have hd:d∈[D.tup [.str "every"],.tup [.str "key",.tup<|ks.map D.str]]:=hd;simp only[zm,zM,or_false]at hd;rcases hd with rfl|rfl;exact{_,.new Ax,q1 _<|.inl rfl};exact{_,.new Ax,q1 _<|.inr<|.inl {ks,rfl,by lia,DL}};rw[Bool.or_eq_false_iff]at h;have Cs:0<cs.length:=by cases cs with|nil=>(cases h.2)|cons c cs=>exact Nat.succ_pos _
  have Tw:(cs.map aD).length=cs.length:=zb _;obtain⟨d,e1,e2⟩:=kh (l:=cs.map aD) (i:=x/9%(((cs.map aD).length:Nat):Int)) (zL _<|by lia)<|zK _ (by lia);obtain⟨c,Vb,rfl⟩:=zi.mp<|zp e2;refine !!⟨{by decide,by trivial},_,rfl,_,rfl,by lia,_,e1,_,rfl,rfl,_,_,rfl,_,_,rfl,rfl,?_⟩;refine !!{lx,ys,rfl,hY,by lia,hy,λx2 zs _ zl hz=>{c.2,x2,rfl,λv _ hv=>?_}};rw[aQ];have qc:∀o,yZ o c v->Fo (S.set lx<|.lst<|zs.map D.int) (R<|.tup [.str o,.str c.1,v]):=λo ho=>fo<|q _ zs (.inl<|.inr<|.inr ⟨o,c,v,Vb,hv,ho,rfl⟩) (by rw[Qb<|.inr<|.inr ⟨o,c,v,Vb,hv,ho,rfl⟩];show 1<=1+_;lia) (by lia) hz;refine !{ah v,rfl,Qa (decide<|way<4) (λh=>!!⟨h⟩)<|ck (λh4=>?_) λh4=>?_};exact !!{n3,qc _<|.inl rfl};rw[Bool.or_eq_false_iff]at h4;have PD:=bz h4.1;refine !{decide<|way=4,rfl,Ex (decide<|c.2 ="word") (λh=>!!⟨h⟩)<|ck (λh5=>?_) λh5=>?_};rw[zH]at h5;exact !!{n3,qc _<|.inr {PD,.inr<|.inr {rfl,zy h5.2}}};refine{n2,λp hp=>!{(by decide:(0:Int)<2),cH (zL _<|by decide) (zK _<|by decide) hp λd hd=>?_}};obtain⟨o,rfl,ho⟩:∃o:Str,d=.str o/\(o ="below"\/o ="above"):=by have hd:d∈[D.str "below",.str "above"]:=hd;simp only[zm,zM,or_false]at hd;rcases hd with rfl|rfl;exact{_,rfl,.inl rfl};exact{_,rfl,.inr rfl}
  exact !!{n3,qc o<|.inr {PD,ho.elim .inl λh=>.inr<|.inl h}}
theorem F_:∀{l:j4}{p:Str},PyProof.Rows.risingS p l=true->(p::l).Pairwise λa b=>a.cps.toList<=b.cps.toList|[],p,_=>List.pairwise_singleton _ _|x::r,p,h=>by have h:(!PySem.Spec.ltCps x.cps.toList p.cps.toList&&PyProof.Rows.risingS x r)=true:=h;rw[zH,PyProof.Rows.ltCps_eq,Bool.not_eq_true',yj]at h;have ih:=F_ h.2;have hpx:p.cps.toList<=x.cps.toList:=List.not_lt.mp h.1;refine List.pairwise_cons.mpr {λy hy=>?_,ih};rcases zm.mp hy with e|hy;rw[e];exact hpx;exact List.le_trans hpx<|(List.pairwise_cons.mp ih).1 y hy
theorem wg(h:PyProof.Rows.sortedS l=true):l.Pairwise λa b=>a.cps.toList<=b.cps.toList:=by cases l with|nil=>exact List.Pairwise.nil|cons x r=>exact F_ h
theorem Oq{a b:Str}(h:a.cps.toList=b.cps.toList):a=b:=by obtain⟨⟨x⟩⟩:=a;obtain⟨⟨y⟩⟩:=b;cases h;rfl
theorem Ie{l m:j4}(hl:l.Pairwise λa b=>a.cps.toList<=b.cps.toList)(hm:m.Pairwise λa b=>a.cps.toList<=b.cps.toList)(nl:l.Nodup)(nm:m.Nodup)(h:∀z,z∈l↔z∈m):l=m:=List.Perm.eq_of_pairwise (λa b _ _ h1 h2=>Oq<|List.le_antisymm h1 h2) hl hm<|(List.perm_ext_iff_of_nodup nl nm).mpr h
def TI(l:wE)(n:Nat):Prop:=∀s∈l,s.b<=n/\∀m,s.e=some m->m<n
noncomputable def Ot(s:Std):D:=match s.e with|none=>.tup s.ws|some _=>.av
noncomputable def cur(l:wE):D:=match l.getLast? with|none=>.av|some s=>Ot s
theorem j5(r:wE)(s:Std):cur (r++[s])=Ot s:=by unfold cur;rw[List.getLast?_concat]
theorem TR(h:TI l n):wt l n=cur l:=by by_cases e:l=[];subst e;rfl;obtain⟨r,s,rfl⟩:=kx e;rw[j5];unfold wt;rw[List.reverse_append];obtain⟨h1,h2⟩:=h s<|zJ _<|zE.mpr rfl;show KG (s::r.reverse) (n:Int)=_;unfold KG Ot;rw[if_pos<|show(s.b:Int)<=(n:Int) by lia];cases q:s.e with|none=>rfl|some m=>have:=h2 m q;exact if_neg<|show ¬(n:Int)<=(m:Int) by lia
theorem TI.up(h:TI l n):TI l (n+1):=λs hs=>{Nat.le_succ_of_le (h s hs).1,λm e=>Nat.lt_succ_of_lt<|(h s hs).2 m e}
theorem TI.close(h:TI l n):TI (iQ n l) (n+1):=by by_cases e:l=[];subst e;exact λs hs=>(nomatch hs);obtain⟨r,s,rfl⟩:=kx e;rw[eY];intro x hx;rcases zN.mp hx with hx|hx;exact h.up x<|yk _ hx;rw[zE.mp hx];exact{Nat.le_succ_of_le (h s<|zJ _<|zE.mpr rfl).1,λm e=>by cases e;exact Nat.lt_succ_self _}
theorem TI.beg(h:TI l<|n+1):TI (l++[Std.mk (n+1) none ws]) (n+1):=λs hs=>by rcases zN.mp hs with hs|hs;exact h s hs;rw[zE.mp hs];exact{zq _,λm e=>(by cases e)}
theorem Ig:cur (iQ n l)=.av:=by by_cases e:l=[];subst e;rfl;obtain⟨r,s,rfl⟩:=kx e;rw[eY,j5];rfl
noncomputable def uq(kn:Kn)(z:Str):D:=match iw kn z with|none=>.av|some ws=>.tup ws
structure RI(rs:lh)(n:Nat)(kn:Kn):Prop where
 ti:∀z,TI ((lu rs z).getD []) n
 eq:∀z,cur ((lu rs z).getD [])=uq kn z
 ks:∀r∈rs,r.1∈KS
theorem Ou(h:r∈Eh rs z s):r.1=z\/∃r'∈rs,r'.1=r.1:=by unfold Eh at h;split at h;obtain⟨r0,Av,e⟩:=zi.mp h;refine .inr {r0,Av,?_};subst e;split<;>rfl;rcases zN.mp h with h|h;exact .inr ⟨r,h,rfl⟩;rw[zE.mp h];exact .inl rfl
theorem Ln(h:∀r∈rs,r.1∈KS)(hz:z∈KS):∀r∈Eh rs z s,r.1∈KS:=λr hr=>by rcases Ou hr with e|⟨r',my,e⟩;rw[e];exact hz;rw[<-e];exact h r' my
theorem Ga:uq (nF kn z ws) k=if k=z then .tup ws else uq kn k:=by unfold uq;rw[N8];by_cases h:k=z;rw[if_pos h,if_pos h];rw[if_neg h,if_neg h]
theorem Gb:uq (uY kn z) k=if k=z then .av else uq kn k:=by unfold uq;rw[N9];by_cases h:k=z;rw[if_pos h,if_pos h];rw[if_neg h,if_neg h]
theorem RI.nil:RI [] 0 []:={λz s hs=>(nomatch hs),λz=>rfl,λr hr=>(nomatch hr)}
theorem RI.put(h:RI rs n kn)(hz:z∈KS):RI (uX rs z (n+1) ws) (n+1) (nF kn z ws):=by refine{λk=>?_,λk=>?_,Ln h.ks hz};unfold uX;rw[jY];by_cases e:k=z;rw[if_pos e];exact(h.ti z).up.beg;rw[if_neg e];exact(h.ti k).up;unfold uX;rw[jY,Ga];by_cases e:k=z;rw[if_pos e,if_pos e];exact j5 _ _;rw[if_neg e,if_neg e];exact h.eq k
theorem RI.del(h:RI rs n kn)(hz:z∈KS):RI (px rs z n) (n+1) (uY kn z):=by refine{λk=>?_,λk=>?_,Ln h.ks hz};unfold px;rw[jY];by_cases e:k=z;rw[if_pos e];exact(h.ti z).close;rw[if_neg e];exact(h.ti k).up;unfold px;rw[jY,Gb];by_cases e:k=z;rw[if_pos e,if_pos e];exact Ig;rw[if_neg e,if_neg e];exact h.eq k
theorem RI.change(h:RI rs n kn)(hz:z∈KS):RI (uX (px rs z n) z (n+1) ws) (n+1) (nF kn z ws):=by have h1:=h.del hz;refine{λk=>?_,λk=>?_,Ln h1.ks hz};unfold uX;rw[jY];by_cases e:k=z;rw[if_pos e];exact(h1.ti z).beg;rw[if_neg e];exact h1.ti k;unfold uX;rw[jY,Ga];by_cases e:k=z;rw[if_pos e,if_pos e];exact j5 _ _;rw[if_neg e,if_neg e,h1.eq k,Gb,if_neg e]
theorem RI.wt{rs:lh}{n:Nat}{kn:Kn}(h:RI rs n kn)(z:Str):wt ((lu rs z).getD []) n=uq kn z:=by rw[TR<|h.ti z,h.eq]
theorem RI.Cz(h:RI rs n kn)(hz:z∈KS):Cz rs (.str z) n=uq kn z:=by rw[xZ (gO z hz).1,h.wt]
theorem wj(kn:Kn)(z:Str):ah (uq kn z)=!(iw kn z).isSome:=by unfold uq;cases iw kn z<;>rfl
theorem Qc(h:bE C S a F cs dl rs):(rs.map (·.1)).Nodup:=by obtain⟨ld,lr,ra,h,_,rfl⟩:=h;unfold ib;rw[zx];exact h.kn
theorem RI.len(h:RI rs n kn)(hs:bE C S a F cs dl rs):rs.length<=60:=by
 have:=sub_len (Qc hs) (m:=KS) λx hx=>by obtain⟨r,hr,rfl⟩:=zi.mp hx;exact h.ks r hr
 rw[zb]at this;exact zO this<|by trivial
noncomputable def TU(kn:Kn)(ss:j4):v0:=ss.map λz=>.tup [.str z,uq kn z]
theorem XT(h:lu rs k=some s):k∈rs.map (·.1):=by induction rs with|nil=>(cases h)|cons r rs ih=>rw[fA]at h;rw[zC];by_cases e:r.1=k;exact zm.mpr<|.inl e.symm;rw[if_neg e]at h;exact zg _<|ih h
noncomputable def pH(k:Nat)(l:wE):wE:=match l.getLast? with|none=>l|some s=>match s.e with|none=>iQ k l|some _=>l
theorem ql(h:s.e=none):pH k (r++[s])=r++[Std.mk s.b (some k) s.ws]:=by unfold pH;rw[List.getLast?_concat];dsimp only;rw[h];exact eY _ _ _
theorem BP(h:s.e=some n):pH k (r++[s])=r++[s]:=by unfold pH;rw[List.getLast?_concat];dsimp only;rw[h]
theorem Ov{s:Std}{r:wE}{m:Nat}(h:m<s.b):KG (s::r) m=KG r m:=by show(if (s.b:Int)<=(m:Int) then _ else KG r m)=_;rw[if_neg<|by lia]
theorem Ih(hm:m<=n):wt (pH n l) m=wt l m:=by by_cases e:l=[];subst e;rfl;obtain⟨r,s,rfl⟩:=kx e;cases q:s.e with|some k=>rw[BP q]|none=>rw[ql q];unfold wt;rw[List.reverse_append,List.reverse_append];show(if (s.b:Int)<=(m:Int) then (if (m:Int)<=(n:Int) then D.tup s.ws else .av) else KG r.reverse m)=(if (s.b:Int)<=(m:Int) then (match s.e with|none=>.tup s.ws|some n=>if (m:Int)<=(n:Int) then .tup s.ws else .av) else KG r.reverse m);rw[q,if_pos<|show(m:Int)<=(n:Int) by lia]
theorem Ez(h:cur l≠.av):pH n l=iQ n l:=by by_cases e:l=[];subst e;rfl;obtain⟨r,s,rfl⟩:=kx e;rw[j5]at h;cases q:s.e with|none=>rw[ql q,eY]|some m=>unfold Ot at h;rw[q]at h;exact absurd rfl h
noncomputable def ip(kn:Kn)(ss:j4):wS:=ss.map λz=>(z,(iw kn z).getD [])
structure Snap(rs:lh)(cs:ww)(m:Nat)(rows:wS):Prop where
 ex:∃kn ss,rows=ip kn ss/\KI cs kn/\ss.Perm (kn.map (·.1))/\PyProof.Rows.sortedS ss=true/\∀z,wt ((lu rs z).getD []) m=uq kn z
theorem wk(p:ss.Perm (kn.map (·.1))):(ip kn ss).map ag=TU kn ss:=by unfold ip TU;rw[zx];refine zU λz hz=>?_;obtain⟨ws,EA⟩:=mh<|p.mem_iff.mp hz;show D.tup [.str z,.tup<|(iw kn z).getD []]=.tup [.str z,uq kn z];unfold uq;rw[EA];rfl
theorem BQ(hI:KI cs kn)(p:ss.Perm (kn.map (·.1))):Rg cs (ip kn ss):=by refine{λr hr=>?_,?_};obtain⟨z,hz,rfl⟩:=zi.mp hr;obtain⟨ws,EA⟩:=mh<|p.mem_iff.mp hz;show Wg cs ((iw kn z).getD []);rw[EA];exact(hI.ok _<|rH EA).2;unfold ip;rw[zx];show(ss.map id).Nodup;rw[List.map_id];exact p.nodup_iff.mpr hI.nd
theorem Ii(hI:KI cs kn)(p:ss.Perm (kn.map (·.1))):(ip kn ss).length<=60:=by unfold ip;rw[zb,p.length_eq,zb];exact hI.len
theorem Snap.rg(h:Snap rs cs m rows):Rg cs rows/\rows.length<=60:=by obtain⟨kn,ss,rfl,hI,p,_⟩:=h.ex;exact{BQ hI p,Ii hI p}
theorem Snap.key(h:Snap rs cs m rows):∀r∈rows,r.1∈KS:=by obtain⟨kn,ss,rfl,hI,p,_⟩:=h.ex;intro r hr;obtain⟨z,hz,rfl⟩:=zi.mp hr;obtain⟨ws,EA⟩:=mh<|p.mem_iff.mp hz;exact(hI.ok _<|rH EA).1
theorem pI{C a:Addr}{S:aq}{F:im}{cs:ww}{dl:v0}{rs:lh}{m:Nat}{rows:wS}(h:Snap rs cs m rows)(hs:bE C S a F cs dl rs){ss:j4}(p1:ss.Perm (rs.map (·.1)))(o1:PyProof.Rows.sortedS ss=true):mf rs m ss=rows.map ag:=by
 obtain⟨kn,s2,rfl,hI,p2,o2,hw⟩:=h.ex;rw[wk p2];have e:ss.filter (λz=>!ah (wt ((lu rs z).getD []) m))=s2:=by refine Ie ((wg o1).filter _) (wg o2) ?_ (p2.nodup_iff.mpr hI.nd) λz=>?_;exact List.filter_sublist.nodup<|p1.nodup_iff.mpr<|Qc hs;rw[yD,hw,wj,Bool.not_not,p1.mem_iff,p2.mem_iff];constructor;rintro⟨_,hz⟩;obtain⟨ws,EA⟩:=Option.isSome_iff_exists.mp hz;exact zi.mpr {_,rH EA,rfl};intro hz;obtain⟨ws,EA⟩:=mh hz;refine{?_,by rw[EA];rfl};have e:=hw z;unfold uq at e;rw[EA]at e;cases q:lu rs z with|none=>(rw[q]at e;cases e)|some s=>exact XT q
 unfold mf TU;rw[e];refine zU λz _=>?_;unfold x5;rw[hw]
def HI(rs:lh)(cs:ww)(n:Nat)(hs:List<|List Row):Prop:=hs.length=n+1/\∀m rows,hs[m]?=some rows->Snap rs cs m rows
theorem HI.step{rs c_:lh}{cs:ww}{n:Nat}{hs:List<|List Row}(h:HI rs cs n hs)(old:∀z m,m<=n->wt ((lu c_ z).getD []) m=wt ((lu rs z).getD []) m){kn:Kn}(hI:KI cs kn)(hR:RI c_ (n+1) kn){ss:j4}(p:ss.Perm (kn.map (·.1)))(o:PyProof.Rows.sortedS ss=true):HI c_ cs (n+1) (hs++[ip kn ss]):=by
 refine{by rw[zD,h.1];rfl,λm rows e=>?_};by_cases hm:m<hs.length;rw[List.getElem?_append_left hm]at e;obtain⟨kn0,s0,e0,h1,h2,h3,h4⟩:=(h.2 m rows e).ex;have:=h.1;exact{kn0,s0,e0,h1,h2,h3,λz=>(old z m<|by lia).trans<|h4 z};rw[List.getElem?_append_right<|by lia]at e;have Pz:m-hs.length=0:=by cases q:m-hs.length with|zero=>rfl|succ k=>rw[q]at e;simp at e
 rw[Pz]at e;cases e;have:=h.1;have hmn:m=n+1:=by lia
 subst hmn;exact{kn,ss,rfl,hI,p,o,λz=>hR.wt z}
theorem TV{l:wE}{n m:Nat}{ws:v0}(hm:m<=n):wt (l++[Std.mk (n+1) none ws]) m=wt l m:=by unfold wt;rw[List.reverse_append];exact Ov<|show m<n+1 by lia
theorem Ge(k:Str)(m:Nat)(hm:m<=n):wt ((lu (uX rs z (n+1) ws) k).getD []) m=wt ((lu rs k).getD []) m:=by unfold uX;rw[jY];by_cases e:k=z;rw[if_pos e,e];exact TV hm;rw[if_neg e]
theorem Gf(h:RI rs n kn)(hz:(iw kn z).isSome=true)(k:Str)(m:Nat)(hm:m<=n):wt ((lu (px rs z n) k).getD []) m=wt ((lu rs k).getD []) m:=by
 unfold px;rw[jY];by_cases e:k=z;rw[if_pos e,e];have hc:cur ((lu rs z).getD [])≠.av:=by rw[h.eq];unfold uq;cases q:iw kn z with|none=>(rw[q]at hz;cases hz)|some ws=>exact λe=>by cases e
 show wt (iQ n<|(lu rs z).getD []) m=_;rw[<-Ez hc,Ih hm];rw[if_neg e]
theorem Gg(hz:z∈KS):Gt S (.str z):=FZ<|by have:=(gO z hz).2.1;lia
section
variable{t:dY}{S:aq}{a:Addr}{F:im}{cs:ww}{dl:v0}{rs:lh}{kn:Kn}{d:D}{R:KD}{Z:KX}
theorem Lo(hz:z∈KS)(h:Wg cs ws):ph cs (.str z) (.tup ws)=true:=by unfold ph;rw[h.TK,show ofStr kM (.str z)=true from(gO z hz).1];rfl
theorem EB(hR:RI rs dl.length kn)(hz:z∈KS):ah (Cz rs (.str z) dl.length)=!(iw kn z).isSome:=by rw[hR.Cz hz,wj]
theorem XU(h:iw kn z=none):(!(iw kn z).isSome)=true:=by rw[h];rfl
theorem Lp(h:(iw kn z).isSome=true):(!(iw kn z).isSome)=false:=by rw[h];rfl
theorem tf{b:Bool}(h1:b=true)(h2:b=false){p:Prop} : p:=by rw[h1]at h2;cases h2
theorem bE.out(hS:bE C S a F cs dl rs)(hb:S b=none):b∉F:=λm=>by obtain⟨ld,lr,ra,h,rfl,_⟩:=hS;unfold fp at m;simp only[zm,zi]at m;rcases m with e|e|e|⟨r,hr,e⟩;have:=h.ins;rw[<-e,hb]at this;cases this;have:=h.Au;rw[<-e,hb]at this;cases this;have:=h.run;rw[<-e,hb]at this;cases this;have:=h.cell r hr;rw[e,hb]at this;cases this
theorem bE.off(hS:bE C S a F cs dl rs)(hp:p∉F):bE C (S.set p c) a F cs dl rs:=by obtain⟨ld,lr,ra,hh,rfl,e2⟩:=hS;unfold fp at hp;simp only[zm,not_or]at hp;obtain⟨n1,n2,n3,n4⟩:=hp;exact{ld,lr,ra,{(ae<|Ne.symm n1).trans hh.ins,(ae<|Ne.symm n2).trans hh.Au,(ae<|Ne.symm n3).trans hh.run,λr hr=>(ae λe=>n4<|by rw[<-e];exact zi.mpr ⟨r,hr,rfl⟩).trans<|hh.cell r hr,hh.kn,hh.an,hh.sz},rfl,e2}
structure Dos(t:dY)(ds:v0)(S:aq)(R:KD)(Z:KX):Prop where
 of:En t ds S R Z
theorem pJ(hS:bE t.ao S a F cs dl rs)(hg:Gd cs)(hI:KI cs kn)(hR:RI rs dl.length kn)(hl:dl.length<=200)(hd:GD KS cs kn d){jl:Kn}(hkn:KnD kn d jl)(q:∀S' F' c_,bE t.ao S' a F' cs (dl++[d]) c_->Cy F F' S S'->RI c_ (dl.length+1) jl->(∀z m,m<=dl.length->wt ((lu c_ z).getD []) m=wt ((lu rs z).getD []) m)->R .av S'):Dos t [.ref a,d] S R Z:=by
 have hrl:=hR.len hS;have XW:=hg.1;obtain⟨ld,lr,ra,h,_,_⟩:=id hS;refine{a,_,h.ins,rfl,?_};rcases hd with⟨z,ws,hz,hw,hn,rfl⟩|⟨z,ws,hz,hw,hn,rfl⟩|⟨z,hz,hn,rfl⟩;have ro:=Lo hz hw;have st:=(EB hR hz).trans<|XU hn;refine .inl {_,_,rfl,a,F,cs,_,rs,_,_,rfl,hS,XW,Gg hz,hw.gts XW,by lia,by lia,λe=>tf ro e,λ_ e=>tf st e,λz' Zs e1 e2 _ _ S' F' rq hK=>?_};cases e1;cases e2;have Gi:jl=nF kn z ws:=by rcases hkn with⟨n,y,vs,_,e1,e2⟩|⟨y,_,e1,_⟩<;>cases e1;exact e2
 subst Gi;exact q S' F' _ rq hK (hR.put hz) Ge;have ro:=Lo hz hw;have st:=(EB hR hz).trans<|Lp hn;refine .inr<|.inl {_,_,rfl,a,F,cs,_,rs,_,_,rfl,hS,XW,Gg hz,hw.gts XW,by lia,by lia,λe=>tf ro e,λ_ e=>tf e st,λz' Zs e1 e2 _ _ S' F' rq hK=>?_};cases e1;cases e2;have Gi:jl=nF kn z ws:=by rcases hkn with⟨n,y,vs,_,e1,e2⟩|⟨y,_,e1,_⟩<;>cases e1;exact e2
 subst Gi;exact q S' F' _ rq hK (hR.change hz) λk m hm=>(Ge k m hm).trans<|Gf hR hn k m hm;have st:=(EB hR hz).trans<|Lp hn;refine .inr<|.inr !{a,F,cs,_,rs,_,rfl,hS,Gg hz,by lia,λe=>tf (gO z hz).1 e,λ_ e=>tf e st,λz' e1 _ _ S' rq hK=>?_};cases e1;have Gi:jl=uY kn z:=by rcases hkn with⟨n,y,vs,_,e1,e2⟩|⟨y,_,e1,e2⟩<;>cases e1;exact e2
 subst Gi;exact q S' F _ rq hK (hR.del hz)<|Gf hR hn
theorem Snap.vw(h:Snap rs cs m rows)(hS:bE t.ao S a F cs dl rs)(hR:RI rs dl.length kn)(hm:uW dl.length md=some (m:Int))(Y5:Gt S md):Vw t.ao S a cs md rows:=by have:=h.rg;refine{{F,dl,rs,hS,by have:=hR.len hS;lia,(λe=>by rw[hm]at e;cases e),λi ss hi hp hs=>?_},Y5,by lia,this.1};rw[hm]at hi;cases hi;exact pI h hS hp hs
end
def Zy(S:aq)(F:im)(S':aq):Prop:=∀b c,S b=some c->b∉F/\S' b=some c
theorem Zy.sub(h:Zy S F S'):Sub S S':=λb c e=>(h b c e).2
theorem KI.nil(cs:ww):KI cs []:={List.nodup_nil,λ_ h=>(nomatch h)}
theorem iq(ns:rp)(lo hi:pp):cn (ns.map D.int) lo hi=(cn ns lo hi).map D.int:=by unfold cn;rw[zb,List.map_take,List.map_drop]
structure St(t:dY)(S0:aq)(a:Addr)(fs:List (Addr×Ce))(F:im)(cs:ww)(dl:v0)(rs:lh)(S:aq):Prop where
 sh:bE t.ao S a F cs dl rs
 fa:∀x∈fs,S x.1=some x.2/\x.1∉F/\S0 x.1=none
 nd:(fs.map Prod.fst).Nodup
 BR:Zy S0 F S
section
variable{t:dY}{S0:aq}{a:Addr}{fs:List (Addr×Ce)}{F:im}{cs:ww}{dl:v0}{rs:lh}{S:aq}
theorem St.at(h:St t S0 a fs F cs dl rs S)(i:Nat)(e:fs[i]?=some (b,c)):S b=some c:=(h.fa _<|zp e).1
theorem St.sub(h:St t S0 a fs F cs dl rs S)(b:Sub S S'):St t S0 a fs F cs dl rs S':={h.sh.sub b,λx hx=>{b _ _ (h.fa x hx).1,(h.fa x hx).2},h.nd,λx c hx=>{(h.BR x c hx).1,b _ _ (h.BR x c hx).2}}
theorem St.zero(h:St t S0 a fs F cs dl rs S)(hb:S b=none):S0 b=none:=by cases e:S0 b with|none=>rfl|some c=>have:=h.BR.sub _ _ e;rw[hb]at this;cases this
theorem St.new(h:St t S0 a fs F cs dl rs S)(hp:S p=none)(c:Ce):St t S0 a (fs++[(p,c)]) F cs dl rs (S.set p c):=by
 have h1:=h.sub<|.new (c:=c) hp;refine{h1.sh,λx hx=>?_,?_,h1.BR};rcases zN.mp hx with hx|hx;exact h1.fa x hx;rw[zE.mp hx];exact{aa,h.sh.out hp,h.zero hp};rw[zI,List.nodup_append];refine{h.nd,by simp,λx hx y hy e=>?_};obtain⟨z,hz,rfl⟩:=zi.mp hx;have hy:y=p:=by simpa using hy
 have:=(h.fa z hz).1;rw[e,hy,hp]at this;cases this
theorem St.put(h:St t S0 a fs F cs dl rs S)(i:Nat)(e:fs[i]?=some (b,c))(c':Ce):St t S0 a (fs.set i (b,c')) F cs dl rs (S.set b c'):=by
 have hb:=h.fa _<|zp e;have hi:=(zf.mp e).1;have em:(fs.set i (b,c')).map Prod.fst=fs.map Prod.fst:=by refine List.ext_getElem? λj=>?_;rw[zh,zh];by_cases q:j=i;subst q;rw[yr hi,e];rfl;rw[yo<|Ne.symm q]
 refine{h.sh.off hb.2.1,λx hx=>?_,by rw[em];exact h.nd,λx c hx=>{(h.BR x c hx).1,(ae<|gU hx hb.2.2).trans (h.BR x c hx).2}};obtain⟨j,hj⟩:=yg hx;by_cases q:j=i;subst q;rw[yr hi]at hj;cases hj;exact⟨aa,hb.2⟩;rw[yo<|Ne.symm q]at hj;have Nu:=h.fa x<|zp hj;refine{(ae λe2=>q ?_).trans Nu.1,Nu.2};have a1:(fs.map Prod.fst)[j]?=some x.1:=by rw[zh,hj];rfl
 have a2:(fs.map Prod.fst)[i]?=some b:=by rw[zh,e];rfl
 obtain⟨b1,c1⟩:=zf.mp a1;obtain⟨b2,c2⟩:=zf.mp a2;exact(List.getElem_inj h.nd (h₀:=b1) (h₁:=b2)).mp<|by rw[c1,c2];exact e2
theorem St.perm(h:St t S0 a fs F cs dl rs S)(p:OS.Perm fs):St t S0 a OS F cs dl rs S:={h.sh,λx hx=>h.fa x<|p.mem_iff.mp hx,(p.map _).nodup_iff.mpr h.nd,h.BR}
theorem St.less(h:St t S0 a fs F cs dl rs S)(n:(OS.map Prod.fst).Nodup)(p:∀x∈OS,x∈fs):St t S0 a OS F cs dl rs S:={h.sh,λx hx=>h.fa x<|p x hx,n,h.BR}
theorem St.Ox(h:St t S0 a fs F cs dl rs S)(hS:bE t.ao S' a F' cs UX c_)(hK:Cy F F' S S'):St t S0 a fs F' cs UX c_ S':={hS,λx hx=>by obtain⟨h1,h2,h3⟩:=h.fa x hx;exact by obtain⟨k1,k2⟩:=hK _ _ h2 h1;exact⟨k2,k1,h3⟩,h.nd,λx c hx=>by obtain⟨h1,h2⟩:=h.BR x c hx;exact hK _ _ h1 h2}
end
abbrev TY:=List<|Addr×List Row
noncomputable def XX(x:Addr×List Row):Addr×Ce:=(x.1,.lst<|x.2.map ag)
theorem TZ(hk:r.1∈KS)(hw:Wg cs r.2):Ly S 60 (ag r):=by refine(Ly.tup (n:=1) λx hx=>?_).le (by decide);simp only[zm,zM,or_false]at hx;rcases hx with rfl|rfl;exact(Ly.str (gO _ hk).2.2).le (by decide);exact hw.ly
theorem Vw.sub(h:Vw C S a cs m rows)(b:Sub S S'):Vw C S' a cs m rows:=by obtain⟨F,dl,rs,h1,h2⟩:=h.sh;exact{{F,dl,rs,h1.sub b,h2},h.mo.sub b,h.len,h.rg}
theorem Gj(q:R (.bl<|if neg then !(x==y) else (x==y)) S):Iz neg (.bl x) (.bl y) S R:=⟨.bool x,.bool y,by simp only[Dl,Dp],by simp only[Dl,Dp],by simp only[PyData.canLay0],by simp only[PyData.canLay0],.inl<|by simp only[PyData.depth];lia,by
 have e:PyData.eqv (.bool x) (.bool y)=(x==y):=by cases x<;>cases y<;>rfl
 rw[e];exact q⟩
theorem Qd(q:R (.bl<|if neg then !decide (i=j) else decide (i=j)) S):Iz neg (.str i) (.str j) S R:=q
noncomputable def cV(w e:Str)(x y:D):Int:=if qP x y=true then 0 else if bL ("",w,e) x y=true then -1 else 1
def Cm(x y:D):Prop:=∃k,Vg k x/\Vg k y
theorem tU{w e:Str}(h:Cm x y):cV w e x y=0↔x=y:=by obtain⟨k,hx,hy⟩:=h;unfold cV;by_cases q:qP x y=true;rw[if_pos q];simpa using (du hx.2 hy.2).mp q;rw[if_neg q];have q':¬x=y:=λz=>q<|(du hx.2 hy.2).mpr z;constructor;intro z;split at z<;>cases z;exact λz=>absurd z q'
theorem BS{w e:Str}(h:Cm x y):cV w e x y<0↔x≠y/\bL ("",w,e) x y=true:=by obtain⟨k,hx,hy⟩:=h;unfold cV;by_cases q:qP x y=true;rw[if_pos q];have:=(du hx.2 hy.2).mp q;simp[this];rw[if_neg q];have q':¬x=y:=λz=>q<|(du hx.2 hy.2).mpr z;by_cases l:bL ("",w,e) x y=true;rw[if_pos l];simp[q',l];rw[if_neg l];simp[l]
inductive cR(ds:v0)(S:aq)(R:KD)(Z:KX):Prop where
 |mk (x y wy e)(h0:ds=[x,y,.str e])(h1:Cm x y)(h2:(x=.av\/y=.av))(h3:R (.int<|cV wy e x y) S)
theorem ji:Ok P w base T.dE 1 cR:=by
 refine T.dE.F.bx dZ ?_;rintro _ _ _ _ _ _ _ S R Z hr ⟨x,y,wy,e,e0,⟨k,hx,hy⟩,hn,q⟩;subst e0;refine{_,(sc (si (twd<|twand (bp kF hr.u (dv 0) dn)<|tw1<|bp kF hr.u (dv 1) dn) (s1<|sr di) s0)<|sc (bQ (i:=3) dZ.nd<|cm bf hr.u (dv 2) ds)<|s1<|sr<|RX (bp bf hr.u (dv 3)<|cm kF hr.u (dv 0) dn) (DB di) di),?_};unfold cV at q;refine !!⟨ck (λh=>!!⟨ck (λh2=>?_) λh2=>?_⟩) λh=>?_⟩;rw[dX h,dX h2]at q;exact fo q;have e1:ah x≠ah y:=by rw[show ah x=true from h,show ah y=false from h2];decide
 rw[y9 e1,if_neg zd]at q;unfold bL at q;rw[show ah x=true from h,show ah y=false from h2]at q;refine !!!⟨?_⟩;dsimp only[dC,isD];refine Gj !⟨?_⟩;have q:R (.int<|if (ah x==decide (e ="first"))=true then -1 else 1) S:=by rw[show ah x=true from h];exact q
 rw[Bool.beq_comm]at q;refine ck (λz=>?_) λz=>?_;rw[if_pos<|show(decide (e ="first")==ah x)=true from z]at q;exact{_,rfl,fo q};rw[if_neg λz2=>tf z2<|show(decide (e ="first")==ah x)=false from z]at q;exact fo q;have hy1:ah y=true:=by rcases hn with rfl|rfl;cases h;rfl
 have e1:ah x≠ah y:=by rw[show ah x=false from h,hy1];decide
 rw[y9 e1,if_neg zd]at q;unfold bL at q;rw[show ah x=false from h,hy1]at q;refine !!!⟨?_⟩;dsimp only[dC,isD];refine Gj !⟨?_⟩;have q:R (.int<|if (ah x==decide (e ="first"))=true then -1 else 1) S:=by rw[show ah x=false from h];exact q
 rw[Bool.beq_comm]at q;refine ck (λz=>?_) λz=>?_;rw[if_pos<|show(decide (e ="first")==ah x)=true from z]at q;exact{_,rfl,fo q};rw[if_neg λz2=>tf z2<|show(decide (e ="first")==ah x)=false from z]at q;exact fo q
inductive tV(ds:v0)(S:aq)(R:KD)(Z:KX):Prop where
 |mk (x y wy e)(h0:ds=[x,y,.str wy,.str e])(h1:Cm x y)(h2:R (.int<|cV wy e x y) S)
theorem qm:Ok P w base T.compared 2 tV:=by refine T.compared.F.bx pZ ?_;rintro _ _ _ _ _ _ _ S R Z hr ⟨x,y,wy,e,e0,hc,q⟩;subst e0;obtain⟨k,hx,hy⟩:=id hc;refine{_,(sc (si (twd<|twor (bp kF hr.u (dv 0) dn)<|tw1<|bp kF hr.u (dv 1) dn) (s1<|sr<|aM T.dE (ji T) hr<|al 0<|al 1<|al 3 an) s0)<|sc (si (bp bf hr.u (dv 0)<|dv 1) (s1<|sr di) s0)<|sc (bQ (i:=4) pZ.nd<|cm w5 hr.u (dv 0)<|dv 1)<|s1<|sr<|RX (bp bf hr.u (dv 4)<|cm bf hr.u (dv 2) ds) (DB di) di),?_};have none:∀Zq:KX,x=.av\/y=.av->cR [x,y,.str e] S (λd S'=>Fo S'<|R d) Zq:=λ_ hn=>{x,y,wy,e,rfl,hc,hn,fo q};refine !!⟨ck (λh=>?_) λh=>!!⟨ck (λh2=>?_) λh2=>?_⟩⟩;exact !!!⟨none _<|.inl<|dX h⟩;exact !!!⟨none _<|.inr<|dX h2⟩;clear none;have nx:ah x=false:=h;have ny:ah y=false:=h2;unfold cV at q;refine !!⟨BL hx.2 hy.2 !⟨ck (λh3=>?_) λh3=>?_⟩⟩;have h3:qP x y=true:=h3;rw[if_pos h3]at q;exact fo q;have h3:qP x y=false:=h3;rw[h3,if_neg zd]at q;unfold bL at q;rw[nx,ny]at q;have q:R (.int<|if (uZ x y==decide (wy ="up"))=true then -1 else 1) S:=q;rcases y6 hx hy (bz nx) (bz ny) with⟨i,j,rfl,rfl⟩|⟨i,j,rfl,rfl⟩;refine !!!!⟨?_⟩;dsimp only[dC];refine Qd ?_;refine Gj ?_;refine{_,rfl,?_};refine ck (λz=>?_) λz=>?_;rw[if_pos<|show(uZ (.int i) (.int j)==decide (wy ="up"))=true from z]at q;exact{_,rfl,fo q};rw[if_neg λz2=>tf z2<|show(uZ (.int i) (.int j)==decide (wy ="up"))=false from z]at q;exact fo q;refine !!!!⟨?_⟩;dsimp only[dC];refine Qd ?_;refine Gj ?_;refine{_,rfl,?_};refine ck (λz=>?_) λz=>?_;rw[if_pos<|show(uZ (.str i) (.str j)==decide (wy ="up"))=true from z]at q;exact{_,rfl,fo q};rw[if_neg λz2=>tf z2<|show(uZ (.str i) (.str j)==decide (wy ="up"))=false from z]at q;exact fo q
noncomputable def u0(ps:wP)(wy:Str):ww:=ps.map Prod.snd++[(wy,("last": Str))]
noncomputable def dG:List (Str×Str)->List D->List D->Int|w::ws,x::xs,y::ys=>(if cV w.1 w.2 x y=0 then dG ws xs ys else cV w.1 w.2 x y)|_,_,_=>0
def PV(ks:j4)(xs:v0):Prop:=Paired (λk x=>Vg k x) ks xs
theorem BU:∀{ws:ww}{ks:j4}{xs ys:v0},ws.length=ks.length->PV ks xs->PV ks ys->(dG ws xs ys=0↔xs=ys)|[],_,_,_,h,.nil,.nil=>by simp[dG]|w::ws,_,_,_,h,.cons (b:=x) a1 a2,.cons (b:=y) b1 b2=>by unfold dG;have c:=tU (w:=w.1) (e:=w.2) {_,a1,b1};by_cases q:cV w.1 w.2 x y=0;rw[if_pos q,BU (yX h) a2 b2,c.mp q];simp;rw[if_neg q];exact{λz=>absurd z q,λz=>absurd (c.mpr (List.cons.inj z).1) q}
theorem Lq:∀{ws:ww}{ks:j4}{xs ys zs:v0},PV ks xs->PV ks ys->PV ks zs->dG ws xs ys<0->dG ws ys zs<0->dG ws xs zs<0|[],_,_,_,_,_,_,_,h,_=>by simp[dG]at h|w::ws,_,_,_,_,.nil,.nil,.nil,h,_=>by simp[dG]at h|w::ws,_,_,_,_,.cons (b:=x) a1 a2,.cons (b:=y) b1 b2,.cons (b:=z) c1 c2,h1,h2=>by unfold dG at h1 h2⊢;have e1:=tU (w:=w.1) (e:=w.2) {_,a1,b1};have e2:=tU (w:=w.1) (e:=w.2) {_,b1,c1};have e3:=tU (w:=w.1) (e:=w.2) {_,a1,c1};by_cases q1:x=y;subst q1;rw[if_pos<|e1.mpr rfl]at h1;by_cases q2:x=z;subst q2;rw[if_pos<|e2.mpr rfl]at h2⊢;exact Lq a2 b2 c2 h1 h2;rw[if_neg λz=>q2<|e2.mp z]at h2⊢;exact h2;rw[if_neg λz=>q1<|e1.mp z]at h1;by_cases q2:y=z;subst q2;rw[if_neg λz=>q1<|e3.mp z];exact h1;rw[if_neg λz=>q2<|e2.mp z]at h2;obtain⟨q3,l3⟩:=Oe (p:=("",w.1,w.2)) a1 b1 c1 q1 q2 ((BS {_,a1,b1}).mp h1).2 ((BS {_,b1,c1}).mp h2).2;rw[if_neg λz=>q3<|e3.mp z];exact(BS {_,a1,c1}).mpr ⟨q3,l3⟩
noncomputable def Gk(cs:ww)(z:Str):Str:=((cs[Mc cs z]?).map Prod.snd).getD "word"
noncomputable def Zz(cs:ww)(ps:wP):j4:=ps.map (λp=>Gk cs p.1)++[("word": Str)]
noncomputable def Gm(cs:ww)(ps:wP)(r:Row):v0:=ps.map (λp=>ak cs r.2 p.1)++[.str r.1]
theorem qo:∀z∈KS,Vg "word" (.str z):=by
 have h:∀z∈KS,(p7 z&&dF (.str z))=true:=by trivial
 exact λz hz=>let q:=Bool.and_eq_true_iff.mp<|h z hz;⟨q.1,q.2⟩
theorem mm:∀{l:List α}{m:List β}{l':List α}{m':List β},Paired r l m->Paired r l' m'->Paired r (l++l') (m++m')|_,_,_,_,.nil,h=>h|_,_,_,_,.cons a t,h=>.cons a<|mm t h
theorem EC(hg:Gd cs)(hp:Pin cs ps)(hw:Wg cs ws):Paired (λk x=>Vg k x) (ps.map λp=>Gk cs p.1) (ps.map λp=>ak cs ws p.1):=by induction ps with|nil=>exact .nil|cons p ps ih=>refine .cons ?_<|ih hp.tail;obtain⟨c,hc,e⟩:=hp p zj;show Vg (Gk cs p.1) (ak cs ws p.1);unfold Gk;rw[<-e,(pE hg hc).1];exact(nK hg hw hc).2
theorem Ls(hg:Gd cs)(hp:Pin cs ps)(hw:Wg cs r.2)(hk:r.1∈KS):PV (Zz cs ps) (Gm cs ps r):=mm (EC hg hp hw)<|.cons (qo _ hk) .nil
theorem Gn(hg:Gd cs){wy:Str}(ha:Wg cs a.2)(hb:Wg cs b.2)(ka:a.1∈KS)(kb:b.1∈KS)(n:a.1≠b.1):∀{ps:wP},Pin cs ps->(cQ cs wy ps a b=true↔dG (u0 ps wy) (Gm cs ps a) (Gm cs ps b)<0)|[],_=>(by show(vB a.1 b.1==decide (wy ="up"))=true↔(if cV wy "last" (.str a.1) (.str b.1)=0 then 0 else cV wy "last" (.str a.1) (.str b.1))<0;have n':(.str a.1:D)≠.str b.1:=λe=>n<|D.str.inj e;rw[if_neg λz=>n'<|(tU {_,qo _ ka,qo _ kb}).mp z,BS {_,qo _ ka,qo _ kb}];exact{λh=>⟨n',h⟩,λh=>h.2})|p::ps,hp=>by obtain⟨k,hk⟩:=y8 hg hp;have va:=hk _ ha;have vb:=hk _ hb;show(if qP (ak cs a.2 p.1) (ak cs b.2 p.1)=true then cQ cs wy ps a b else bL p (ak cs a.2 p.1) (ak cs b.2 p.1))=true↔(if cV p.2.1 p.2.2 (ak cs a.2 p.1) (ak cs b.2 p.1)=0 then dG (u0 ps wy) (Gm cs ps a) (Gm cs ps b) else cV p.2.1 p.2.2 (ak cs a.2 p.1) (ak cs b.2 p.1))<0;by_cases q:ak cs a.2 p.1=ak cs b.2 p.1;rw[if_pos<|(du va.2 vb.2).mpr q,if_pos<|(tU {_,va,vb}).mpr q];exact Gn hg ha hb ka kb n hp.tail;rw[if_neg λz=>q<|(du va.2 vb.2).mp z,if_neg λz=>q<|(tU {_,va,vb}).mp z,BS {_,va,vb}];exact{λh=>⟨q,h⟩,λh=>h.2}
noncomputable def UY(ws:ww)(g:v0)(sd:Str)(x:v0):Bool:=decide (dG ws x g<0)||(decide (dG ws x g=0)&&decide (sd ="behind"))
theorem XY{ws:ww}{ks:j4}{g x y:v0}{sd:Str}(hl:ws.length=ks.length)(hx:PV ks x)(hy:PV ks y)(hg:PV ks g)(h:dG ws x y<0)(q:UY ws g sd y=true):UY ws g sd x=true:=by unfold UY at q⊢;simp only[yK,zH,zZ]at q⊢;rcases q with q|⟨q,_⟩;exact .inl<|Lq hx hy hg h q;rw[<-(BU hl hy hg).mp q];exact .inl h
theorem ED:∀{l:List α},(l.Pairwise λa b=>g b=true->g a=true)->∀{i:Nat}{a:α},l[i]?=some a->(g a=true↔i<l.countP g)
 |[],_,i,a,h=>by simp at h
 |x::l,hp,i,a,h=>by
  obtain⟨h1,h2⟩:=List.pairwise_cons.mp hp;rw[List.countP_cons];by_cases q:g x=true;rw[if_pos q];cases i with|zero=>(cases h;simp[q])|succ i=>rw[ED h2<|show l[i]?=some a from h];lia
  have z:l.countP g=0:=List.countP_eq_zero.mpr λb hb e=>q<|h1 b hb e;rw[if_neg q,z];have:g a≠true:=by cases i with|zero=>(cases h;exact q)|succ i=>exact λe=>q<|h1 a (zp h) e
  simp[this]
theorem T4{α:Type}{g:α->Bool}{l:List α}(hp:l.Pairwise λa b=>g b=true->g a=true){n:Nat}(hn:n<=l.length)(h1:∀i a,i<n->l[i]?=some a->g a=true)(h2:∀i a,n<=i->l[i]?=some a->g a=false):n=l.countP g:=by
 have hc:l.countP g<=l.length:=List.countP_le_length;rcases Nat.lt_trichotomy n (l.countP g) with h|h|h;have hi:n<l.length:=by lia
 have e:=ze hi;have:=(ED hp e).mpr h;rw[h2 n _ (zq _) e]at this;cases this;exact h;have hi:l.countP g<l.length:=by lia
 have e:=ze hi;have:=(ED hp e).mp<|h1 _ _ h e;lia
noncomputable def Oy(xs:v0)(k:Str):D:=.tup [.tup xs,.str k]
abbrev qp:=List D×Str×Str
abbrev wT:=Option qp
noncomputable def nQ(g:qp):D:=.tup [Oy g.1 g.2.1,.str g.2.2]
noncomputable def Lu:Option qp->D|none=>.av|some g=>nQ g
noncomputable def nR(z:Str):Bool:=decide (z ="ahead")||decide (z ="behind")
structure Gp(cs:ww)(ps:wP)(g:qp):Prop where
 pv:Paired (λk x=>Vg k x) (ps.map λp=>Gk cs p.1) g.1
 key:g.2.1∈KS
 side:nR g.2.2=true
def Bg(cs:ww)(ps:wP)(b:wT):Prop:=∀g,b=some g->Gp cs ps g
noncomputable def Lv(g:qp):v0:=g.1++[.str g.2.1]
theorem Gp.vs(h:Gp cs ps g):PV (Zz cs ps) (Lv g):=mm h.pv<|.cons (qo _ h.key) .nil
theorem Gp.len(h:Gp cs ps g):g.1.length=ps.length:=by have:=yS h.pv;rw[zb]at this;exact this.symm
theorem Og.len(h:Og cs ps wy):ps.length<=8:=by have:=h.ok;unfold x9 at this;simp only[zH,zZ]at this;exact this.1
theorem EF(hg:Gd cs)(hc:c∈cs):c.1.cps.size<=1000:=by have h:=(hg.2.2 c hc).1;unfold lg at h;simp only[zH,zZ]at h;lia
inductive wm(ds:v0)(S:aq)(R:KD)(Z:KX):Prop where
 |mk (z)(h0:ds=[.str z])(h1:R (.bl<|nR z) S)
theorem EG:Ok P w base T.xx 1 wm:=by obtain⟨z,e,q⟩:T.xx.F.bx D9;refine{_,(s1<|sr<|uF (cb cZ T.aA au<|al 0<|ac (ui T.pX jv) an)<|L8<|cmk T.m6 (dv 0)<|dg (v:=.ref t.iB) T.kZ rfl λ_=>gH _),?_};refine !{_,_,_,_,rfl,cS,rfl,_,rfl,ee !{z,rfl,rfl,?_}};rw[K1];exact fo q
inductive fY(ds:v0)(S:aq)(R:KD)(Z:KX):Prop where
 |mk (cs ps xs)(h0:ds=[.tup<|cs.map aD,.tup<|ps.map p3,.tup xs])(h1:Gd cs)(h2:Pin cs ps)(h3:ps.length<=8)(h4:Paired (λk x=>Vg k x) (ps.map λp=>Gk cs p.1) xs)(h5:R (.bl true) S)
theorem kO:Ok P w base T.eG 4 fY:=by
 obtain⟨cs,ps,xs,e,hg,hp,h8,hv,q⟩:T.eG.F.bx kK;have hl:xs.length=ps.length:=by have:=yS hv;rw[zb]at this;exact this.symm
 have Tw:(ps.map p3).length=ps.length:=zb _;refine{_,(sc (si (twd<|twor (cB<|tv<|cb cZ T.aA au<|al 2<|ac (ui T.bh aS) an)<|tw1<|bi lR (cb a_ T.aW aI<|al 2 an)<|cb a_ T.aW aI<|al 1 an) (s1<|sr db) s0)<|s1<|sr<|cb kX T.k7 gG<|ac (WV (N:=["part","value","columns"]) (src:=[none,none,some 0]) (oj lU) (izn T.Kv<|al 1<|al 2 an) (Y2<|show(["part","value","columns"]:j4).Nodup by trivial) (rh rfl rfl) rA (λ_ _ _ _ _=>rn) λ_ _ _ _ _=>(aM T.jJ (jV T) hr<|ac (aM T.eF (gQ T) hr<|al 2<|ac (bn (dv 0) di) an)<|al 1 an)) an),?_};refine !{_,_,_,_,rfl,aV,rfl,_,rfl,aY !!!!!⟨pA (by rw[hl,Tw];simp) ?_⟩};refine !!{_,_,rfl,by rw[hl,Tw],?_};refine comp_map (λ_=>.bl true) trivial (by show(cC _ _).length<=_;unfold cC;rw[List.length_zipWith];lia) (λd hd Q hQ=>?_) λp jh=>?_;have hd:d∈cC (ps.map p3) xs:=hd;unfold cC at hd;obtain⟨i,ei⟩:=yg hd;obtain⟨x,y,e2,e3,e4⟩:=List.getElem?_zipWith_eq_some.mp ei;subst e4;rw[zh]at e2;cases e5:ps[i]? with|none=>(rw[e5]at e2;cases e2)|some pt=>rw[e5]at e2;cases e2;obtain⟨c,hc,ec⟩:=hp pt<|zp e5;obtain⟨k,ek,hk⟩:=dI hv e3;rw[zh,e5]at ek;cases ek;have hk:Vg (Gk cs pt.1) y:=hk;unfold Gk at hk;rw[<-ec,(pE hg hc).1]at hk;have hk:Vg c.2 y:=hk;refine !{rfl,_,_,rfl,_,_,rfl,rfl,_,rfl,_,rfl,_,rfl,cs,pt.1,rfl,hg,by rw[<-ec];exact EF hg hc,λk' Jq=>?_,λhn=>absurd (zi.mpr ⟨c,hc,ec⟩) hn};have e6:k'=c.2:=(by have:=gz (f:=Prod.fst) hg.2.1 Jq hc ec.symm;rw[<-this]);rw[e6];refine !{c.2,y,rfl,P7 hk,?_};rw[hk.1];exact hQ
 have e2:(cC (ps.map p3) xs).map (λ_=>D.bl true)=((cC (ps.map p3) xs).map λ_=>true).map D.bl:=by rw[zx];rfl
 have e3:((cC (ps.map p3) xs).map λ_=>true).all id=true:=by rw[all_map];exact zX.mpr λ_ _=>rfl
 refine{.ref p,(cC (ps.map p3) xs).map λ_=>true,rfl,?_,?_};show(S.set p<|.lst<|(cC (ps.map p3) xs).map _) p=_;rw[aa,e2];rw[e3];exact{S,.new jh,q}
inductive lB(ds:v0)(S:aq)(R:KD)(Z:KX):Prop where
 |mk (cs ps wy xs k)(h0:ds=[.tup<|cs.map aD,cY ps wy,Oy xs k])(h1:Gd cs)(h2:Pin cs ps)(h3:ps.length<=8)(h4:Paired (λk x=>Vg k x) (ps.map λp=>Gk cs p.1) xs)(h5:k∈KS)(h6:R .av S)
theorem tX:Ok P w base T.jK 5 lB:=by obtain⟨cs,ps,wy,xs,k,e,hg,hp,h8,hv,hk,q⟩:T.jK.F.bx sZ;refine{_,(sc (si (twd<|twor (cB<|tv<|cb cZ T.aA au<|al 2<|ac (ui T.bh aS) an)<|tw1<|bi lR (cb a_ T.aW aI<|al 2 an) di) (s1<|sF ⟨T.dD⟩ T.eT<|ac ds an) s0)<|sc (si (cB<|tv<|aM T.eG (kO T) hr<|al 0<|ac (bn (dv 1) di)<|ac (bn (dv 2) di) an) (s1<|sF ⟨T.dD⟩ T.eT<|ac ds an) s0)<|s1<|si (cB<|tv<|aM T.l5 (ia T) hr<|ac (bn (dv 2) di) an) (s1<|sF ⟨T.dD⟩ T.eT<|ac ds an) s0),?_};refine !{_,_,_,_,rfl,aV,rfl,_,rfl,aY !!!⟨aY ?_⟩};refine !!!!!{cs,ps,xs,rfl,hg,hp,h8,hv,_,rfl,aY ?_};refine !!{.str k,rfl,Gg hk,_,rfl,?_};rw[show ofStr kM (.str k)=true from(gO k hk).1];exact aY<|fo q
inductive qq(ds:v0)(S:aq)(R:KD)(Z:KX):Prop where
 |mk (cs ps wy g)(h0:ds=[.tup<|cs.map aD,cY ps wy,nQ g])(h1:Gd cs)(h2:Pin cs ps)(h3:ps.length<=8)(h4:Gp cs ps g)(h5:R .av S)
theorem y_:Ok P w base T.oU 6 qq:=by obtain⟨cs,ps,wy,g,e,hg,hp,h8,hv,q⟩:T.oU.F.bx xM;refine{_,(sc (si (twd<|twor (cB<|tv<|cb cZ T.aA au<|al 2<|ac (ui T.bh aS) an)<|tw1<|bi lR (cb a_ T.aW aI<|al 2 an) di) (s1<|sF ⟨T.dD⟩ T.eT<|ac ds an) s0)<|sc (se<|aM T.jK (tX T) hr<|al 0<|al 1<|ac (bn (dv 2) di) an)<|s1<|si (cB<|tv<|aM T.xx (EG T) hr<|ac (bn (dv 2) di) an) (s1<|sF ⟨T.dD⟩ T.eT<|ac ds an) s0),?_};refine !{_,_,_,_,rfl,aV,rfl,_,rfl,aY !!!⟨aY ?_⟩};refine !!!!{cs,ps,wy,g.1,g.2.1,rfl,hg,hp,h8,hv.pv,hv.key,?_};refine !!{g.2.2,rfl,_,rfl,?_};rw[hv.side];exact aY<|fo q
inductive lC(ds:v0)(S:aq)(R:KD)(Z:KX):Prop where
 |mk (cs ps wy b)(h0:ds=[.tup<|cs.map aD,cY ps wy,Lu b])(h1:Gd cs)(h2:Pin cs ps)(h3:ps.length<=8)(h4:Bg cs ps b)(h5:R .av S)
theorem tY:Ok P w base T.jN 7 lC:=by obtain⟨cs,ps,wy,b,e,hg,hp,h8,hv,q⟩:T.jN.F.bx s_;refine{_,(s1<|si (bi lQ (dv 2) dn) (s1<|se<|aM T.oU (y_ T) hr<|al 0<|al 1<|al 2 an) s0),?_};cases b with|none=>exact (!!⟨aY<|fo q⟩)|some g=>exact !!⟨ee !!!{cs,ps,wy,g,rfl,hg,hp,h8,hv g rfl,fo q}⟩
inductive nS(ds:v0)(S:aq)(R:KD)(Z:KX):Prop where
 |mk (n:Int)(h0:ds=[.int n])(h1:1<=n)(h2:n<=1000)(h3:R .av S)
theorem lE:Ok P w base T.iL 2 nS:=by obtain⟨n,e,h1,h2,q⟩:T.iL.F.bx uP;refine{_,(s1<|si (twd<|twor (cB<|tv<|aM T.jI (jU T) hr<|al 0 an)<|tw1<|cB<|YT jx jx hr.u di (dv 0)<|dg (v:=.int 1000) T.xp {_,rfl} λ_=>aP _) (s1<|sF ⟨T.oP⟩ T.DZ<|ac ds an) s0),?_};refine !{.int n,rfl,gt_int,_,rfl,aY !!⟨SX (zr h1) !⟨?_⟩⟩};exact pA (by show(!decide (n<=1000))=false;rw[zr h2];rfl)<|fo q
inductive nU(ds:v0)(S:aq)(R:KD)(Z:KX):Prop where
 |mk (cs ps wy d n b)(h0:ds=[.tup<|cs.map aD,cY ps wy,d,.int n,Lu b])(h1:Gd cs)(h2:Og cs ps wy)(h3:Sq cs d)(h4:1<=n)(h5:n<=1000)(h6:Bg cs ps b)(h7:R .av S)
theorem lF:Ok P w base T.iK 8 nU:=by obtain⟨cs,ps,wy,d,n,b,e,hg,ho,hd,h1,h2,hv,q⟩:T.iK.F.bx uO;refine{_,(sc (se<|aM T.eU (fV T) hr<|al 0<|al 1 an)<|sc (se<|aM T.eV (fW T) hr<|al 0<|al 2 an)<|sc (se<|aM T.iL (lE T) hr<|al 3 an)<|s1<|se<|aM T.jN (tY T) hr<|al 0<|al 1<|al 4 an),?_};refine !!{cs,ps,wy,rfl,hg,ho.tx,λ_=>?_,λz=>tf ho.ok z};refine !!{cs,d,rfl,hg,hd,_,rfl,n,rfl,h1,h2,?_};exact !!!{cs,ps,wy,b,rfl,hg,ho.pin,ho.len,hv,fo q}
structure An(cs:ww)(ps:wP)(wy:Str)(A:wS):Prop where
 rg:Rg cs A
 ky:∀r∈A,r.1∈KS
 pw:A.Pairwise λa b=>cQ cs wy ps a b=true
noncomputable def gP(cs:ww)(ps:wP)(wy:Str)(g:qp)(r:Row):Bool:=UY (u0 ps wy) (Lv g) g.2.2<|Gm cs ps r
theorem Oz:(u0 ps wy).length=(Zz cs ps).length:=by unfold u0 Zz;simp
theorem An.lex(hg:Gd cs)(hp:Pin cs ps)(h:An cs ps wy A):A.Pairwise λa b=>dG (u0 ps wy) (Gm cs ps a) (Gm cs ps b)<0:=by have nd:A.Pairwise λa b=>a.1≠b.1:=List.pairwise_map.mp h.rg.2;refine(h.pw.and nd).imp_of_mem λ{a b} ha hb q=>?_;exact(Gn hg (h.rg.1 a ha) (h.rg.1 b hb) (h.ky a ha) (h.ky b hb) q.2 hp).mp q.1
theorem An.mono(hg:Gd cs)(hp:Pin cs ps)(h:An cs ps wy A)(hv:Gp cs ps g):A.Pairwise λa b=>gP cs ps wy g b=true->gP cs ps wy g a=true:=by refine(h.lex hg hp).imp_of_mem λ{a b} ha hb q=>?_;exact XY Oz (Ls hg hp (h.rg.1 a ha)<|h.ky a ha) (Ls hg hp (h.rg.1 b hb)<|h.ky b hb) hv.vs q
inductive t5(ds:v0)(S:aq)(R:KD)(Z:KX):Prop where
 |mk (cs ps wy r)(h0:ds=[.tup<|cs.map aD,cY ps wy,ag r])(h1:Gd cs)(h2:Pin cs ps)(h3:ps.length<=8)(h4:Wg cs r.2)(h5:R (Oy (ps.map λp=>ak cs r.2 p.1) r.1) S)
theorem j6:Ok P w base T.jL 3 t5:=by
 obtain⟨cs,ps,wy,r,e,hg,hp,h8,hw,q⟩:T.jL.F.bx p5;refine{_,(sc (xl (N:=["part","columns","row"]) (src:=[none,some 0,some 2]) 3 p5.nd (oj DU) (JR<|bn (dv 1) di) rn<|aM T.cw (dJ T) hr<|al 1<|al 2<|ac (bn (dv 0) di) an)<|s1<|sr<|bX<|ac (ct ft T.bh aS<|al 3 an)<|ac (bn (dv 2) di) an),?_};refine !!{_,.inl rfl,?_};refine comp_map (λd=>match d with|.tup (.str z::_)=>ak cs r.2 z|_=>.av) trivial (by show(ps.map p3).length<=_;rw[zb];lia) (λd hd Q hQ=>?_) λp jh=>?_;obtain⟨pt,hpt,rfl⟩:=zi.mp hd;obtain⟨c,hc,ec⟩:=hp pt hpt;refine !!!!{cs,r,c,(by rw[ec];rfl),hg,hw,hc,?_};rw[ec];exact hQ;have e3:(ps.map p3).map (λd=>match d with|.tup (.str z::_)=>ak cs r.2 z|_=>.av)=ps.map λp=>ak cs r.2 p.1:=by rw[zx];rfl
 rw[show({ps.map p3,λ_=>True}:rm).xs=ps.map p3 from rfl,e3];exact !{_,_,rfl,.inl aa,_,rfl,_,rfl,bR,S,.new jh,q}
inductive Pcw(S:aq)(ps:wP)(wy:Str)(xs ys:v0)(k l:Str)(j:Int)(aG:SD)(S':aq):Prop where
 |mk (o3 o4 o5 o6:wn)(h0:aG=[some<|cY ps wy,some<|Oy xs k,some<|Oy ys l,o3,o4,o5,o6])(h1:S'=S)(h2:dG (u0 ps wy) (xs++[.str k]) (ys++[.str l])=j):Pcw S ps wy xs ys k l j aG S'
inductive gA(ds:v0)(S:aq)(R:KD)(Z:KX):Prop where
 |mk (ps:wP)(wy:Str)(xs:v0)(k:Str)(ys:v0)(l:Str)(ks:j4)(h0:ds=[cY ps wy,Oy xs k,Oy ys l])(h1:ps.length=xs.length)(h2:ps.length=ys.length)(h3:Paired (λk x=>Vg k x) ks xs)(h4:Paired (λk x=>Vg k x) ks ys)(h5:k∈KS)(h6:l∈KS)(h7:R (.int<|dG (u0 ps wy) (xs++[.str k])<|ys++[.str l]) S)
theorem mn:Ok P w base T.fc 3 gA:=by obtain⟨ps,wy,xs,k,ys,l,ks,e,h1,h2,vx,vy,hk,hl,q⟩:T.fc.F.bx bC;refine{_,(sc (Ba<|JS (ab4 T.Kv<|ac (bn (dv 0) di)<|ac (bn (dv 1) di)<|ac (bn (dv 2) di) an) (gt (n:=3)<|gc (gn (i:=3) bC.nd)<|gc (gn (i:=4) bC.nd)<|gc (gn (i:=5) bC.nd) g0)<|sc (bQ (i:=6) bC.nd<|aM T.compared (qm T) hr<|al 4<|al 5<|ac (bn (dv 3) di)<|ac (bn (dv 3) di) an)<|s1<|si (bi lR (dv 6) di) (s1<|sr<|dv 6) s0)<|s1<|sr<|aM T.compared (qm T) hr<|ac (bn (dv 1) di)<|ac (bn (dv 2) di)<|ac (bn (dv 0) di)<|ac ds an),?_};refine{Pcw S ps wy xs ys k l<|cV wy "last" (.str k)<|.str l,?_,?_};{refine !!!!!!{_,_,_,rfl,by rw[zb];exact h1,by rw[zb];exact h2,?_};refine{λi=>Pcw S ps wy xs ys k l<|dG (u0 (ps.drop i) wy) (xs.drop i++[.str k])<|ys.drop i++[.str l],{_,_,_,_,rfl,rfl,rfl},λ_ _ _ _=>trivial,?_,?_};rintro i d aG S' hd ⟨o3,o4,o5,o6,rfl,rfl,he⟩;obtain⟨x,y,z,e1,e2,e3,rfl⟩:=oM hd;rw[zh]at e1;(cases e5:ps[i]? with|none=>(rw[e5]at e1;cases e1)|some p=>rw[e5]at e1;cases e1;obtain⟨i1,g1⟩:=zf.mp e5;obtain⟨i2,g2⟩:=zf.mp e2;obtain⟨i3,g3⟩:=zf.mp e3;rw[List.drop_eq_getElem_cons i1,List.drop_eq_getElem_cons i2,List.drop_eq_getElem_cons i3,g1,g2,g3]at he;have he:_=if cV p.2.1 p.2.2 y z=0 then dG (u0 (ps.drop<|i+1) wy) (xs.drop (i+1)++[.str k]) (ys.drop (i+1)++[.str l]) else cV p.2.1 p.2.2 y z:=he;obtain⟨k1,q1,v1⟩:=dI vx e2;obtain⟨k2,q2,v2⟩:=dI vy e3;cases q1.symm.trans q2;refine !{rfl,_,_,rfl,_,_,rfl,_,_,rfl,rfl,?_};refine !!!!!!{y,z,p.2.1,p.2.2,rfl,⟨k1,v1,v2⟩,_,rfl,_,rfl,ck (λh=>?_) λh=>?_};have h:(!decide (cV p.2.1 p.2.2 y z=0))=true:=h;rw[if_neg<|z0<|nt h]at he;rw[he]at q;exact{_,rfl,fo q};have h:(!decide (cV p.2.1 p.2.2 y z=0))=false:=h;rw[if_pos<|zy<|nf h]at he;exact{_,_,_,_,rfl,rfl,he});{rintro aG S' ⟨o3,o4,o5,o6,rfl,rfl,he⟩;have he:_=dG (u0 (ps.drop (jA (ps.map p3) xs ys).length) wy) (xs.drop (jA (ps.map p3) xs ys).length++[.str k]) (ys.drop (jA (ps.map p3) xs ys).length++[.str l]):=he;rw[oK (by rw[zb];exact h1)<|by rw[zb];exact h2,zb,List.drop_length,h1,List.drop_length,<-h1,h2,List.drop_length]at he;refine fo {o3,o4,o5,o6,rfl,rfl,he.trans ?_};show(if cV wy "last" (.str k) (.str l)=0 then 0 else cV wy "last" (.str k) (.str l))=_;split;{next h=>exact h.symm};rfl}};rintro aG S' ⟨o3,o4,o5,o6,rfl,rfl,he⟩;rw[he]at q;exact !!!!!!{_,_,_,_,rfl,{_,qo k hk,qo l hl},fo q}
inductive t6(ds:v0)(S:aq)(R:KD)(Z:KX):Prop where
 |mk (cs ps wy r g)(h0:ds=[cY ps wy,Oy (ps.map λp=>ak cs r.2 p.1) r.1,nQ g])(h1:Gd cs)(h2:Pin cs ps)(h3:Wg cs r.2)(h4:r.1∈KS)(h5:Gp cs ps g)(h6:R (.bl<|gP cs ps wy g r) S)
theorem BV:Ok P w base T.sV 4 t6:=by obtain⟨cs,ps,wy,r,g,e,hg,hp,hw,hk,hv,q⟩:T.sV.F.bx p6;refine{_,(sc (bQ (i:=3) p6.nd<|aM T.fc (mn T) hr<|al 0<|al 1<|ac (bn (dv 2) di) an)<|sc (si (bi bf (dv 3) di) (s1<|sr<|be bf (bn (dv 2) di) ds) s0)<|s1<|sr<|be w5 (dv 3) di),?_};refine !!!!{ps,wy,_,r.1,g.1,g.2.1,_,rfl,by rw[zb],hv.len.symm,EC hg hp hw,hv.pv,hk,hv.key,_,rfl,_,rfl,?_};unfold gP UY at q;change R (.bl<|decide (dG (u0 ps wy) ((ps.map λp=>ak cs r.2 p.1)++[.str r.1]) (g.1++[.str g.2.1])<0)||decide (dG (u0 ps wy) ((ps.map λp=>ak cs r.2 p.1)++[.str r.1]) (g.1++[.str g.2.1])=0)&&decide (g.2.2 ="behind")) S at q;generalize dG (u0 ps wy) _ _=n at q⊢;refine ck (λh=>?_) λh=>?_;have h:n=0:=zy h;subst h;exact !!⟨fo q⟩;have h:¬n=0:=z0 h;rw[zo h,zY,Bool.or_false]at q;exact{_,rfl,fo q}
inductive Cw(S:aq)(cs:ww)(ps:wP)(wy:Str)(l:Addr)(g:qp)(A:wS)(m:Nat)(aG:SD)(S':aq):Prop where
 |mk (lo hi:Nat)(o6:wn)(h0:aG=[some<|.tup<|cs.map aD,some<|cY ps wy,some<|.ref l,some<|nQ g,some<|.int (lo:Nat),some<|.int (hi:Nat),o6])(h1:S'=S)(h2:m=hi-lo)(h3:lo<=hi)(h4:hi<=A.length)(h5:(∀i a,i<lo->A[i]?=some a->gP cs ps wy g a=true))(h6:(∀i a,hi<=i->A[i]?=some a->gP cs ps wy g a=false)):Cw S cs ps wy l g A m aG S'
inductive lG(ds:v0)(S:aq)(R:KD)(Z:KX):Prop where
 |mk (cs ps wy A l g)(h0:ds=[.tup<|cs.map aD,cY ps wy,.ref l,nQ g])(h1:Gd cs)(h2:Pin cs ps)(h3:ps.length<=8)(h4:S l=some (.lst<|A.map ag))(h5:An cs ps wy A)(h6:Gp cs ps g)(h7:R (.int ((A.countP (gP cs ps wy g):Nat):Int)) S)
theorem fZ:Ok P w base T.eW 5 lG:=by
 obtain⟨cs,ps,wy,A,l,g,e,hg,hp,h8,hl,hA,hv,q⟩:T.eW.F.bx bV;refine{_,(sc (bQ (i:=4) bV.nd di)<|sc (bQ (i:=5) bV.nd<|cb a_ T.aW aI<|al 2 an)<|sc (Ba<|swh (bi w5 (dv 4)<|dv 5)<|sc (bQ (i:=6) bV.nd<|bd bH (bd bu (dv 4)<|dv 5) di)<|s1<|si (tv<|aM T.sV (BV T) hr<|al 1<|ac (aM T.jL (j6 T) hr<|al 0<|al 1<|ac (bn (dv 2)<|dv 6) an)<|al 3 an) (s1<|bQ (i:=4) bV.nd<|bd bu (dv 6) di)<|s1<|bQ (i:=5) bV.nd<|dv 6)<|s1<|sr<|dv 4),?_};refine !!⟨.inl {_,hl,?_}⟩;rw[zb];refine{λaG S'=>∃(o6:wn),aG=[some<|.tup<|cs.map aD,some<|cY ps wy,some<|.ref l,some<|nQ g,some<|.int ((A.countP (gP cs ps wy g):Nat):Int),some<|.int ((A.countP (gP cs ps wy g):Nat):Int),o6]/\S'=S,?_,?_};refine{Cw S cs ps wy l g A,{_,0,A.length,none,rfl,rfl,rfl,zV _,zq _,λi a h=>absurd h<|Nat.not_lt_zero _,λi a h e=>?_},?_};rw[yn h]at e;cases e;rintro m aG S' ⟨lo,hi,o6,rfl,rfl,rfl,h1,h2,b1,b2⟩;refine !!!⟨ck (λh=>?_) λh=>?_⟩;have h:lo<hi:=by have:=zy h;lia
 have hm:(lo+hi)/2<A.length:=by lia
 have em:=ze hm;generalize A[(lo+hi)/2]=r at em;have HS:=zp em;have ed:(((lo:Nat):Int)+((hi:Nat):Int))/2=(((lo+hi)/2:Nat):Int):=by lia
 have mono:=hA.mono hg hp hv;refine !!⟨{by decide,by decide},?_⟩;rw[ed];refine !!!!!{_,ag r,hl,cE<|by rw[zh,em];rfl,cs,ps,wy,r,rfl,hg,hp,h8,hA.rg.1 r HS,_,rfl,cs,ps,wy,r,g,rfl,hg,hp,hA.rg.1 r HS,hA.ky r HS,hv,_,rfl,ck (λz=>?_) λz=>?_};refine !{hi-((lo+hi)/2+1),by lia,(lo+hi)/2+1,hi,_,rfl,rfl,rfl,by lia,h2,λi a WU ei=>?_,b2};rcases Nat.lt_or_ge i ((lo+hi)/2) with eB|Y6;exact List.pairwise_iff_getElem.mp mono i _ (zf.mp ei).1 hm eB |> λk=>by rw[(zf.mp ei).2,(zf.mp em).2]at k;exact k z
 have:i=(lo+hi)/2:=by lia
 subst this;rw[em]at ei;cases ei;exact z;refine !{(lo+hi)/2-lo,by lia,lo,(lo+hi)/2,_,rfl,rfl,rfl,by lia,by lia,b1,λi a WU ei=>?_};rcases Nat.lt_or_ge ((lo+hi)/2) i with eB|Y6;cases qa:gP cs ps wy g a with|false=>rfl|true=>have k:=List.pairwise_iff_getElem.mp mono _ i hm (zf.mp ei).1 eB;rw[(zf.mp ei).2,(zf.mp em).2]at k;exact tf (k qa) z
 have:i=(lo+hi)/2:=by lia
 subst this;rw[em]at ei;cases ei;exact z;have h:lo=hi:=by have:=z0 h;lia
 subst h;have:=T4 (hA.mono hg hp hv) h2 b1 b2;subst this;exact fo !⟨rfl⟩;rintro aG S' ⟨o6,rfl,rfl⟩;exact{_,rfl,fo q}
noncomputable def seg{α:Type}(A:List α)(b e:Nat):List α:=(A.drop b).take<|e-b
theorem Gq(h:i<e-b):(seg A b e)[i]?=A[b+i]?:=by unfold seg;rw[List.getElem?_take,if_pos h,List.getElem?_drop]
theorem OA(h:b<=e)(h2:e<=A.length):cn (A.map ag) (some ((b:Nat):Int)) (some ((e:Nat):Int))=(seg A b e).map ag:=by unfold cn seg;rw[HT.sIx_nat,HT.sIx_nat,zb,Nat.min_eq_left h2,Nat.min_eq_left<|zO h h2,List.map_take,List.map_drop]
noncomputable def z_(p:Addr)(b c:Nat):D:=.tup [.ref p,.int (b:Nat),.int (c:Nat)]
noncomputable def OB(cs:ww)(ps:wP)(wy:Str)(A:wS)(n:Nat):Option qp->Nat|none=>n|some g=>A.countP<|gP cs ps wy g
theorem Ab(h:n<=A.length):∀b,OB cs ps wy A n b<=A.length|none=>h|some _=>List.countP_le_length
structure BW(cs:ww)(ps:wP)(wy:Str)(n:Nat)(d:D)(rows A:wS):Prop where
 an:An cs ps wy A
 pm:A.Perm (rows.filter λr=>bZ cs r n d)
theorem BW.one(hg:Gd cs)(hp:Pin cs ps)(h:BW cs ps wy n d rows A)(h':BW cs ps wy n d rows A'):A=A':=Of hg hp h'.an.rg h.an.pw h'.an.pw<|h.pm.trans h'.pm.symm
def Lx(rows:wS):Prop:=∀r∈rows,r.1∈KS
theorem Ac{cs:ww}{ps:wP}{wy:Str}{n:Nat}{d:D}{rows A:wS}(hr:Rg cs rows)(hk:Lx rows)(pm:A.Perm<|rows.filter λr=>bZ cs r n d)(pw:A.Pairwise λa b=>cQ cs wy ps a b=true):BW cs ps wy n d rows A:={{(hr.sub List.filter_sublist).perm pm,λr h=>hk r (yD.mp<|pm.mem_iff.mp h).1,pw},pm}
noncomputable def CC(A:wS)(b n:Nat):Nat:=min (b+n) A.length
inductive OC(t:dY)(f:List (Str×Str)->List Part->Str->List Row->Option qp->Nat->Nat×Nat)(ds:v0)(S:aq)(R:KD)(Z:KX):Prop where
 |mk (a:Addr)(cs:ww)(ps:wP)(wy:Str)(d m:D)(n:Nat)(b:wT)(rows:wS)(h0:ds=[.ref a,cY ps wy,d,.int (n:Nat),Lu b,m])(h1:Gd cs)(h2:Og cs ps wy)(h3:Sq cs d)(h4:1<=n)(h5:n<=1000)(h6:Bg cs ps b)(h7:Vw t.ao S a cs m rows)(h8:Lx rows)(h9:Tb t S)(ha:∀(A:wS)(p:Addr),BW cs ps wy 7 d rows A->S p=none->R (z_ p (f cs ps wy A b n).1<|A.length-(f cs ps wy A b n).2) (S.set p<|.lst<|(seg A (f cs ps wy A b n).1 (f cs ps wy A b n).2).map ag))
noncomputable def u7(cs:ww)(ps:wP)(wy:Str)(A:wS)(b:wT)(n:Nat):Nat×Nat:=(OB cs ps wy A 0 b,CC A (OB cs ps wy A 0 b) n)
noncomputable def wo(cs:ww)(ps:wP)(wy:Str)(A:wS)(b:wT)(n:Nat):Nat×Nat:=(OB cs ps wy A A.length b-n,OB cs ps wy A A.length b)
theorem Gr{S:aq}{p q:Addr}{c e:Ce}(h:S q=none)(hp:S p=none)(hn:q≠p):Sub (S.set q e) ((S.set p c).set q e):=λb x hb=>by by_cases z:b=q;subst z;rw[aa]at hb⊢;exact hb;rw[ae z]at hb⊢;rw[ae<|gU hb hp];exact hb
inductive XZ(t:dY)(ds:v0)(S:aq)(R:KD)(Z:KX):Prop where
 |mk (a:Addr)(cs:ww)(ps:wP)(wy:Str)(d m:D)(f g:wT)(rows:wS)(h0:ds=[.ref a,cY ps wy,d,Lu f,Lu g,m])(h1:Gd cs)(h2:Og cs ps wy)(h3:Sq cs d)(h4:Bg cs ps f)(h5:Bg cs ps g)(h6:Vw t.ao S a cs m rows)(h7:Lx rows)(h8:Tb t S)(h9:∀(A:wS)(p:Addr),BW cs ps wy 7 d rows A->S p=none->R (.ref p) (S.set p<|.lst<|cn (A.map ag) (some ((OB cs ps wy A 0 f:Nat):Int))<|some ((OB cs ps wy A A.length g:Nat):Int)))
inductive j7(ds:v0)(S:aq)(R:KD)(Z:KX):Prop where
 |mk (l:Addr)(A:wS)(b e:Nat)(h0:ds=[.ref l,.int (b:Nat),.int (e:Nat)])(h1:S l=some (.lst<|A.map ag))(h2:b<=e)(h3:e<=A.length)(h4:∀p,S p=none->R (z_ p b<|A.length-e) (S.set p<|.lst<|(seg A b e).map ag))
theorem ja:Ok P w base T.fu 1 j7:=by refine T.fu.F.bx qL ?_;rintro _ _ _ _ _ _ _ S R Z hr ⟨l,A,b,e,e0,hl,h1,h2,q⟩;subst e0;refine{_,(s1<|sr<|bX<|ac (NS (dv 0) (o1<|dv 1)<|o1<|dv 2)<|al 1<|ac (bo pT hr.u (cb a_ T.aW aI<|al 0 an)<|dv 2) an),?_};refine !!!!!{_,hl,λp hp=>?_};rw[OA h1 h2];refine !!!⟨.inl {_,(Sub.new hp) _ _ hl,_,rfl,qO,?_}⟩;rw[zb,show((A.length:Nat):Int)-((e:Nat):Int)=((A.length-e:Nat):Int) by omega];exact fo<|q p hp
inductive qr(ds:v0)(S:aq)(R:KD)(Z:KX):Prop where
 |mk (l:Addr)(A:wS)(b n:Nat)(h0:ds=[.ref l,.int (b:Nat),.int (n:Nat)])(h1:S l=some (.lst<|A.map ag))(h2:b<=A.length)(h3:∀p,S p=none->R (z_ p b<|A.length-CC A b n) (S.set p<|.lst<|(seg A b<|CC A b n).map ag))
theorem nV:Ok P w base T.kr 2 qr:=by
 refine T.kr.F.bx xP ?_;rintro _ _ _ _ _ _ _ S R Z hr ⟨l,A,b,n,e0,hl,h1,q⟩;subst e0;refine{_,(s1<|sr<|aM T.fu (ja T) hr<|al 0<|al 1<|ac (cb Pm T.PU JF<|ac (bo bu hr.u (dv 1)<|dv 2)<|ac (cb a_ T.aW aI<|al 0 an) an) an),?_};refine !!!!!!⟨.inl {_,hl,_,_,rfl,?_}⟩;rw[zb];have e1:(if decide (((A.length:Nat):Int)<((b:Nat):Int)+((n:Nat):Int))=true then ((A.length:Nat):Int) else ((b:Nat):Int)+((n:Nat):Int))=((CC A b n:Nat):Int):=by unfold CC;by_cases h:((A.length:Nat):Int)<((b:Nat):Int)+((n:Nat):Int);rw[if_pos<|zr h];omega;rw[if_neg<|by rw[zo h];exact zd];omega
 rw[e1];exact{l,A,b,CC A b n,rfl,hl,by unfold CC;omega,by unfold CC;omega,λp hp=>fo<|q p hp}
inductive nW(ds:v0)(S:aq)(R:KD)(Z:KX):Prop where
 |mk (l:Addr)(A:wS)(e n:Nat)(h0:ds=[.ref l,.int (e:Nat),.int (n:Nat)])(h1:S l=some (.lst<|A.map ag))(h2:e<=A.length)(h3:∀p,S p=none->R (z_ p (e-n)<|A.length-e) (S.set p<|.lst<|(seg A (e-n) e).map ag))
theorem lH:Ok P w base T.iJ 2 nW:=by
 refine T.iJ.F.bx uN ?_;rintro _ _ _ _ _ _ _ S R Z hr ⟨l,A,e,n,e0,hl,h1,q⟩;subst e0;refine{_,(s1<|sr<|aM T.fu (ja T) hr<|al 0<|ac (cb WH T.Xz Sz<|ac (bo pT hr.u (dv 1)<|dv 2)<|ac di an)<|al 1 an),?_};refine !!!{_,_,rfl,?_};have e1:(if decide (((e:Nat):Int)-((n:Nat):Int)<0)=true then (0:Int) else ((e:Nat):Int)-((n:Nat):Int))=((e-n:Nat):Int):=by by_cases h:((e:Nat):Int)-((n:Nat):Int)<0;rw[if_pos<|zr h];omega;rw[if_neg<|by rw[zo h];exact zd];omega
 rw[e1];exact !{l,A,e-n,e,rfl,hl,Nat.sub_le _ _,h1,λp hp=>fo<|q p hp}
inductive Lz(f:List (Str×Str)->List Part->Str->List Row->Option qp->Nat->Nat×Nat)(ds:v0)(S:aq)(R:KD)(Z:KX):Prop where
 |mk (cs:ww)(ps:wP)(wy:Str)(l:Addr)(A:wS)(n:Nat)(b:wT)(h0:ds=[.tup<|cs.map aD,cY ps wy,.ref l,.int (n:Nat),Lu b])(h1:Gd cs)(h2:Pin cs ps)(h3:ps.length<=8)(h4:S l=some (.lst<|A.map ag))(h5:An cs ps wy A)(h6:Bg cs ps b)(h7:∀p,S p=none->R (z_ p (f cs ps wy A b n).1<|A.length-(f cs ps wy A b n).2) (S.set p<|.lst<|(seg A (f cs ps wy A b n).1 (f cs ps wy A b n).2).map ag))
theorem u9:Ok P w base T.l7 6 (Lz u7):=by refine T.l7.F.bx k9 ?_;rintro _ _ _ _ _ _ _ S R Z hr ⟨cs,ps,wy,l,A,n,b,e0,hg,hp,h8,hl,hA,hb,q⟩;subst e0;refine{_,(sc (bQ (i:=5) k9.nd<|RX (bp kF hr.u (dv 4) dn) di<|aM T.eW (fZ T) hr<|al 0<|al 1<|al 2<|al 4 an)<|s1<|sr<|aM T.kr (nV T) hr<|al 2<|al 5<|al 3 an),?_};cases b with|none=>exact (!!⟨ee !!!{l,A,0,n,rfl,hl,zV _,λp hp=>fo<|q p hp}⟩)|some g=>exact !!⟨aY !!!!{cs,ps,wy,A,l,g,rfl,hg,hp,h8,hl,hA,hb g rfl,_,rfl,_,rfl,_,rfl,l,A,_,n,rfl,hl,List.countP_le_length,λp hp=>fo<|q p hp}⟩
theorem qS:Ok P w base T.iI 6 (Lz wo):=by refine T.iI.F.bx i6 ?_;rintro _ _ _ _ _ _ _ S R Z hr ⟨cs,ps,wy,l,A,n,b,e0,hg,hp,h8,hl,hA,hb,q⟩;subst e0;refine{_,(sc (bQ (i:=5) i6.nd<|RX (bp kF hr.u (dv 4) dn) (cb a_ T.aW aI<|al 2 an)<|aM T.eW (fZ T) hr<|al 0<|al 1<|al 2<|al 4 an)<|s1<|sr<|aM T.iJ (lH T) hr<|al 2<|al 5<|al 3 an),?_};cases b with|none=>refine !!⟨ee !!⟨.inl {_,hl,?_}⟩⟩;rw[zb];exact (!!!{l,A,A.length,n,rfl,hl,zq _,λp hp=>fo<|q p hp})|some g=>exact !!⟨aY !!!!{cs,ps,wy,A,l,g,rfl,hg,hp,h8,hl,hA,hb g rfl,_,rfl,_,rfl,_,rfl,l,A,_,n,rfl,hl,List.countP_le_length,λp hp=>fo<|q p hp}⟩
theorem t9(B:Bm mg base):Ok P w base T.rC 13 (OC t u7):=by
 refine T.rC.F.bx Ea ?_;rintro _ _ _ _ _ _ _ S R Z hr ⟨a,cs,ps,wy,d,m,n,b,rows,e0,hg,ho,hd,h1,h2,hb,hv,hk,ht,q⟩;subst e0;obtain⟨F,dl,rs,hS,hn,Zu,Zv⟩:=hv.sh;obtain⟨ld,lr,ra,h,_⟩:=id hS;refine{_,(sc (se<|aM T.iK (lF T) hr<|ac (eR (dv 0) T.aj T.aB (aL T) hr)<|al 1<|al 2<|al 3<|al 4 an)<|s1<|sr<|aM T.l7 (u9 T) hr<|ac (eR (dv 0) T.aj T.aB (aL T) hr)<|al 1<|ac (aM T.bU (cI T B) hr<|al 0<|al 1<|al 2<|al 5 an)<|al 3<|al 4 an),?_};refine !{a,_,rfl,h.ins,rfl,a,F,cs,dl,rs,rfl,hS,_,rfl,_,rfl,_,rfl,_,rfl,cs,ps,wy,d,n,b,rfl,hg,ho,hd,by omega,by omega,hb,?_};refine !{a,_,rfl,h.ins,rfl,a,F,cs,dl,rs,rfl,hS,_,rfl,_,rfl,_,rfl,_,rfl,_,rfl,a,cs,ps,wy,d,m,rows,rfl,hg,ho,hd,hv,ht,λA l pm pw hl=>?_};have an:=Ac hv.rg hk pm pw;refine !!{cs,ps,wy,l,A,n,b,rfl,hg,ho.pin,ho.len,aa,an.an,hb,λp hp=>?_};have dy:p≠l:=λe=>by rw[e,aa]at hp;cases hp
 have Te:S p=none:=by rw[ae dy]at hp;exact hp
 exact{_,Gr Te hl dy,q A p an Te}
theorem nX(B:Bm mg base):Ok P w base T.kl 13 (OC t wo):=by
 refine T.kl.F.bx xO ?_;rintro _ _ _ _ _ _ _ S R Z hr ⟨a,cs,ps,wy,d,m,n,b,rows,e0,hg,ho,hd,h1,h2,hb,hv,hk,ht,q⟩;subst e0;obtain⟨F,dl,rs,hS,hn,Zu,Zv⟩:=hv.sh;obtain⟨ld,lr,ra,h,_⟩:=id hS;refine{_,(sc (se<|aM T.iK (lF T) hr<|ac (eR (dv 0) T.aj T.aB (aL T) hr)<|al 1<|al 2<|al 3<|al 4 an)<|s1<|sr<|aM T.iI (qS T) hr<|ac (eR (dv 0) T.aj T.aB (aL T) hr)<|al 1<|ac (aM T.bU (cI T B) hr<|al 0<|al 1<|al 2<|al 5 an)<|al 3<|al 4 an),?_};refine !{a,_,rfl,h.ins,rfl,a,F,cs,dl,rs,rfl,hS,_,rfl,_,rfl,_,rfl,_,rfl,cs,ps,wy,d,n,b,rfl,hg,ho,hd,by omega,by omega,hb,?_};refine !{a,_,rfl,h.ins,rfl,a,F,cs,dl,rs,rfl,hS,_,rfl,_,rfl,_,rfl,_,rfl,_,rfl,a,cs,ps,wy,d,m,rows,rfl,hg,ho,hd,hv,ht,λA l pm pw hl=>?_};have an:=Ac hv.rg hk pm pw;refine !!{cs,ps,wy,l,A,n,b,rfl,hg,ho.pin,ho.len,aa,an.an,hb,λp hp=>?_};have dy:p≠l:=λe=>by rw[e,aa]at hp;cases hp
 have Te:S p=none:=by rw[ae dy]at hp;exact hp
 exact{_,Gr Te hl dy,q A p an Te}
structure Qs(t:dY)(S:aq)(a:Addr)(cs:ww)(ps:wP)(wy:Str)(d m:D)(rows:wS):Prop where
 g:Gd cs
 o:Og cs ps wy
 s:Sq cs d
 v:Vw t.ao S a cs m rows
 k:Lx rows
 t:Tb t S
theorem Qs.sub{t:dY}{S S':aq}{a:Addr}{cs:ww}{ps:wP}{wy:Str}{d m:D}{rows:wS}(h:Qs t S a cs ps wy d m rows)(b:Sub S S'):Qs t S' a cs ps wy d m rows:={h.g,h.o,h.s,h.v.sub b,h.k,h.t.sub b}
section
variable{t:dY}{S:aq}{a:Addr}{cs:ww}{ps:wP}{wy:Str}{d m:D}{rows:wS}{R:KD}{Z:KX}(hq:Qs t S a cs ps wy d m rows)
include hq
theorem Qs.pg(b:wT)(h1:1<=n)(h2:n<=1000)(hb:Bg cs ps b)(k:∀(A:wS)(p:Addr),BW cs ps wy 7 d rows A->S p=none->R (z_ p (f cs ps wy A b n).1<|A.length-(f cs ps wy A b n).2) (S.set p<|.lst<|(seg A (f cs ps wy A b n).1 (f cs ps wy A b n).2).map ag)):W (OC t f) [.ref a,cY ps wy,d,.int (n:Nat),Lu b,m] S R Z:=⟨a,cs,ps,wy,d,m,n,b,rows,rfl,hq.g,hq.o,hq.s,h1,h2,hb,hq.v,hq.k,hq.t,k⟩
end
theorem rK(hr:Rg cs rows)(hk:Lx rows):∀d∈rows.map ag,Ly S 60 d:=λd hd=>by obtain⟨r,h,rfl⟩:=zi.mp hd;exact TZ (hk r h)<|hr.1 r h
noncomputable def Ij(cs:ww)(ps:wP)(sd:Str)(r:Row):qp:=(ps.map λp=>ak cs r.2 p.1,r.1,sd)
theorem EH{cs:ww}(hg:Gd cs){ps:wP}(hp:Pin cs ps){r:Row}(hw:Wg cs r.2)(hk:r.1∈KS){sd:Str}(hs:nR sd=true):Gp cs ps (Ij cs ps sd r):={EC hg hp hw,hk,hs}
inductive wq(ds:v0)(S:aq)(R:KD)(Z:KX):Prop where
 |mk (cs:ww)(ps:wP)(wy:Str)(p:Addr)(rows:wS)(b c:Nat)(h0:ds=[.tup<|cs.map aD,cY ps wy,z_ p b c])(h1:Gd cs)(h2:Pin cs ps)(h3:ps.length<=8)(h4:S p=some (.lst<|rows.map ag))(h5:(∀r∈rows,Wg cs r.2))(h6:(rows=[]->R .av S))(h7:∀r0 r1,rows[0]?=some r0->rows[rows.length-1]?=some r1->R (.tup [nQ<|Ij cs ps "ahead" r0,nQ<|Ij cs ps "behind" r1]) S)
theorem EI:Ok P w base T.xA 4 wq:=by
 refine T.xA.F.bx tj ?_;rintro _ _ _ _ _ _ _ S R Z hr ⟨cs,ps,wy,p,rows,b,c,e0,hg,hp,h8,hS,hw,q1,q2⟩;subst e0;refine{_,(sc (bQ (i:=3) tj.nd<|ix hr.u (dv 2) di)<|sc (si (bp bf hr.u (cb a_ T.aW aI<|al 3 an) di) (s1<|sr dn) s0)<|s1<|sr<|bX<|ac (bX<|ac (aM T.jL (j6 T) hr<|al 0<|al 1<|ac (ix hr.u (dv 3) di) an)<|ac ds an)<|ac (bX<|ac (aM T.jL (j6 T) hr<|al 0<|al 1<|ac (ix hr.u (dv 3)<|DB di) an)<|ac ds an) an),?_};refine !!!!⟨.inl {_,hS,_,rfl,?_}⟩;rw[zb];refine ck (λh=>?_) λh=>?_;have h:((rows.length:Nat):Int)=0:=zy h;exact fo<|q1<|List.length_eq_zero_iff.mp (by lia);have h:¬((rows.length:Nat):Int)=0:=z0 h;have h0:0<rows.length:=by lia
 have hl:rows.length-1<rows.length:=by lia
 have e0:=ze h0;have e1:=ze hl;generalize rows[0]=r0 at e0;generalize rows[rows.length-1]=r1 at e1;have w0:=hw r0<|zp e0;have w1:=hw r1<|zp e1;have ea:kD (rows.map ag) (-1)=some (ag r1):=by unfold kD I_;rw[zb,if_neg<|by decide,if_pos<|by lia,show((-1:Int)+((rows.length:Nat):Int)).toNat=rows.length-1 by lia];show(rows.map ag)[rows.length-1]?=_;rw[zh,e1];rfl
 refine !!!{_,ag r0,hS,cE (j:=0)<|by rw[zh,e0];rfl,cs,ps,wy,r0,rfl,hg,hp,h8,w0,bR,?_};refine !!!!{_,ag r1,hS,ea,cs,ps,wy,r1,rfl,hg,hp,h8,w1,bR,bR,?_};exact fo<|q2 r0 r1 e0 e1
theorem T5(hg:Gd cs)(hc:c∈cs):((cs.map Prod.fst).map D.str).all jy=true/\(∃z,((cs.map Prod.fst).map D.str)[Mc cs c.1]?=some z/\eqV (kG z) (kG<|.str c.1)=true)/\∀m u,m<Mc cs c.1->((cs.map Prod.fst).map D.str)[m]?=some u->eqV (kG u) (kG<|.str c.1)=false:=by obtain⟨n1,n2⟩:=pE hg hc;refine{?_,{.str c.1,by rw[zh,n2];rfl,by show(c.1==c.1)=true;simp},?_};rw[List.all_map];exact zX.mpr λ_ _=>rfl;intro m u hm hu;rw[zh]at hu;cases e:(cs.map Prod.fst)[m]? with|none=>(rw[e]at hu;cases hu)|some z'=>rw[e]at hu;cases hu;show(z'==c.1)=false;have:z'≠c.1:=λq=>(by subst q;obtain⟨b1,c1⟩:=zf.mp e;obtain⟨b2,c2⟩:=zf.mp n2;have:=(List.getElem_inj hg.2.1 (h₀:=b1) (h₁:=b2)).mp<|c1.trans c2.symm;lia);simpa using this
noncomputable def X0:D->D|.tup (x::_)=>x|_=>.av
theorem LA(cs:ww):(cs.map aD).map X0=(cs.map Prod.fst).map D.str:=by rw[zx,zx];rfl
noncomputable def CD:D->PyData|.int i=>.int i|.str z=>.str z|_=>.none
theorem T6(hx:dF x=true):Dp S x (CD x)/\(CD x).canLay0=true/\(CD x).depth<=0:=by cases x with|av=>exact{by simp only[Dp,CD],by simp only[CD,PyData.canLay0],by simp only[CD,PyData.depth];lia}|int i=>exact{by simp only[Dp,CD],by simp only[CD,PyData.canLay0],by simp only[CD,PyData.depth];lia}|str z=>refine{by simp only[Dp,CD],?_,by simp only[CD,PyData.depth];lia};unfold dF at hx;simp only[zH]at hx;simp only[CD,PyData.canLay0];exact hx.2|_=>cases hx
theorem Gs:∀{xs:v0},(∀x∈xs,dF x=true)->DpAll S xs (xs.map CD)/\PyData.canLayAll0 (xs.map CD)=true/\PyData.depthAll (xs.map CD)<=0|[],_=>{by simp only[List.map_nil,DpAll],rfl,zV _}|x::xs,h=>by obtain⟨a,b,c⟩:=T6 (S:=S)<|h x zj;obtain⟨a',b',c'⟩:=Gs (S:=S) λy hy=>h y<|zg _ hy;exact{by simp only[zC,DpAll];exact{_,_,rfl,a,a'},by simp only[zC,PyData.canLayAll0,b,b',Bool.and_self],by simp only[zC,PyData.depthAll];lia}
noncomputable def Qe(r:Row):PyData:=.tuple [.str r.1,.tuple<|r.2.map CD]
theorem T7(hw:Wg cs r.2):Dr S (ag r) (Qe r):=by refine .tup<|.cons (.str _)<|.cons (.tup ?_) .nil;have h:=Wg.all hw;generalize r.2=ws at h;induction ws with|nil=>exact .nil|cons v ws ih=>refine .cons ?_<|ih λd hd=>h d<|zg _ hd;have hv:=h v zj;cases v<;>first|exact .av|exact .int _|exact .str _|cases hv
theorem Gu:∀{rows:wS},(∀r∈rows,Wg cs r.2)->Kg S (rows.map ag) (rows.map Qe)|[],_=>.nil|r::rows,h=>.cons (T7<|h r zj)<|Gu λx hx=>h x<|zg _ hx
theorem OD(hw:Wg cs r.2)(hk:r.1∈KS):(Qe r).canLay0=true/\(Qe r).depth<=2:=by obtain⟨_,b,c⟩:=Gs (S:=λ_=>none)<|Wg.all hw;have z:=(gO _ hk).2.2;unfold Qe;refine{by simp only[PyData.canLay0,PyData.canLayAll0,z,b,Bool.and_self],?_};simp only[PyData.depth,PyData.depthAll];lia
theorem BX:∀{rows:wS},(∀r∈rows,Wg cs r.2)->Lx rows->PyData.canLayAll0 (rows.map Qe)=true/\PyData.depthAll (rows.map Qe)<=2|[],_,_=>{rfl,zV _}|r::rows,h,k=>by obtain⟨a,b⟩:=OD (h r zj)<|k r zj;obtain⟨a',b'⟩:=BX (λx hx=>h x<|zg _ hx) λx hx=>k x<|zg _ hx;exact{by simp only[zC,PyData.canLayAll0,a,a',Bool.and_self],by simp only[zC,PyData.depthAll];lia}
theorem gB(h:r∈seg A b e):r∈A:=List.mem_of_mem_drop<|List.mem_of_mem_take h
noncomputable def ZA(A:wS)(b e:Nat):PyData:=.tuple [.list<|(seg A b e).map Qe,.int (b:Nat),.int<|(A.length-e:Nat)]
theorem wu(hw:∀r∈A,Wg cs r.2)(h:S p=some (.lst<|(seg A b e).map ag)):Dr S (z_ p b<|A.length-e) (ZA A b e):=.tup<|.cons (.ref h<|Gu λr hr=>hw r<|gB hr)<|.cons (.int _)<|.cons (.int _) .nil
theorem EJ(hw:∀r∈A,Wg cs r.2)(hk:Lx A):(ZA A b e).canLay0=true/\(ZA A b e).depth<=4:=by obtain⟨a,c⟩:=BX (rows:=seg A b e) (λr hr=>hw r<|gB hr) λr hr=>hk r<|gB hr;unfold ZA;refine{by simp only[PyData.canLay0,PyData.canLayAll0,a,Bool.and_self],?_};simp only[PyData.depth,PyData.depthAll];lia
inductive wx(ds:v0)(S:aq)(R:KD)(Z:KX):Prop where
 |mk (cs ps wy r)(h0:ds=[.tup<|cs.map aD,cY ps wy,ag r])(h1:Gd cs)(h2:Pin cs ps)(h3:ps.length<=8)(h4:Wg cs r.2)(h5:R (Oy (ps.map λp=>ak cs r.2 p.1) r.1) S)
theorem LB:Ok P w base T.xD 1 wx:=by
 obtain⟨cs,ps,wy,r,e,hg,hp,h8,hw,q⟩:T.xD.F.bx tq;refine{_,(sc (bQ (i:=3) tq.nd<|WV (N:=["_law_name","_law_kind"]) (src:=[none,none]) (oj vS) (JR<|dv 0) (Y2<|show(["_law_name","_law_kind"]:j4).Nodup by trivial) (rh rfl rfl) rA (λ_ _ _ _ _=>rn) λ_ _ _ _ _=>(dv 0))<|s1<|sr<|bX<|ac (ct ft T.bh aS<|ac (xk (N:=["_law_part","_law_row","_law_names"]) (src:=[none,some 2,some 3]) (oj vS) (JR<|bn (dv 1) di) rn<|bn (bn (dv 1) di)<|bm zR PySem.F.slot_list_index PySem.F.type_list_index A3 (dv 2)<|ac (bn (dv 0) di) an) an)<|ac (bn (dv 2) di) an),?_};refine !{_,.inl rfl,?_};refine comp_map X0 trivial (by show(cs.map aD).length<=1000;rw[zb];have:=hg.1;lia) (λd hd Q hQ=>?_) λpn jh=>?_;obtain⟨c,_,rfl⟩:=zi.mp hd;exact !{rfl,_,_,rfl,_,_,rfl,rfl,_,rfl,hQ};rw[show({cs.map aD,λ_=>True}:rm).xs=cs.map aD from rfl,LA];have sb:=Sub.new (c:=.lst<|(cs.map Prod.fst).map D.str) jh;have Ax:(S.set pn<|.lst<|(cs.map Prod.fst).map D.str) pn=some (.lst<|(cs.map Prod.fst).map D.str):=aa;generalize S.set pn (.lst<|(cs.map Prod.fst).map D.str)=S1 at sb Ax⊢;refine !!{_,.inl rfl,?_};refine comp_map (λd=>match d with|.tup (.str z::_)=>ak cs r.2 z|_=>.av) trivial (by show(ps.map p3).length<=_;rw[zb];lia) (λd hd Q hQ=>?_) λp2 gD=>?_;obtain⟨pt,hpt,rfl⟩:=zi.mp hd;obtain⟨c,hc,ec⟩:=hp pt hpt;have lx:=T5 hg hc;have hpk:=(nK hg hw hc).1;rw[ec]at lx hpk;exact !!!⟨{rfl,_,Ax},_,rfl,_,rfl,_,.str pt.1,Mc cs pt.1,rfl,Ax,rfl,lx.1,lx.2.1,lx.2.2,_,cE hpk,hQ⟩;have e3:(ps.map p3).map (λd=>match d with|.tup (.str z::_)=>ak cs r.2 z|_=>.av)=ps.map λp=>ak cs r.2 p.1:=by rw[zx];rfl
 rw[show({ps.map p3,λ_=>True}:rm).xs=ps.map p3 from rfl,e3];exact{_,_,rfl,.inl aa,_,rfl,_,rfl,bR,S,sb.trans<|.new gD,q}
noncomputable def T8(x:Int):rp:=[1,2,3,1+x/6%9,1000,13+x/6%30]
noncomputable def t_(x:Int):Nat:=((T8 x).getD (x%6).toNat 1).toNat
theorem LC(h:y∈T8 x):1<=y/\y<=1000:=by have a0:0<=x/6%9:=zL _ (by decide);have a1:x/6%9<9:=zK _ (by decide);have b0:0<=x/6%30:=zL _ (by decide);have b1:x/6%30<30:=zK _ (by decide);unfold T8 at h;simp only[zm,zM,or_false]at h;rcases h with h|h|h|h|h|h<;>lia
theorem ua(x:Int):1<=t_ x/\t_ x<=1000:=by
 have h:(x%6).toNat<(T8 x).length:=by have:=zL x (show(6:Int)≠0 by decide);have:=zK x (show(0:Int)<6 by decide);show _<6;lia
 have:=LC<|List.getElem_mem h;unfold t_;rw[zw,ze h];show 1<=((T8 x)[(x%6).toNat]).toNat/\((T8 x)[(x%6).toNat]).toNat<=1000;lia
inductive BY(ds:v0)(S:aq)(R:KD)(Z:KX):Prop where
 |mk (x:Int)(h0:ds=[.int x])(h1:R (.int (t_ x:Nat)) S)
theorem Ad:Ok P w base T.sY 1 BY:=by
 obtain⟨x,e,q⟩:T.sY.F.bx HK;refine{_,(s1<|sr<|uG<|bn (cJ<|ac di<|ac di<|ac di<|ac (bd bu di<|bd ba (bd bH (dv 0) di) di)<|ac di<|ac (bd bu di<|bd ba (bd bH (dv 0) di) di) an)<|bd ba (dv 0) di),?_};refine{_,rfl,{by decide,by trivial},by decide,_,rfl,{by decide,by trivial},by decide,ab6,λp hp=>!{by decide,?_}};obtain⟨v,e1,e2⟩:=kh (l:=(T8 x).map D.int) (i:=x%6) (zL _<|by decide)<|zK _ (by decide);refine{_,v,aa,e1,S,.new hp,?_};rw[zh]at e2;obtain⟨y,ey,rfl⟩:=Option.map_eq_some_iff.mp e2;have hy:=LC<|zp ey;have e3:((t_ x:Nat):Int)=y:=by unfold t_;rw[zw,ey];show((y.toNat:Nat):Int)=y;lia
 rw[e3]at q;exact fo q
inductive Gv(ds:v0)(S:aq)(R:KD)(Z:KX):Prop where
 |mk (cs:ww)(ps:wP)(wy:Str)(c:Int)(h0:ds=[.tup<|cs.map aD,cY ps wy,.int c])(h1:Gd cs)(h2:Og cs ps wy)(h3:∀g,Gp cs ps g->R (nQ g) S)
theorem Gw(hd:d∈[D.str "ahead",.str "behind"]):∃sd:Str,d=.str sd/\nR sd=true:=by simp only[zm,zM,or_false]at hd;rcases hd with h|h;exact{_,h,by trivial};exact{_,h,by trivial}
theorem OE:Ok P w base T.Kz 2 Gv:=by
 obtain⟨cs,ps,wy,c0,e,hg,ho,q⟩:T.Kz.F.bx nq;have h8:=ho.len;have dy:(ps.map p3).length=ps.length:=zb _;refine{_,(sc (bQ (i:=3) nq.nd<|aM T.gx (ig T) hr<|al 2<|ac di an)<|sc (bQ (i:=4) nq.nd<|ct JW T.Ku Fc<|al 0 an)<|sc (xl (N:=["_law_k","_law_kinds","_law_xs","_law_order_here"]) (src:=[none,some 4,some 3,some 1]) 5 nq.nd (oj NV) (Pr T.gu<|ac (cb a_ T.aW aI<|ac (bn (dv 1) di) an) an) rn<|aM T.m9 (tM T) hr<|ac (bn (dv 1)<|bn (bn (bn (dv 3) di)<|dv 0) di)<|ac (bn (dv 2)<|bd bu di<|dv 0) an)<|s1<|sr<|bX<|ac (bX<|ac (ct ft T.bh aS<|al 5 an)<|ac (aM T.Bx (Ek T) hr<|ac (bn (dv 3) di) an) an)<|ac (uG<|bn (cJ<|ac ds<|ac ds an)<|bd ba (bn (dv 3) di) di) an),?_};refine !{c0,10,rfl,by decide,λxs lx _ Mb hx wR=>?_};have s1:=Sub.new (c:=.lst<|xs.map D.int) wR;have hX:(S.set lx<|.lst<|xs.map D.int) lx=some (.lst<|xs.map D.int):=aa;generalize S.set lx (.lst<|xs.map D.int)=S1 at s1 hX⊢;have at_:∀k:Nat,k<10->∃x:Int,kD (xs.map D.int) ((k:Nat):Int)=some (.int x)/\0<=x:=λk hk=>tL (by lia) (by rw[zb];lia) hx;obtain⟨x0,e0,_⟩:=at_ 0 (by decide);obtain⟨x1,e1,_⟩:=at_ 1 (by decide);have ek:cs.map aD=(cs.map λc=>(c.1,D.str c.2)).map Fn:=by rw[zx];rfl
 refine !{(cs.map λc=>(c.1,D.str c.2)),by rw[ek],λpd UZ=>?_};have g1:=s1.trans<|Sub.new (c:=.bY<|fI<|cs.map λc=>(c.1,D.str c.2)) UZ;have Em:=(Sub.new (c:=.bY<|fI<|cs.map λc=>(c.1,D.str c.2)) UZ) _ _ hX;have d1:(S1.set pd<|.bY<|fI<|cs.map λc=>(c.1,D.str c.2)) pd=some (.bY<|fI<|cs.map λc=>(c.1,D.str c.2)):=aa;generalize S1.set pd (.bY<|fI<|cs.map λc=>(c.1,D.str c.2))=S2 at g1 Em d1⊢;refine !!!!{by rw[dy];lia,by rw[dy];lia,?_};rw[dy];refine jT (λd v=>∃(j:Nat)(p:Part),d=.int (0+(j:Nat))/\ps[j]?=some p/\Vg (Gk cs p.1) v) trivial (by show(dM 0 _).length<=_;rw[cq];lia) (λd hd Q hQ=>?_) λout DK p jh=>?_;obtain⟨j,hj⟩:=yg hd;have hj:(dM 0 ((ps.length:Nat):Int).toNat)[j]?=some d:=hj;obtain⟨hjn,rfl⟩:=cL hj;have hjc:j<ps.length:=by lia
 have ec:=ze hjc;generalize ps[j]=pt at ec;obtain⟨c,hc,xk⟩:=ho.pin pt<|zp ec;obtain⟨xj,exj,_⟩:=at_ (2+j) (by lia);have exj:kD (xs.map D.int) (2+(0+((j:Nat):Int)))=some (.int xj):=by rw[show(2:Int)+(0+((j:Nat):Int))=((2+j:Nat):Int) by lia];exact exj
 have ez:(0:Int)+((j:Nat):Int)=((j:Nat):Int):=Int.zero_add _;have h1:=vN (cs.map λc=>(c.1,D.str c.2)) pt.1;rw[show(cs.map λc=>(c.1,D.str c.2)).any (λq=>decide<|q.1=pt.1)=true from List.any_eq_true.mpr {_,zi.mpr ⟨c,hc,rfl⟩,zr xk}]at h1;cases q3:bP (fI<|cs.map λc=>(c.1,D.str c.2)) (.inr pt.1) with|none=>(rw[q3]at h1;cases h1)|some d=>obtain⟨p',xV,e1,rfl⟩:=nH _ _ q3;obtain⟨c',II,rfl⟩:=zi.mp xV;have e1:c'.1=pt.1:=e1;have P4:Gk cs pt.1=c'.2:=(by unfold Gk;rw[<-e1,(pE hg II).1];rfl);exact !!!!{p3 pt,by rw[ez];exact cE<|by rw[zh,ec];rfl,_,rfl,_,_,d1,q3,_,rfl,_,rfl,_,_,Em,exj,c'.2,xj,rfl,λv _ hv=>hQ v {j,pt,rfl,ec,by rw[P4];exact hv}}
 have hv:Paired (λk x=>Vg k x) (ps.map λp=>Gk cs p.1) out:=by have hlen:=yS DK;rw[show({dM 0 ((ps.length:Nat):Int).toNat,λ_=>True}:rm).xs=dM 0 ((ps.length:Nat):Int).toNat from rfl,cq]at hlen;refine pB (by rw[zb];lia) λj k v ek ev=>?_;obtain⟨d,hd,j',p',e1,e2,hv⟩:=dI DK ev;have hd:(dM 0 ((ps.length:Nat):Int).toNat)[j]?=some d:=hd;obtain⟨_,e3⟩:=cL hd;rw[e3]at e1;have e1:(0:Int)+((j:Nat):Int)=0+((j':Nat):Int):=D.int.inj e1;obtain rfl:j=j':=(by lia);rw[zh,e2]at ek;cases ek;exact hv
 have g2:=g1.trans<|Sub.new (c:=.lst out) jh;have hX3:=(Sub.new (c:=.lst out) jh) _ _ Em;have YN:(S2.set p<|.lst out) p=some (.lst out):=aa;generalize S2.set p (.lst out)=S3 at g2 hX3 YN⊢;refine !{_,_,rfl,.inl YN,_,rfl,_,_,hX3,e0,x0,rfl,λz _ hz=>{bR,bR,λp hp=>!{_,_,(Sub.new hp) _ _ hX3,e1,by decide,cH (zL _<|by decide) (zK _<|by decide) hp λd hd=>?_}}};obtain⟨sd,rfl,hsd⟩:=Gw hd;exact{bR,S,g2,q (out,z,sd) ⟨hv,hz,hsd⟩}
theorem LD(h:xs.length=10):(cn xs (some 2) none).length=8:=by unfold cn;rw[ym,List.length_drop,show HT.sIx xs.length 0 (some 2)=min 2 xs.length from HT.sIx_nat ..,show HT.sIx xs.length xs.length none=xs.length from rfl,h];rfl
noncomputable def Gx(kn:Kn)(z:Str)(ws:v0)(x:Int):D×Kn:=if (iw kn z).isSome=true then if decide (x%3=0)=true then (.tup [.str "take",.str z],uY kn z) else (.tup [.str "change",.str z,.tup ws],nF kn z ws) else (.tup [.str "put",.str z,.tup ws],nF kn z ws)
noncomputable def BZ(cs:ww)(kn:Kn)(c:Int):D×Kn:=Gx kn (Tq<|(Zp c 10).getD 0 0) (wsF cs<|cn (Zp c 10) (some 2) none)<|(Zp c 10).getD 1 0
inductive B0(ds:v0)(S:aq)(R:KD)(Z:KX):Prop where
 |mk (cs:ww)(lk:Addr)(kn:Kn)(c:Int)(h0:ds=[.tup<|cs.map aD,.ref lk,.int c])(h1:Gd cs)(h2:S lk=some (.bY<|ij kn))(h3:KI cs kn)(h4:∀d jl,(d,jl)=BZ cs kn c->GD KS cs kn d->KnD kn d jl->KI cs jl->R d (S.set lk<|.bY<|ij jl))
theorem B4:Ok P w base T.xC 3 B0:=by
 obtain⟨cs,lk,kn,c0,e,hg,hk,hI,q⟩:T.xC.F.bx hW;have XW:=hg.1;have hkl:=hI.len;refine{_,(sc (bQ (i:=3) hW.nd<|aM T.gx (ig T) hr<|al 2<|ac di an)<|sc (bQ (i:=4) hW.nd<|aM T.Bx (Ek T) hr<|ac (bn (dv 3) di) an)<|sc (bQ (i:=5) hW.nd<|aM T.sX (HW T) hr<|al 0<|ac (NS (dv 3) (o1 di) o0) an)<|sc (si (twd<|twand (bi Dz (dv 4)<|dv 1)<|tw1<|bi bf (bd ba (bn (dv 3) di) di) di) (sc (se<|mp1 (dv 1)<|dv 4)<|s1<|sr<|bX<|ac ds<|al 4 an) s0)<|sc (bQ (i:=6) hW.nd<|uG<|bn (cJ<|ac ds<|ac ds an)<|ct JL T.FE wU<|ac (be Dz (dv 4)<|dv 1) an)<|sc (sd hr.u (dv 1) (dv 4)<|dv 5)<|s1<|sr<|bX<|al 6<|al 4<|al 5 an),?_};refine !{c0,10,rfl,by decide,λxs lx hxe Mb _ wR=>?_};have s1:=Sub.new (c:=.lst<|xs.map D.int) wR;have hX:(S.set lx<|.lst<|xs.map D.int) lx=some (.lst<|xs.map D.int):=aa;generalize S.set lx (.lst<|xs.map D.int)=S1 at s1 hX⊢;have at_:∀k:Nat,k<10->kD (xs.map D.int) ((k:Nat):Int)=some (.int<|xs.getD k 0):=λk hk=>cE (by rw[zh,zw,ze<|show k<xs.length by lia];rfl);have e0:=at_ 0 (by decide);have e1:=at_ 1 (by decide);refine !{_,_,hX,e0,_,rfl,λz hze hz=>?_};refine !!!{_,hX,λp2 gD=>{cs,p2,cn xs (some 2) none,rfl,hg,by rw[iq];exact aa,by rw[LD Mb];lia,λws hwe hw=>?_}};have s2:=s1.trans<|Sub.new (c:=.lst<|cn (xs.map D.int) (some 2) none) gD;have Em:=(Sub.new (c:=.lst<|cn (xs.map D.int) (some 2) none) gD) _ _ hX;generalize S1.set p2 (.lst<|cn (xs.map D.int) (some 2) none)=S2 at s2 Em⊢;have dk:=s2 _ _ hk;have isS:(bP (ij kn)<|.inr z).isSome=(iw kn z).isSome:=by rw[tQ];cases iw kn z<;>rfl
 have hl:(ij kn).length<sizeLine:=bg (by unfold ij;rw[zb];lia);have n2:=bR;have n3:=qO;have ed:Gx kn z ws (xs.getD 1 0)=BZ cs kn c0:=by unfold BZ;rw[<-hxe,<-hze,<-hwe]
 have fin:∀{d:D}{jl:Kn},(d,jl)=Gx kn z ws (xs.getD 1 0)->GD KS cs kn d->KnD kn d jl->KI cs jl->Fo (S2.set lk<|.bY<|ij jl) (R d):=λh0 h1 h2 h3=>{_,bF s2,q _ _ (h0.trans ed) h1 h2 h3};unfold Gx at fin;refine !!⟨.inr {ij kn,.inr z,dk,rfl,_,rfl,ck (λh=>?_) λh=>?_}⟩;have h:(bP (ij kn)<|.inr z).isSome=true:=h;have U0:(iw kn z).isSome=true:=isS ▸ h;obtain⟨vs,hvs⟩:=Option.isSome_iff_exists.mp U0;refine !{_,_,Em,e1,by decide,_,rfl,ck (λh3=>?_) λh3=>?_};refine !{lk,ij kn,rfl,dk,_,rfl,ij kn,.inr z,.tup vs,dk,rfl,by rw[tQ,hvs];rfl,?_};rw[Tu];exact !{n2,fin (by rw[if_pos U0,if_pos<|show decide (xs.getD 1 0%3=0)=true from h3]) (.inr<|.inr ⟨z,hz,U0,rfl⟩) (.inr ⟨z,U0,rfl,rfl⟩)<|hI.del z};refine{n2,λp hp=>!!⟨.inr {ij kn,.inr z,(Sub.new hp) _ _ dk,rfl,?_}⟩};rw[h];refine .inr !{_,_,aa,(show kD _ 1=some _ from rfl),S2,.new hp,?_};refine !!!{lk,ij kn,.inr z,rfl,dk,rfl,hl,?_};rw[KR];exact !!!{n3,fin (by rw[if_pos U0,if_neg<|by rw[show decide (xs.getD 1 0%3=0)=false from h3];exact zd]) (.inr<|.inl ⟨z,ws,hz,hw,U0,rfl⟩) (.inl {_,z,ws,.inr rfl,rfl,rfl})<|hI.put hz hw};have h:(bP (ij kn)<|.inr z).isSome=false:=h;have YR:iw kn z=none:=by cases e:iw kn z with|none=>rfl|some _=>rw[isS,e]at h;cases h
 refine aY {n2,λp hp=>!!⟨.inr {ij kn,.inr z,(Sub.new hp) _ _ dk,rfl,?_}⟩};rw[h];refine .inr !{_,_,aa,(show kD _ 0=some _ from rfl),S2,.new hp,?_};refine !!!{lk,ij kn,.inr z,rfl,dk,rfl,hl,?_};rw[KR];exact !!!{n3,fin (by rw[YR];rfl) (.inl ⟨z,ws,hz,hw,YR,rfl⟩) (.inl {_,z,ws,.inl rfl,rfl,rfl})<|hI.put hz hw}
inductive B6(ds:v0)(S:aq)(R:KD)(Z:KX):Prop where
 |mk (cs:ww)(lk:Addr)(kn:Kn)(h0:ds=[.ref lk])(h1:S lk=some (.bY<|ij kn))(h2:KI cs kn)(h3:∀ss p,ss.Perm (kn.map (·.1))->PyProof.Rows.sortedS ss=true->S p=none->R (.ref p) (S.set p<|.lst<|(ip kn ss).map ag))
theorem LF:Ok P w base T.D2 1 B6:=by
 obtain⟨cs,lk,kn,e,hk,hI,q⟩:T.D2.F.bx HJ;have hkl:=hI.len;refine{_,(s1<|sr<|xk (N:=["_law_key_here","_law_standing"]) (src:=[none,some 0]) (oj Ko) (il<|cb A_ T.g_ fB<|al 0 an) rn<|bX<|al 0<|ac (bn (dv 1)<|dv 0) an),?_};refine !{lk,ij kn,kn.map (·.1),rfl,hk,by unfold ij;rw[zx,zx];rfl,by unfold ij;rw[zb];lia,λss hp hs p jh=>?_};have hlen:ss.length<=60:=by rw[hp.length_eq,zb];exact hkl
 refine{_,aa,?_};refine comp_map (λd=>match d with|.str z=>.tup [.str z,uq kn z]|_=>.av) aa (by show(ss.map D.str).length<=1000;rw[zb];lia) (λd hd Q hQ=>?_) λp2 gD=>?_;obtain⟨z,hz,rfl⟩:=zi.mp hd;obtain⟨ws,EA⟩:=mh<|hp.mem_iff.mp hz;have hQ:Q (.tup [.str z,uq kn z]) (S.set p<|.lst<|ss.map D.str):=hQ;have e1:bP (ij kn) (.inr z)=some (uq kn z):=by rw[tQ];unfold uq;rw[EA];rfl
 exact !!!{ij kn,_,(Sub.new jh) _ _ hk,e1,bR,hQ};have em:(ss.map D.str).map (λd=>match d with|.str z=>D.tup [.str z,uq kn z]|_=>.av)=(ip kn ss).map ag:=by rw[wk hp,zx];rfl
 rw[show({ss.map D.str,λS=>vI S (.ref p)<|ss.map D.str}:rm).xs=ss.map D.str from rfl,em];exact{_,bF<|.new jh,q ss p2 hp hs<|bW (.new jh) gD}
structure X1(t:dY)(ds:v0)(S:aq)(R:KD)(Z:KX):Prop where
 of:P6 t ds S R Z
noncomputable def Fs(lk lm:Addr)(kn:Kn)(ce:TY):List (Addr×Ce):=(lk,.bY<|ij kn)::(lm,.lst<|ce.map λx=>D.ref x.1)::ce.map XX
structure Bt(t:dY)(S0:aq)(a lk lm:Addr)(cs:ww)(kn:Kn)(ce:TY)(F:im)(dl:v0)(rs:lh)(S:aq):Prop where
 st:St t S0 a (Fs lk lm kn ce) F cs dl rs S
 ki:KI cs kn
 ri:RI rs dl.length kn
 hi:HI rs cs dl.length (ce.map Prod.snd)
 le:dl.length<=89
noncomputable def B7:List Int->List Int|[]=>[]|c::_=>if decide (c%8=5)=true then (List.range (20+c/8%40).toNat).map λ(k:Nat)=>c/8+7919*(0+(k:Int)) else[]
noncomputable def B8(cs:ww)(zs:rp):Kn:=zs.foldl (λkn c=>(BZ cs kn c).2) []
theorem Ik:B8 cs (zs++[c])=(BZ cs (B8 cs zs) c).2:=by unfold B8;rw[List.foldl_append];rfl
inductive Bv(S:aq)(cs:ww)(l a lk lm:Addr)(zs:rp)(aG:SD)(S':aq):Prop where
 |mk (lx:Addr)(ys:rp)(o6:wn)(h0:aG=[some<|.tup<|cs.map aD,some<|.ref l,some<|.ref a,some<|.ref lk,some<|.ref lm,some<|.ref lx,o6])(h1:Sub S S')(h2:S' lx=some (.lst<|ys.map D.int))(h3:ys.length<=59)(h4:ys=zs):Bv S cs l a lk lm zs aG S'
inductive Bw(t:dY)(S:aq)(cs:ww)(l a lk lm lx lz:Addr)(zs:rp)(i:Nat)(aG:SD)(S':aq):Prop where
 |mk (kn:Kn)(ce:TY)(F:im)(dl:v0)(rs:lh)(o6:wn)(h0:aG=[some<|.tup<|cs.map aD,some<|.ref l,some<|.ref a,some<|.ref lk,some<|.ref lm,some<|.ref lx,o6])(h1:dl.length=i)(h2:St t S a ((lz,.lst<|zs.map D.int)::Fs lk lm kn ce) F cs dl rs S')(h3:KI cs kn)(h4:RI rs dl.length kn)(h5:HI rs cs dl.length<|ce.map Prod.snd)(h6:kn=B8 cs (zs.take i)):Bw t S cs l a lk lm lx lz zs i aG S'
inductive wz(t:dY)(ds:v0)(S:aq)(R:KD)(Z:KX):Prop where
 |mk (cs:ww)(l:Addr)(ms:rp)(h0:ds=[.tup<|cs.map aD,.ref l])(h1:Gd cs)(h2:S l=some (.lst<|ms.map D.int))(h3:ms.length<=30)(h4:∀S' a lk lm kn ce F dl rs,kn=B8 cs (B7 ms++ms)->Bt t S a lk lm cs kn ce F dl rs S'->R (.tup [.ref a,.ref lm,.ref lk]) S')
theorem B9:Ok P w base T.rF 8 (wz t):=by
 have nY:Ok P w base T.l8 7 (X1 t):=(FR T).Nx λds S R Z h=>h.of;obtain⟨cs,l,ms,e,hg,hl,h30,q⟩:T.rF.F.bx cP;refine{_,(sc (bQ (i:=2) cP.nd<|mk T.Ky (N3 T) (hr.mono<|by decide) T.Kx T.fQ.b d0<|al 0 an)<|sc (bQ (i:=3) cP.nd Wn)<|sc (bQ (i:=4) cP.nd<|cJ<|ac (cJ an) an)<|sc (bQ (i:=5) cP.nd<|cJ an)<|sc (Ba<|JS (il<|NS (dv 1) o0<|o1 di) (gn (i:=6) cP.nd)<|s1<|si (bi bf (bd ba (dv 6) di) di) (s1<|xl (N:=["_law_k","_law_cell"]) (src:=[none,some 6]) 5 cP.nd (oj Hz) (Pr T.gu<|ac (bd bu di<|bd ba (bd bH (dv 6) di) di) an) rn<|bd bu (bd bH (dv 1) di)<|bd pU di<|dv 0) s0)<|sc (Ba<|JS (il<|bd bu (dv 5)<|dv 1) (gn (i:=6) cP.nd)<|sc (se<|aM T.l8 nY hr<|al 2<|ac (aM T.xC (B4 T) hr<|al 0<|al 3<|al 6 an) an)<|s1<|se<|bm zR ya yb cK (dv 4)<|ac (aM T.D2 (LF T) hr<|al 3 an) an)<|s1<|sr<|bX<|al 2<|al 4<|al 3 an),?_};refine{_,rfl,λa ha=>{a,cs,rfl,hg,aa,λS1 F1 BF XF=>{rfl,?_}}};have acE:Zy S F1 S1:=λb c hb=>by have h2:b≠a:=gU hb ha;exact XF b c (λm=>h2<|zE.mp m)<|(ae h2).trans hb
 have st0:St t S a [] F1 cs [] [] S1:={BF,λ_ h=>(nomatch h),.nil,acE};refine λlk W_=>?_;have st1:=st0.new W_<|.bY [];generalize S1.set lk (.bY [])=SA at st1⊢;refine{uS,λq0 hq0=>{uT,λlm hlm=>?_}};have OY:=(st1.new hq0<|.lst []).new hlm<|.lst [.ref q0];generalize (SA.set q0<|.lst []).set lm (.lst [.ref q0])=SB at OY⊢;have OZ:St t S a (Fs lk lm [] [(q0,[])]) F1 cs [] [] SB:=OY.perm<|.cons _<|.swap _ _ _;refine{uS,λle hle=>?_};have sb0:=Sub.new (c:=.lst []) hle;have X2:(SB.set le<|.lst []) le=some (.lst []):=aa;have PN:=sb0 _ _<|OZ.BR.sub _ _ hl;generalize SB.set le (.lst [])=SC at sb0 X2 PN⊢;refine{Bv SC cs l a lk lm<|B7 ms,?_,?_};refine !!{_,PN,λp1 Ax=>{_,aa,?_}};have TF:=Sub.new (c:=.lst<|cn (ms.map D.int) none<|some 1) Ax;have OF:(SC.set p1<|.lst<|cn (ms.map D.int) none<|some 1) p1=some (.lst<|cn (ms.map D.int) none<|some 1):=aa;generalize SC.set p1 (.lst<|cn (ms.map D.int) none<|some 1)=SD at TF OF⊢;rw[iq]at OF⊢;have W7:cn ms none (some 1)=ms.take 1:=by unfold cn;rw[show HT.sIx ms.length ms.length (some 1)=min 1 ms.length from HT.sIx_nat ..,show HT.sIx ms.length 0 none=0 from rfl,List.drop_zero,Nat.sub_zero];cases ms with|nil=>rfl|cons x r=>rw[show min 1 (x::r).length=1 by rw[zQ];lia]
 rw[W7]at OF⊢;clear W7;refine{λi=>Bv SD cs l a lk lm<|B7<|ms.take i,{le,[],none,rfl,.refl _,TF _ _ X2,zV _,rfl},?_,?_,?_};rintro i aG S' ⟨_,_,_,_,sb,_⟩;exact sb _ _ OF;rintro i d aG S' hd ⟨lx,ys,o6,rfl,sb,hx,hy,ey⟩;have hd:((ms.take 1).map D.int)[i]?=some d:=hd;have hi:=(zf.mp hd).1;rw[zb,ym]at hi;obtain rfl:i=0:=by lia
 obtain⟨c,r,rfl⟩:∃c r,ms=c::r:=by cases ms with|nil=>simp at hi|cons c r=>exact⟨c,r,rfl⟩
 cases hd;refine !{by decide,_,rfl,ck (λh5=>?_) λh5=>{lx,ys,_,rfl,sb,hx,hy,by rw[ey];exact(if_neg<|by rw[show decide (c%8=5)=false from h5];exact zd).symm}};have b0:0<=c/8%40:=zL _ (by decide);have b1:c/8%40<40:=zK _ (by decide);refine{_,rfl,{by decide,by trivial},by decide,_,rfl,by lia,by lia,?_};refine comp_map (λd=>match d with|.int k=>.int (c/8+7919*k)|_=>.av) trivial (by show(dM 0 _).length<=_;rw[cq];lia) (λd hd Q hQ=>?_) λp jh=>?_;obtain⟨j,hj⟩:=yg hd;obtain⟨_,rfl⟩:=cL hj;exact{_,rfl,{by decide,by trivial},_,rfl,.inl<|by decide,hQ};have ez:(dM 0 (20+c/8%40).toNat).map (λd=>match d with|.int k=>D.int (c/8+7919*k)|_=>.av)=((List.range (20+c/8%40).toNat).map λ(k:Nat)=>c/8+7919*(0+(k:Int))).map D.int:=by unfold dM;rw[zx,zx];rfl
 have em:B7 ((c::r).take 1)=(List.range (20+c/8%40).toNat).map λ(k:Nat)=>c/8+7919*(0+(k:Int)):=if_pos h5;refine{p,B7<|(c::r).take 1,_,rfl,sb.trans<|.new jh,?_,?_,rfl};rw[em,<-ez];exact aa;rw[em,zb,yI];lia;rintro aG S' ⟨lx,ys,o6,rfl,sb,r1,r2,r3⟩;have r3:ys=B7 (ms.take ((ms.take 1).map D.int).length):=r3;refine fo {lx,ys,o6,rfl,TF.trans sb,r1,r2,r3.trans ?_};cases ms with|nil=>rfl|cons c r=>rfl
 rintro aG S2 ⟨lx,ys,o6,rfl,L7,hx,hy,ey⟩;have st4:=(OZ.sub sb0).sub L7;refine{λaG S'=>∃(kn:Kn)(ce:TY)(F:im)(dl:v0)(rs:lh)(o6:wn),aG=[some<|.tup<|cs.map aD,some<|.ref l,some<|.ref a,some<|.ref lk,some<|.ref lm,some<|.ref lx,o6]/\Bt t S a lk lm cs kn ce F dl rs S'/\kn=B8 cs (B7 ms++ms),?_,?_};refine !!{_,_,hx,L7 _ _ PN,sm<|by rw[zb,zb];lia,λlz hlz=>{_,aa,?_}};rw[<-zI];have Zc:(ys++ms).length<=89:=by rw[zD];lia
 rw[ey]at Zc⊢;generalize B7 ms++ms=zs at Zc⊢;have L6:St t S a ((lz,.lst<|zs.map D.int)::Fs lk lm [] [(q0,[])]) F1 cs [] [] (S2.set lz<|.lst<|zs.map D.int):=(st4.new hlz _).perm (List.perm_append_singleton _ _).symm;generalize S2.set lz (.lst<|zs.map D.int)=S3 at L6⊢;refine{Bw t S cs l a lk lm lx lz zs,?_,?_,?_,?_};refine{[],[(q0,[])],F1,[],[],_,rfl,rfl,L6,KI.nil cs,RI.nil,{rfl,λm rows e=>?_},rfl};cases m with|zero=>(cases e;exact{[],[],rfl,KI.nil cs,.refl _,rfl,λz=>rfl})|succ m=>simp at e
 rintro i aG S' ⟨_,_,_,_,_,_,_,_,st,_⟩;exact st.at 0 rfl;rintro i d aG S' hd ⟨kn,ce,F,dl,rs,o6,rfl,M6,st,hI,hR,hH,ek⟩;have hd:(zs.map D.int)[i]?=some d:=hd;have hi:=(zf.mp hd).1;rw[zb]at hi;rw[zh]at hd;obtain⟨c,ec,rfl⟩:=Option.map_eq_some_iff.mp hd;refine !!!!{cs,lk,kn,c,rfl,hg,st.at 1 rfl,hI,λde jl VP ZC P4 U1=>?_};have st6:St t S a ((lz,.lst<|zs.map D.int)::Fs lk lm jl ce) F cs dl rs _:=st.put 1 rfl<|.bY<|ij jl;generalize S'.set lk (.bY<|ij jl)=S6 at st6⊢;refine⟨(pJ st6.sh hg hI hR (by lia) ZC P4 λS7 F7 rs7 hS7 hK7 hR7 hold=>?_).of⟩;have st7:=st6.Ox hS7 hK7;have hM:=st7.at 2 rfl;have Cs:(ce.map λx=>D.ref x.1).length<sizeLine:=bg (by have:=hH.1;rw[zb]at this⊢;lia);refine{_,rfl,{rfl,_,hM},_,rfl,cs,lk,jl,rfl,st7.at 1 rfl,U1,λss p hp ho jh=>?_};refine{lm,_,_,rfl,rfl,(Sub.new jh) _ _ hM,Cs,?_};have st8:=(st7.new jh<|.lst<|(ip jl ss).map ag).put 2 rfl<|.lst<|(ce.map λx=>D.ref x.1)++[.ref p];refine{jl,ce++[(p,ip jl ss)],F7,dl++[de],rs7,_,rfl,by rw[zD,M6];rfl,?_,U1,by rw[zD];exact hR7,?_,by rw[List.take_add_one,ec];show _=B8 cs (zs.take i++[c]);rw[Ik,<-ek,<-VP]};unfold Fs;rw[zI,zI];exact st8;rw[zD,zI];exact hH.step hold U1 hR7 hp ho;rintro aG S' ⟨kn,ce,F,dl,rs,o6,rfl,M6,st,hI,hR,hH,ek⟩;have ek:kn=B8 cs (zs.take (zs.map D.int).length):=ek;rw[zb,yG]at ek;have M6:dl.length=(zs.map D.int).length:=M6;rw[zb]at M6;exact fo {kn,ce,F,dl,rs,o6,rfl,{st.less (yq.mp st.nd).2 λx hx=>zg _ hx,hI,hR,hH,by lia},ek};rintro aG S' ⟨kn,ce,F,dl,rs,o6,rfl,hb,ek⟩;exact !!!{qO,fo<|q _ _ _ _ _ _ _ _ _ ek hb}
theorem LG{cs:ww}{ps:wP}{g:qp}(h:Gp cs ps g){S:aq} : Ly S 3 (nQ g):=by
 have hs:PyData.strOk g.2.2=true:=by have:=h.side;unfold nR at this;rw[yK]at this;rcases this with q|q<;>rw[zy q]<;>decide +kernel
 refine Ly.tup λx hx=>?_;simp only[zm,zM,or_false]at hx;rcases hx with rfl|rfl;refine Ly.tup λx hx=>?_;simp only[zm,zM,or_false]at hx;rcases hx with rfl|rfl;refine Ly.tup λx hx=>?_;obtain⟨i,ei⟩:=yg hx;obtain⟨k,_,hv⟩:=dI h.pv ei;exact Ly.plain hv.2;exact(Ly.str (gO _ h.key).2.2).le (by decide);exact(Ly.str hs).le<|by decide
theorem X3{S:aq}{ds:v0}{z:Str}{R:KD}(h:Ly S 3<|.tup ds)(hz:PyData.strOk z=true)(q:R (.bl false) S):Iz false (.tup ds) (.str z) S R:=by obtain⟨p,a,b,c⟩:=h;simp only[Dp]at a;obtain⟨ps,rfl,k⟩:=a;refine{.tuple ps,.str z,by simp only[Dl,Dp];exact⟨ps,rfl,k⟩,by simp only[Dl,Dp],b,by simp only[PyData.canLay0];exact hz,.inl<|by lia,?_};rw[if_neg zd,show PyData.eqv (.tuple ps) (.str z)=false by simp only[PyData.eqv]];exact q
theorem Gy{S:aq}{σ:SD}{ds:v0}{z:Str}{R:KD}{Z:KX}(h:Ly S 3<|.tup ds)(hz:PyData.strOk z=true)(q:R (.bl false) S):dC (.str z) σ S (λy S2=>Iz false (.tup ds) y S2 R) Z:=X3 h hz q
set_option genInjectivity true in
set_option genSizeOfSpec true in
inductive Sd where
 |s
 |e
 |g (g:qp)
noncomputable def Me:Sd->D|.s=>.str "start"|.e=>.str "end"|.g g=>nQ g
noncomputable def mz(cs:ww)(ps:wP)(wy:Str)(A:wS):Sd->Nat|.s=>0|.e=>A.length|.g g=>A.countP<|gP cs ps wy g
def kB(cs:ww)(ps:wP):Sd->Prop|.g g=>Gp cs ps g|_=>True
theorem eN:∀s,mz cs ps wy A s<=A.length|.s=>zV _|.e=>zq _|.g _=>List.countP_le_length
structure Wk where
 (w a:Addr)
 ps:List Part
 wy:Str
 d:D
 n:Nat
 (f h:Sd)
noncomputable def jj(C:Addr)(q:Wk):Ce:=.ins C [("shelf",.ref q.a),("order",cY q.ps q.wy),("sieve",q.d),("size",.int (q.n:Nat)),("fore",Me q.f),("hinder",Me q.h)]
noncomputable def Ay(cs:ww)(ps:wP)(rows:wS)(s:Sd):Sd×Sd:=match rows[0]?,rows[rows.length-1]? with|some r0,some r1=>(.g<|Ij cs ps "ahead" r0,.g<|Ij cs ps "behind" r1)|_,_=>(s,s)
noncomputable def Ae(cs:ww)(ps:wP)(wy:Str)(A:wS)(s:Sd)(n:Nat):Nat×Nat:=(mz cs ps wy A s,CC A (mz cs ps wy A s) n)
noncomputable def Az(cs:ww)(ps:wP)(wy:Str)(A:wS)(s:Sd)(n:Nat):Nat×Nat:=(mz cs ps wy A s-n,mz cs ps wy A s)
inductive lI(ds:v0)(S:aq)(R:KD)(Z:KX):Prop where
 |mk (cs:ww)(ps:wP)(wy:Str)(p:Addr)(rows:wS)(b c:Nat)(s:Sd)(h0:ds=[.tup<|cs.map aD,cY ps wy,z_ p b c,Me s])(h1:Gd cs)(h2:Pin cs ps)(h3:ps.length<=8)(h4:S p=some (.lst<|rows.map ag))(h5:∀r∈rows,Wg cs r.2)(h6:R (.tup [Me (Ay cs ps rows s).1,Me (Ay cs ps rows s).2]) S)
theorem ub:Ok P w base T.jO 5 lI:=by obtain⟨cs,ps,wy,p,rows,b,c,s,e,hg,hp,h8,hS,hw,q⟩:T.jO.F.bx jQ;refine{_,(sc (bQ (i:=4) jQ.nd<|aM T.xA (EI T) hr<|al 0<|al 1<|al 2 an)<|s1<|sr<|RX (bi kF (dv 4) dn) (bX<|al 3<|al 3 an)<|dv 4),?_};refine !!!{cs,ps,wy,p,rows,b,c,rfl,hg,hp,h8,hS,hw,λz=>?_,λr0 r1 q0 q1=>?_};subst z;exact !!⟨ee !!{bR,fo q}⟩;unfold Ay at q;rw[q0,q1]at q;exact !!⟨aY !⟨fo q⟩⟩
inductive qt(t:dY)(ds:v0)(S:aq)(R:KD)(Z:KX):Prop where
 |mk (k a:Addr)(cs:ww)(ps:wP)(wy:Str)(d:D)(n:Nat)(F:im)(dl:v0)(rs:lh)(h0:ds=[.ref k,.ref a,cY ps wy,d,.int (n:Nat)])(h1:Gd cs)(h2:Og cs ps wy)(h3:Sq cs d)(h4:1<=n)(h5:n<=1000)(h6:bE t.ao S a F cs dl rs)(h7:S k=some (.ins t.ax []))(h8:R .av<|S.set k<|jj t.ax {k,a,ps,wy,d,n,.s,.s})
theorem B_:oJ P w mg base T.eQ 7 (qt t):=by obtain⟨k,a,cs,ps,wy,d,n,F,dl,rs,e,hg,ho,hd,h1,h2,hS,hk,q⟩:T.eQ.F.bx pe;obtain⟨ld,lr,ra,h,_⟩:=id hS;refine{_,(sc (se<|aM T.eU (fV T) hr<|ac (eR (dv 1) T.aj T.aB (aL T) hr)<|al 2 an)<|sc (se<|aM T.eV (fW T) hr<|ac (eR (dv 1) T.aj T.aB (aL T) hr)<|al 3 an)<|sc (se<|aM T.iL (lE T) hr<|al 4 an)<|sc (sf T.aw T.eP (dv 0)<|dv 1)<|sc (sf T.aw T.cz (dv 0)<|dv 2)<|sc (sf T.aw T.k8 (dv 0)<|dv 3)<|sc (sf T.aw T.iE (dv 0)<|dv 4)<|sc (sf T.aw T.cU (dv 0)<|dg (v:=.str "start") T.g8 {_,rfl} λ_=>cA _)<|s1<|sf T.aw T.bT (dv 0)<|dg (v:=.str "start") T.g8 {_,rfl} λ_=>cA _),?_};refine !{a,_,rfl,h.ins,rfl,a,F,cs,dl,rs,rfl,hS,_,rfl,cs,ps,wy,rfl,hg,ho.tx,λ_=>?_,λz=>tf ho.ok z};refine !{a,_,rfl,h.ins,rfl,a,F,cs,dl,rs,rfl,hS,_,rfl,cs,d,rfl,hg,hd,?_};refine !!{by lia,by lia,?_};refine !!{k,_,rfl,hk,(show 0<1000 by decide),?_};refine !!{k,_,rfl,aa,(show 1<1000 by decide),?_};refine !!{k,_,rfl,aa,(show 2<1000 by decide),?_};refine !!{k,_,rfl,aa,(show 3<1000 by decide),?_};refine !{k,_,rfl,aa,(show 4<1000 by decide),?_};refine !{k,_,rfl,aa,(show 5<1000 by decide),?_};rw[aQ,aQ,aQ,aQ,aQ];exact fo q
inductive qu(t:dY)(ds:v0)(S:aq)(R:KD)(Z:KX):Prop where
 |mk (q:Wk)(l:Addr)(s:Sd)(A:wS)(cs:ww)(F:im)(dl:v0)(rs:lh)(h0:ds=[.ref q.w,.ref l,Me s])(h1:S q.w=some (jj t.ax q))(h2:Gd cs)(h3:Og cs q.ps q.wy)(h4:bE t.ao S q.a F cs dl rs)(h5:S l=some (.lst<|A.map ag))(h6:An cs q.ps q.wy A)(h7:kB cs q.ps s)(h8:R (.int (mz cs q.ps q.wy A s:Nat)) S)
theorem nZ:oJ P w mg base T.bI 6 (qu t):=by obtain⟨k,l,s,A,cs,F,dl,rs,e,hk,hg,ho,hS,hl,hA,hs,q⟩:T.bI.F.bx ma;obtain⟨ld,lr,ra,h,_⟩:=id hS;refine{_,(sc (si (bi bf (dv 2)<|dg (v:=.str "start") T.g8 {_,rfl} λ_=>cA _) (s1<|sr di) s0)<|sc (si (bi bf (dv 2)<|dg (v:=.str "end") T.xq {_,rfl} λ_=>cA _) (s1<|sr<|cb a_ T.aW aI<|al 1 an) s0)<|s1<|sr<|aM T.eW (fZ T) hr<|ac (eR (fl T.aw T.eP<|dv 0) T.aj T.aB (aL T) hr)<|ac (fl T.aw T.cz<|dv 0)<|al 1<|al 2 an),?_};cases s with|s=>exact (!!⟨mR<|fo q⟩)|e=>refine !!⟨cu !!⟨mR !!⟨.inl {_,hl,?_}⟩⟩⟩;rw[zb];exact fo q|g g=>have X4:=LG hs (S:=S);exact{_,rfl,Gy X4 (by trivial) !⟨aY !⟨Gy X4 (by trivial) !⟨aY !{k.w,_,_,rfl,hk,rfl,k.a,_,rfl,h.ins,rfl,k.a,F,cs,dl,rs,rfl,hS,_,rfl,k.w,_,_,rfl,hk,rfl,_,rfl,_,rfl,cs,k.ps,k.wy,A,l,g,rfl,hg,ho.pin,ho.len,hl,hA,hs,fo q}⟩⟩⟩}
inductive n5(t:dY)(ds:v0)(S:aq)(R:KD)(Z:KX):Prop where
 |mk (q:Wk)(p:Addr)(b c:Nat)(s:Sd)(rows:wS)(cs:ww)(F:im)(dl:v0)(rs:lh)(h0:ds=[.ref q.w,z_ p b c,Me s])(h1:S q.w=some (jj t.ax q))(h2:Gd cs)(h3:Og cs q.ps q.wy)(h4:bE t.ao S q.a F cs dl rs)(h5:S p=some (.lst<|rows.map ag))(h6:∀r∈rows,Wg cs r.2)(h7:R .av<|S.set q.w<|jj t.ax {q.w,q.a,q.ps,q.wy,q.d,q.n,(Ay cs q.ps rows s).1,(Ay cs q.ps rows s).2})
theorem wA:oJ P w mg base T.cF 6 (n5 t):=by obtain⟨k,p,b,c,s,rows,cs,F,dl,rs,e,hk,hg,ho,hS,hp,hw,q⟩:T.cF.F.bx eX;obtain⟨ld,lr,ra,h,_⟩:=id hS;refine{_,(sc (bQ (i:=3) eX.nd<|aM T.jO (ub T) hr<|ac (eR (fl T.aw T.eP<|dv 0) T.aj T.aB (aL T) hr)<|ac (fl T.aw T.cz<|dv 0)<|al 1<|al 2 an)<|sc (sf T.aw T.cU (dv 0)<|bn (dv 3) di)<|s1<|sf T.aw T.bT (dv 0)<|bn (dv 3) di),?_};refine !{k.w,_,_,rfl,hk,rfl,k.a,_,rfl,h.ins,rfl,k.a,F,cs,dl,rs,rfl,hS,_,rfl,k.w,_,_,rfl,hk,rfl,_,rfl,_,rfl,cs,k.ps,k.wy,p,rows,b,c,s,rfl,hg,ho.pin,ho.len,hp,hw,?_};refine !!!{k.w,_,rfl,hk,(show 6<1000 by decide),?_};refine !!!{k.w,_,rfl,aa,(show 6<1000 by decide),?_};rw[aQ];exact fo q
inductive lJ(t:dY)(ds:v0)(S:aq)(R:KD)(Z:KX):Prop where
 |mk (q:Wk)(cs:ww)(rows:wS)(h0:ds=[.ref q.w])(h1:S q.w=some (jj t.ax q))(h2:Qs t S q.a cs q.ps q.wy q.d .av rows)(h3:∀(A:wS)(p:Addr),BW cs q.ps q.wy 7 q.d rows A->S p=none->R (.ref p) (S.set p<|.lst<|A.map ag))
theorem mq(B:Bm mg base):oJ P w mg base T.cy 13 (lJ t):=by obtain⟨k,cs,rows,e,hk,hq,q⟩:T.cy.F.bx l_;refine{_,(s1<|sr<|aM T.bU (cI T B) hr<|ac (fl T.aw T.eP<|dv 0)<|ac (fl T.aw T.cz<|dv 0)<|ac (fl T.aw T.k8<|dv 0)<|ac dn an),?_};exact !{k.w,_,_,rfl,hk,rfl,_,rfl,k.w,_,_,rfl,hk,rfl,_,rfl,k.w,_,_,rfl,hk,rfl,k.a,cs,k.ps,k.wy,k.d,.av,rows,rfl,hq.g,hq.o,hq.s,hq.v,hq.t,λA l pm pw hl=>fo<|q A l (Ac hq.v.rg hq.k pm pw) hl}
inductive j8(t:dY)(f:List (Str×Str)->List Part->Str->List Row->Sd->Nat->Nat×Nat)(ds:v0)(S:aq)(R:KD)(Z:KX):Prop where
 |mk (q:Wk)(s:Sd)(cs:ww)(rows:wS)(h0:ds=[.ref q.w,Me s])(h1:S q.w=some (jj t.ax q))(h2:Qs t S q.a cs q.ps q.wy q.d .av rows)(h3:kB cs q.ps s)(h4:∀(A:wS)(p:Addr)(b e:Nat),BW cs q.ps q.wy 7 q.d rows A->S p=none->f cs q.ps q.wy A s q.n=(b,e)->R (z_ p b<|A.length-e) ((S.set p<|.lst<|(seg A b e).map ag).set q.w<|jj t.ax {q.w,q.a,q.ps,q.wy,q.d,q.n,(Ay cs q.ps (seg A b e) s).1,(Ay cs q.ps (seg A b e) s).2}))
theorem qv(B:Bm mg base):oJ P w mg base T.fz 14 (j8 t Ae):=by obtain⟨k,s,cs,rows,e,hk,hq,hs,q⟩:T.fz.F.bx fg;obtain⟨F,dl,rs,hS,_⟩:=hq.v.sh;refine{_,(sc (bQ (i:=2) fg.nd<|eR (dv 0) T.aw T.cy (mq T B) hr)<|sc (bQ (i:=3) fg.nd<|aM T.kr (nV T) hr<|al 2<|ac (oi (dv 0) T.aw T.bI (nZ T) hr<|al 2<|al 1 an)<|ac (fl T.aw T.iE<|dv 0) an)<|sc (se<|oi (dv 0) T.aw T.cF (wA T) hr<|al 3<|al 1 an)<|s1<|sr<|dv 3),?_};refine !{k.w,_,rfl,hk,rfl,k,cs,rows,rfl,hk,hq,λA l hA hl=>?_};have s1:=Sub.new (c:=.lst<|A.map ag) hl;have y4:(S.set l<|.lst<|A.map ag) l=some (.lst<|A.map ag):=aa;generalize S.set l (.lst<|A.map ag)=S1 at s1 y4⊢;have uj:=s1 _ _ hk;refine !!{k.w,_,rfl,uj,rfl,_,rfl,_,rfl,k,l,s,A,cs,F,dl,rs,rfl,uj,hq.g,hq.o,hS.sub s1,y4,hA.an,hs,_,rfl,k.w,_,_,rfl,uj,rfl,l,A,_,k.n,rfl,y4,eN s,λp hp=>?_};have Pt:=(Sub.new (c:=.lst<|(seg A (Ae cs k.ps k.wy A s k.n).1 (Ae cs k.ps k.wy A s k.n).2).map ag) hp) _ _ uj;exact !{k.w,_,rfl,Pt,rfl,_,rfl,_,rfl,k,p,_,_,s,seg A (Ae cs k.ps k.wy A s k.n).1 (Ae cs k.ps k.wy A s k.n).2,cs,F,dl,rs,rfl,Pt,hq.g,hq.o,(hS.sub s1).sub<|.new hp,aa,λr hr=>hA.an.rg.1 r<|gB hr,_,rfl,_,bF<|bF s1,q A p _ _ hA (bW s1 hp) rfl}
theorem lK(B:Bm mg base):oJ P w mg base T.dS 14 (j8 t Az):=by obtain⟨k,s,cs,rows,e,hk,hq,hs,q⟩:T.dS.F.bx dU;obtain⟨F,dl,rs,hS,_⟩:=hq.v.sh;refine{_,(sc (bQ (i:=2) dU.nd<|eR (dv 0) T.aw T.cy (mq T B) hr)<|sc (bQ (i:=3) dU.nd<|aM T.iJ (lH T) hr<|al 2<|ac (oi (dv 0) T.aw T.bI (nZ T) hr<|al 2<|al 1 an)<|ac (fl T.aw T.iE<|dv 0) an)<|sc (se<|oi (dv 0) T.aw T.cF (wA T) hr<|al 3<|al 1 an)<|s1<|sr<|dv 3),?_};refine !{k.w,_,rfl,hk,rfl,k,cs,rows,rfl,hk,hq,λA l hA hl=>?_};have s1:=Sub.new (c:=.lst<|A.map ag) hl;have y4:(S.set l<|.lst<|A.map ag) l=some (.lst<|A.map ag):=aa;generalize S.set l (.lst<|A.map ag)=S1 at s1 y4⊢;have uj:=s1 _ _ hk;refine !!{k.w,_,rfl,uj,rfl,_,rfl,_,rfl,k,l,s,A,cs,F,dl,rs,rfl,uj,hq.g,hq.o,hS.sub s1,y4,hA.an,hs,_,rfl,k.w,_,_,rfl,uj,rfl,l,A,_,k.n,rfl,y4,eN s,λp hp=>?_};have Pt:=(Sub.new (c:=.lst<|(seg A (Az cs k.ps k.wy A s k.n).1 (Az cs k.ps k.wy A s k.n).2).map ag) hp) _ _ uj;exact !{k.w,_,rfl,Pt,rfl,_,rfl,_,rfl,k,p,_,_,s,seg A (Az cs k.ps k.wy A s k.n).1 (Az cs k.ps k.wy A s k.n).2,cs,F,dl,rs,rfl,Pt,hq.g,hq.o,(hS.sub s1).sub<|.new hp,aa,λr hr=>hA.an.rg.1 r<|gB hr,_,rfl,_,bF<|bF s1,q A p _ _ hA (bW s1 hp) rfl}
inductive ir(t:dY)(f:List (Str×Str)->List Part->Str->List Row->Sd->Nat->Nat×Nat)(g:Wk->Sd)(ds:v0)(S:aq)(R:KD)(Z:KX):Prop where
 |mk (q:Wk)(cs:ww)(rows:wS)(h0:ds=[.ref q.w])(h1:S q.w=some (jj t.ax q))(h2:Qs t S q.a cs q.ps q.wy q.d .av rows)(h3:kB cs q.ps<|g q)(h4:∀(A:wS)(p:Addr)(b e:Nat),BW cs q.ps q.wy 7 q.d rows A->S p=none->f cs q.ps q.wy A (g q) q.n=(b,e)->R (z_ p b<|A.length-e) ((S.set p<|.lst<|(seg A b e).map ag).set q.w<|jj t.ax {q.w,q.a,q.ps,q.wy,q.d,q.n,(Ay cs q.ps (seg A b e)<|g q).1,(Ay cs q.ps (seg A b e)<|g q).2}))
theorem T9(B:Bm mg base):oJ P w mg base T.xG 15 (ir t Ae Wk.h):=by obtain⟨k,cs,rows,e,hk,hq,hs,q⟩:T.xG.F.bx Ed;refine{_,(s1<|sr<|oi (dv 0) T.aw T.fz (qv T B) hr<|ac (fl T.aw T.bT<|dv 0) an),?_};exact !{k.w,_,rfl,hk,rfl,_,rfl,k.w,_,_,rfl,hk,rfl,k,k.h,cs,rows,rfl,hk,hq,hs,λA p b e hA hp he=>fo<|q A p b e hA hp he}
theorem LH(B:Bm mg base):oJ P w mg base T.oY 15 (ir t Az Wk.f):=by obtain⟨k,cs,rows,e,hk,hq,hs,q⟩:T.oY.F.bx xT;refine{_,(s1<|sr<|oi (dv 0) T.aw T.dS (lK T B) hr<|ac (fl T.aw T.cU<|dv 0) an),?_};exact !{k.w,_,rfl,hk,rfl,_,rfl,k.w,_,_,rfl,hk,rfl,k,k.f,cs,rows,rfl,hk,hq,hs,λA p b e hA hp he=>fo<|q A p b e hA hp he}
inductive n6(t:dY)(ds:v0)(S:aq)(R:KD)(Z:KX):Prop where
 |mk (q:Wk)(cs:ww)(rows:wS)(h0:ds=[.ref q.w])(h1:S q.w=some (jj t.ax q))(h2:Qs t S q.a cs q.ps q.wy q.d .av rows)(h3:kB cs q.ps q.f)(h4:kB cs q.ps q.h)(h5:∀(A:wS)(p:Addr),BW cs q.ps q.wy 7 q.d rows A->S p=none->R (.ref p) (S.set p<|.lst<|cn (A.map ag) (some ((mz cs q.ps q.wy A q.f:Nat):Int))<|some ((mz cs q.ps q.wy A q.h:Nat):Int)))
theorem wB(B:Bm mg base):oJ P w mg base T.iN 14 (n6 t):=by obtain⟨k,cs,rows,e,hk,hq,hf,hh,q⟩:T.iN.F.bx k_;obtain⟨F,dl,rs,hS,_⟩:=hq.v.sh;refine{_,(sc (bQ (i:=1) k_.nd<|eR (dv 0) T.aw T.cy (mq T B) hr)<|s1<|sr<|NS (dv 1) (o1<|oi (dv 0) T.aw T.bI (nZ T) hr<|al 1<|ac (fl T.aw T.cU<|dv 0) an)<|o1<|oi (dv 0) T.aw T.bI (nZ T) hr<|al 1<|ac (fl T.aw T.bT<|dv 0) an),?_};refine !{k.w,_,rfl,hk,rfl,k,cs,rows,rfl,hk,hq,λA l hA hl=>?_};have s1:=Sub.new (c:=.lst<|A.map ag) hl;have y4:(S.set l<|.lst<|A.map ag) l=some (.lst<|A.map ag):=aa;generalize S.set l (.lst<|A.map ag)=S1 at s1 y4⊢;have uj:=s1 _ _ hk;have BF:=hS.sub s1;exact !!{k.w,_,rfl,uj,rfl,_,rfl,_,rfl,k.w,_,_,rfl,uj,rfl,k,l,k.f,A,cs,F,dl,rs,rfl,uj,hq.g,hq.o,BF,y4,hA.an,hf,_,rfl,_,rfl,k.w,_,rfl,uj,rfl,_,rfl,_,rfl,k.w,_,_,rfl,uj,rfl,k,l,k.h,A,cs,F,dl,rs,rfl,uj,hq.g,hq.o,BF,y4,hA.an,hh,_,rfl,_,y4,λp hp=>{_,bF s1,q A p hA<|bW s1 hp}}
theorem Il(B:Bm mg base):oJ P w mg base T.l9 15 (ir t Ae λ_=>.s):=by obtain⟨k,cs,rows,e,hk,hq,hs,q⟩:T.l9.F.bx uR;refine{_,(s1<|sr<|oi (dv 0) T.aw T.fz (qv T B) hr<|ac (dg (v:=.str "start") T.g8 {_,rfl} λ_=>cA _) an),?_};exact !{k.w,_,rfl,hk,rfl,k,.s,cs,rows,rfl,hk,hq,hs,λA p b e hA hp he=>fo<|q A p b e hA hp he}
theorem LI(B:Bm mg base):oJ P w mg base T.oZ 15 (ir t Az λ_=>.e):=by obtain⟨k,cs,rows,e,hk,hq,hs,q⟩:T.oZ.F.bx xU;refine{_,(s1<|sr<|oi (dv 0) T.aw T.dS (lK T B) hr<|ac (dg (v:=.str "end") T.xq {_,rfl} λ_=>cA _) an),?_};exact !{k.w,_,rfl,hk,rfl,k,.e,cs,rows,rfl,hk,hq,hs,λA p b e hA hp he=>fo<|q A p b e hA hp he}
noncomputable def tW(z:Str):Str:=if z ="up" then "down" else "up"
noncomputable def tE(z:Str):Str:=if z ="first" then "last" else "first"
noncomputable def tZ(z:Str):Str:=if z ="behind" then "ahead" else "behind"
noncomputable def tP(p:Part):Part:=(p.1,tW p.2.1,tE p.2.2)
noncomputable def tG(g:qp):qp:=(g.1,g.2.1,tZ g.2.2)
noncomputable def ur:Sd->Sd|.s=>.e|.e=>.s|.g g=>.g<|tG g
theorem LJ(z:Str):decide (tW z ="up")=!decide (z ="up"):=by unfold tW;by_cases h:z ="up";rw[if_pos h,zr h];decide;rw[if_neg h,zo h];decide
theorem X5(z:Str):decide (tE z ="first")=!decide (z ="first"):=by unfold tE;by_cases h:z ="first";rw[if_pos h,zr h];decide;rw[if_neg h,zo h];decide
theorem X6(z:Str):decide (tZ z ="behind")=!decide (z ="behind"):=by unfold tZ;by_cases h:z ="behind";rw[if_pos h,zr h];decide;rw[if_neg h,zo h];decide
theorem wC(z:Str):mi (tW z)=true/\x8 (tE z)=true/\nR (tZ z)=true:=by refine{?_,?_,?_};unfold tW;split<;>decide;unfold tE;split<;>decide;unfold tZ;split<;>decide
theorem Qf(h:mi z=true):tW (tW z)=z:=by rcases rJ h with rfl|rfl<;>decide
theorem X7(h:x8 z=true):tE (tE z)=z:=by unfold x8 at h;rw[yK]at h;rcases h with h|h<;>rw[zy h]<;>decide
theorem X8(h:nR z=true):tZ (tZ z)=z:=by unfold nR at h;rw[yK]at h;rcases h with h|h<;>rw[zy h]<;>decide
theorem OG:(x == !u)=!(x==u):=by cases x<;>cases u<;>rfl
theorem LK(n m w e:Str)(x y:D):bL (n,tW w,tE e) x y=!bL (m,w,e) x y:=by unfold bL;rw[LJ,X5,OG,OG];split<;>rfl
theorem Qg{wy:Str} : ∀ps:wP,cQ cs (tW wy) (ps.map tP) a b=!cQ cs wy ps a b|[]=>by show(_==decide (tW wy ="up"))=!(_==_);rw[LJ,OG]|p::ps=>by show(if qP (ak cs a.2 p.1) (ak cs b.2 p.1)=true then cQ cs (tW wy) (ps.map tP) a b else bL (tP p) (ak cs a.2 p.1) (ak cs b.2 p.1))=!(if _=true then _ else _);rw[Qg ps,show bL (tP p) (ak cs a.2 p.1) (ak cs b.2 p.1)=!bL p (ak cs a.2 p.1) (ak cs b.2 p.1) from LK ..];split<;>rfl
theorem LL:(if x=true then (0:Int) else if (!y)=true then -1 else 1) = -(if x=true then (0:Int) else if y=true then -1 else 1):=by cases x<;>cases y<;>rfl
theorem acI(w e:Str)(x y:D):cV (tW w) (tE e) x y = -cV w e x y:=by unfold cV;rw[LK "" "" w e,LL]
theorem acJ(w a b:Str):cV (tW w) "last" (.str a) (.str b) = -cV w "last" (.str a) (.str b):=by unfold cV;rw[show bL ("",tW w,"last") (.str a) (.str b)=!bL ("",w,"last") (.str a) (.str b) from ?_,LL];show(_==decide (tW w ="up"))=!(_==_);rw[LJ,OG]
theorem Qh:∀(ps:wP) (xs ys:v0),xs.length=ps.length->ys.length=ps.length->dG (u0 (ps.map tP)<|tW wy) (xs++[.str k]) (ys++[.str l]) = -dG (u0 ps wy) (xs++[.str k]) (ys++[.str l])|[],[],[],_,_=>(by show(if cV (tW wy) "last" (.str k) (.str l)=0 then (0:Int) else cV (tW wy) "last" (.str k) (.str l)) = -(if cV wy "last" (.str k) (.str l)=0 then (0:Int) else cV wy "last" (.str k) (.str l));rw[acJ];split<;>split<;>omega)|p::ps,x::xs,y::ys,h1,h2=>by have ih:=Qh (wy:=wy) (k:=k) (l:=l) ps xs ys (yX h1)<|yX h2;show(if cV (tW p.2.1) (tE p.2.2) x y=0 then dG (u0 (ps.map tP)<|tW wy) (xs++[.str k]) (ys++[.str l]) else cV (tW p.2.1) (tE p.2.2) x y) = -(if cV p.2.1 p.2.2 x y=0 then dG (u0 ps wy) (xs++[.str k]) (ys++[.str l]) else cV p.2.1 p.2.2 x y);rw[acI,ih];split<;>split<;>omega
theorem LM(ps:wP)(f:Str->α):(ps.map tP).map (λp=>f p.1)=ps.map λp=>f p.1:=by rw[zx];rfl
theorem acK(h:Gp cs ps g)(r:Row):gP cs (ps.map tP) (tW wy) (tG g) r=!gP cs ps wy g r:=by
 have e:Gm cs (ps.map tP) r=Gm cs ps r:=by unfold Gm;rw[LM ps<|ak cs r.2]
 unfold gP UY;rw[e,show dG (u0 (ps.map tP)<|tW wy) (Gm cs ps r) (Lv<|tG g) = -dG (u0 ps wy) (Gm cs ps r) (Lv g) from Qh ps _ _ (zb _) h.len,show decide ((tG g).2.2 ="behind")=!decide (g.2.2 ="behind") from X6 _];generalize dG (u0 ps wy) (Gm cs ps r) (Lv g)=i;cases decide (g.2.2 ="behind");by_cases h1:i<0;rw[zr h1,zo<|show ¬-i<0 by omega,zo<|show ¬-i=0 by omega];rfl;rw[zo h1];by_cases h2:i=0;rw[zr h2,zo<|show ¬-i<0 by omega,zr<|show -i=0 by omega];rfl;rw[zo h2,zr<|show -i<0 by omega];rfl;by_cases h1:i<0;rw[zr h1,zo<|show ¬-i<0 by omega,zo<|show ¬-i=0 by omega];rfl;rw[zo h1];by_cases h2:i=0;rw[zr h2,zo<|show ¬-i<0 by omega,zr<|show -i=0 by omega];rfl;rw[zo h2,zr<|show -i<0 by omega];rfl
theorem Qi(h:Gp cs ps g)(A:wS):A.reverse.countP (gP cs (ps.map tP) (tW wy)<|tG g)=A.length-A.countP (gP cs ps wy g):=by rw[List.countP_reverse,show gP cs (ps.map tP) (tW wy) (tG g)=λr=>!gP cs ps wy g r from funext (acK h)];induction A with|nil=>rfl|cons a A ih=>have:=List.countP_le_length (p:=gP cs ps wy g) (l:=A);rw[List.countP_cons,List.countP_cons,ih,zQ];cases gP cs ps wy g a;show _+1=_-(_+0);omega;show _+0=_-(_+1);omega
theorem Gz:∀{s:Sd},kB cs ps s->mz cs (ps.map tP) (tW wy) A.reverse (ur s)=A.length-mz cs ps wy A s|.s,_=>zP|.e,_=>(Nat.sub_self _).symm|.g _,h=>Qi h A
theorem Qj(hn:n<=A.length):∀{b:wT},Bg cs ps b->OB cs (ps.map tP) (tW wy) A.reverse (A.length-n) (b.map tG)=A.length-OB cs ps wy A n b|none,_=>rfl|some g,h=>Qi (h g rfl) A
theorem rL{α:Type}{A:List α}{b e:Nat}(hb:b<=A.length)(he:e<=A.length):seg A.reverse (A.length-e) (A.length-b)=(seg A b e).reverse:=by
 have l:∀{B:List α}{b e:Nat},e<=B.length->(seg B b e).length=e-b:=λh=>by unfold seg;rw[ym,List.length_drop];omega
 refine List.ext_getElem? λi=>?_;by_cases h:i<e-b;rw[Gq<|by omega,List.getElem?_reverse<|by omega,List.getElem?_reverse<|by rw[l he];exact h,l he,Gq<|by omega];congr 1;omega;rw[yn<|by rw[l<|by rw[zP];omega];omega,yn<|by rw[zP,l he];omega]
theorem X9(h:Bg cs ps b):wo cs (ps.map tP) (tW wy) A.reverse (b.map tG) n=(A.length-(u7 cs ps wy A b n).2,A.length-(u7 cs ps wy A b n).1):=by have e:=Qj (wy:=wy) (zV A.length) h;have l:=Ab (cs:=cs) (ps:=ps) (wy:=wy) (zV A.length) b;unfold wo u7 CC;rw[Nat.sub_zero]at e;rw[zP,e];exact Prod.ext (by show _-_-_=_-min _ _;omega) rfl
theorem X_(h:Bg cs ps b):u7 cs (ps.map tP) (tW wy) A.reverse (b.map tG) n=(A.length-(wo cs ps wy A b n).2,A.length-(wo cs ps wy A b n).1):=by have e:=Qj (wy:=wy) (zq A.length) h;have l:=Ab (cs:=cs) (ps:=ps) (wy:=wy) (zq A.length) b;unfold wo u7 CC;rw[Nat.sub_self]at e;rw[zP,e];exact Prod.ext rfl<|by show min _ _=_-(_-_);omega
theorem Ql(h:kB cs ps s):Az cs (ps.map tP) (tW wy) A.reverse (ur s) n=(A.length-(Ae cs ps wy A s n).2,A.length-(Ae cs ps wy A s n).1):=by have l:=eN (cs:=cs) (ps:=ps) (wy:=wy) (A:=A) s;unfold Az Ae CC;rw[Gz h];exact Prod.ext (by show _-_-_=_-min _ _;omega) rfl
theorem Qm(h:kB cs ps s):Ae cs (ps.map tP) (tW wy) A.reverse (ur s) n=(A.length-(Az cs ps wy A s n).2,A.length-(Az cs ps wy A s n).1):=by have l:=eN (cs:=cs) (ps:=ps) (wy:=wy) (A:=A) s;unfold Az Ae CC;rw[Gz h,zP];exact Prod.ext rfl<|by show min _ _=_-(_-_);omega
theorem Ya:Ay cs (ps.map tP) rows.reverse (ur s)=(ur (Ay cs ps rows s).2,ur (Ay cs ps rows s).1):=by
 have g:∀sd r,Ij cs (ps.map tP) sd r=Ij cs ps sd r:=λsd r=>by unfold Ij;rw[LM ps<|ak cs r.2]
 by_cases h:rows=[];subst h;rfl;have hl:=List.length_pos_iff.mpr h;obtain⟨a,ea⟩:∃a,rows[0]?=some a:={_,ze hl};obtain⟨b,eb⟩:∃b,rows[rows.length-1]?=some b:={_,ze<|by omega};have e1:rows.reverse[0]?=some b:=by rw[List.getElem?_reverse hl];exact eb
 have e2:rows.reverse[rows.reverse.length-1]?=some a:=by rw[List.getElem?_reverse<|by rw[zP];omega,zP,show rows.length-1-(rows.length-1)=0 by omega];exact ea
 unfold Ay;rw[e1,e2,ea,eb];show(Sd.g<|Ij cs (ps.map tP) "ahead" b,Sd.g<|Ij cs (ps.map tP) "behind" a)=(Sd.g<|tG<|Ij cs ps "behind" b,Sd.g<|tG<|Ij cs ps "ahead" a);rw[g,g];rfl
theorem Gp.tu(h:Gp cs ps g):Gp cs (ps.map tP) (tG g):={by rw[LM ps<|Gk cs];exact h.pv,h.key,(wC _).2.2}
theorem Bg.tu(h:Bg cs ps b):Bg cs (ps.map tP) (b.map tG):=λg e=>by obtain⟨g',e',rfl⟩:=Option.map_eq_some_iff.mp e;exact(h g' e').tu
theorem kB.tu:∀{s:Sd},kB cs ps s->kB cs (ps.map tP) (ur s)|.s,_=>trivial|.e,_=>trivial|.g _,h=>Gp.tu h
theorem Og.two(h:Og cs ps wy):∀p∈ps,x8 p.2.2=true:=by have:=h.ok;unfold x9 at this;rw[zH,zH,zX]at this;intro p hp;have:=this.2.1 p hp;unfold fq at this;rw[zH,zH]at this;exact this.2.2
theorem Og.tu(h:Og cs ps wy):Og cs (ps.map tP) (tW wy):=by refine{λq hq=>?_,λq hq=>?_,(wC _).1,?_,λq hq=>?_};obtain⟨p,hp,rfl⟩:=zi.mp hq;exact h.pin p hp;obtain⟨p,hp,rfl⟩:=zi.mp hq;exact(wC _).1;have o:=h.ok;unfold x9 at o⊢;rw[zH,zH,zH,zX]at o⊢;refine{by rw[zb];exact o.1,λq hq=>?_,?_,(wC _).1};obtain⟨p,hp,rfl⟩:=zi.mp hq;have:=o.2.1 p hp;unfold fq at this⊢;rw[zH,zH]at this⊢;exact{this.1,(wC _).1,(wC _).2.1};rw[zx];exact o.2.2.1;obtain⟨p,hp,rfl⟩:=zi.mp hq;refine{(h.tx p hp).1,?_,?_};show(tW p.2.1).cps.size<=1000;unfold tW;split<;>decide;show(tE p.2.2).cps.size<=1000;unfold tE;split<;>decide
theorem Og.tt(h:Og cs ps wy):(ps.map tP).map tP=ps/\tW (tW wy)=wy:=by refine{?_,Qf h.way};rw[zx];refine(zU λp hp=>?_).trans<|List.map_id _;show(p.1,tW<|tW p.2.1,tE<|tE p.2.2)=p;rw[Qf<|h.TH p hp,X7<|h.two p hp]
theorem GA:∀{s:Sd},kB cs ps s->ur (ur s)=s|.s,_=>rfl|.e,_=>rfl|.g g,h=>by show Sd.g (g.1,g.2.1,tZ<|tZ g.2.2)=.g g;rw[X8<|Gp.side h]
theorem BW.tu(hg:Gd cs)(ho:Og cs ps wy)(h:BW cs ps wy n d rows A):BW cs (ps.map tP) (tW wy) n d rows A.reverse:=by refine{{h.an.rg.perm<|List.reverse_perm A,λr hr=>h.an.ky r<|List.mem_reverse.mp hr,List.pairwise_reverse.mpr ?_},(List.reverse_perm A).trans h.pm};have u:=h.an.rg.unlike;refine(h.an.pw.and u).imp_of_mem λ{a b} ha hb k=>?_;rw[Qg,tT hg ho.pin (h.an.rg.1 a ha) (h.an.rg.1 b hb) k.2,k.1];rfl
theorem Af{a b z:Str}{T:Str->Str}(h:z=a\/z=b)(ha:T a=b)(hb:T b=a)(n:a≠b):([(a,V.str b),(b,V.str a)]:ge).lookup z=some (.str<|T z):=by rcases h with rfl|rfl;rw[zW,beq_self_eq_true,ha];rw[zW,zW,beq_self_eq_true,hb,show(z==a)=false from beq_eq_false_iff_ne.mpr (Ne.symm n)]
theorem Ag{z a b:Str}(h:(decide (z=a)||decide (z=b))=true):z=a\/z=b:=by rw[yK]at h;exact h.imp zy zy
noncomputable def tPD:D->D|.tup [.str a,.str b,.str c]=>p3 (tP (a,b,c))|_=>.av
noncomputable def Wk.tn(q:Wk):Wk:={q.w,q.a,q.ps.map tP,tW q.wy,q.d,q.n,ur q.h,ur q.f}
inductive Ca(ds:v0)(S:aq)(R:KD)(Z:KX):Prop where
 |mk (cs ps wy)(h0:ds=[cY ps wy])(h1:Og cs ps wy)(h2:R (cY (ps.map tP)<|tW wy) S)
theorem pK:Ok P w base T.turned 1 Ca:=by
 obtain⟨cs,ps,wy,e,ho,q⟩:T.turned.F.bx vW;have h8:=ho.len;refine{_,(sc (xl (N:=["part"]) (src:=[none]) 1 vW.nd (oj Km) (JR<|bn (dv 0) di) rn<|bX<|ac (bn (dv 0) di)<|ac (Zk T.jH (by decide) (gK T.iC)<|bn (dv 0) di)<|ac (Zk T.pW (by decide) (gK T.mZ)<|bn (dv 0) di) an)<|s1<|sr<|bX<|ac (ct ft T.bh aS<|al 1 an)<|ac (Zk T.jH (by decide) (gK T.iC)<|bn (dv 0) di) an),?_};refine !!{_,.inl rfl,?_};refine comp_map tPD trivial (by show(ps.map p3).length<=1000;rw[zb];lia) (λd hd Q hQ=>?_) λp jh=>?_;obtain⟨r,my,rfl⟩:=zi.mp hd;exact !!!!{_,_,rfl,Af (T:=tW) (Ag<|ho.TH r my) (by decide) (by decide)<|by decide,_,rfl,_,rfl,_,_,rfl,Af (T:=tE) (Ag<|ho.two r my) (by decide) (by decide)<|by decide,qO,hQ};have e3:(ps.map p3).map tPD=(ps.map tP).map p3:=by rw[zx,zx];rfl
 rw[show({ps.map p3,λ_=>True}:rm).xs=ps.map p3 from rfl,e3];exact !{_,_,rfl,.inl aa,_,rfl,_,rfl,_,_,rfl,Af (T:=tW) (Ag ho.way) (by decide) (by decide)<|by decide,bR,S,.new jh,q}
inductive n8(ds:v0)(S:aq)(R:KD)(Z:KX):Prop where
 |mk (g:qp)(h0:ds=[nQ g])(h1:nR g.2.2=true)(h2:R (nQ<|tG g) S)
theorem lL:Ok P w base T.iF 1 n8:=by obtain⟨g,e,hs,q⟩:T.iF.F.bx uM;refine{_,(s1<|sr<|bX<|ac (bn (dv 0) di)<|ac (Zk T.m6 (by decide) (gK T.kZ)<|bn (dv 0) di) an),?_};refine !!!!{_,_,rfl,Af (T:=tZ) (Ag hs) (by decide) (by decide)<|by decide,bR,fo q}
inductive j9(ds:v0)(S:aq)(R:KD)(Z:KX):Prop where
 |mk (cs ps s)(h0:ds=[Me s])(h1:kB cs ps s)(h2:R (Me<|ur s) S)
theorem jb:Ok P w base T.fw 2 j9:=by obtain⟨cs,ps,s,e,hs,q⟩:T.fw.F.bx qM;refine{_,(sc (si (bi bf (dv 0)<|dg (v:=.str "start") T.g8 {_,rfl} λ_=>cA _) (s1<|sr<|dg (v:=.str "end") T.xq {_,rfl} λ_=>cA _) s0)<|sc (si (bi bf (dv 0)<|dg (v:=.str "end") T.xq {_,rfl} λ_=>cA _) (s1<|sr<|dg (v:=.str "start") T.g8 {_,rfl} λ_=>cA _) s0)<|s1<|sr<|aM T.iF (lL T) hr<|al 0 an),?_};cases s with|s=>exact (!!⟨mR<|fo q⟩)|e=>exact (!!⟨cu !!⟨mR<|fo q⟩⟩)|g g=>have X4:=LG hs (S:=S);exact{_,rfl,Gy X4 (by trivial) !⟨aY !⟨Gy X4 (by trivial) !⟨aY !{g,rfl,Gp.side hs,fo q}⟩⟩⟩}
inductive qw(t:dY)(ds:v0)(S:aq)(R:KD)(Z:KX):Prop where
 |mk (q:Wk)(cs)(h0:ds=[.ref q.w])(h1:S q.w=some (jj t.ax q))(h2:Og cs q.ps q.wy)(h3:kB cs q.ps q.f)(h4:kB cs q.ps q.h)(h5:R .av<|S.set q.w<|jj t.ax q.tn)
theorem LN:oJ P w mg base T.o_ 3 (qw t):=by obtain⟨k,cs,e,hk,ho,hf,hh,q⟩:T.o_.F.bx nv;refine{_,(sc (bQ (i:=1) nv.nd<|aM T.fw (jb T) hr<|ac (fl T.aw T.bT<|dv 0) an)<|sc (sf T.aw T.bT (dv 0)<|aM T.fw (jb T) hr<|ac (fl T.aw T.cU<|dv 0) an)<|sc (sf T.aw T.cU (dv 0)<|dv 1)<|s1<|sf T.aw T.cz (dv 0)<|aM T.turned (pK T) hr<|ac (fl T.aw T.cz<|dv 0) an),?_};refine !{k.w,_,_,rfl,hk,rfl,cs,k.ps,k.h,rfl,hh,?_};refine !{k.w,_,_,rfl,hk,rfl,cs,k.ps,k.f,rfl,hf,_,rfl,k.w,_,rfl,hk,(show 6<1000 by decide),?_};refine !!{k.w,_,rfl,aa,(show 6<1000 by decide),?_};refine !{k.w,_,_,rfl,aa,rfl,cs,k.ps,k.wy,rfl,ho,_,rfl,k.w,_,rfl,aa,(show 6<1000 by decide),?_};rw[aQ,aQ];exact fo q
inductive wD(ds:v0)(S:aq)(R:KD)(Z:KX):Prop where
 |mk (p:Addr)(rows:wS)(b c:Nat)(h0:ds=[z_ p b c])(h1:S p=some (.lst<|rows.map ag))(h2:∀p,S p=none->R (z_ p c b) (S.set p<|.lst<|rows.reverse.map ag))
theorem uc:Ok P w base T.m_ 1 wD:=by obtain⟨p,rows,b,c,e,hp,q⟩:T.m_.F.bx Ec;refine{_,(s1<|sr<|bX<|ac (Wu<|bn (dv 0) di)<|ac (bn (dv 0) di)<|ac (bn (dv 0) di) an),?_};refine !!{_,hp,λp2 gD=>!!!!{qO,fo ?_}};rw[<-List.map_reverse];exact q p2 gD
section
variable{cs:ww}
theorem Yb(hg:Gd cs)(hp:Pin cs ps)(hw:∀r∈rows,Wg cs r.2)(hk:Lx rows)(hs:kB cs ps s):kB cs ps (Ay cs ps rows s).1/\kB cs ps (Ay cs ps rows s).2:=by unfold Ay;split;rename_i r0 r1 e0 e1;have m0:=zp e0;have m1:=zp e1;exact{EH hg hp (hw r0 m0) (hk r0 m0)<|by trivial,EH hg hp (hw r1 m1) (hk r1 m1)<|by trivial};exact⟨hs,hs⟩
end
noncomputable def Cb(kn:Kn):j4:=(kn.map (·.1)).mergeSort λa b=>decide<|a.cps.toList<=b.cps.toList
theorem ud(kn:Kn):(Cb kn).Perm (kn.map (·.1)):=List.mergeSort_perm _ _
theorem GB:∀{l:j4}{p:Str},(p::l).Pairwise (λa b=>a.cps.toList<=b.cps.toList)->PyProof.Rows.risingS p l=true|[],_,_=>rfl|x::r,p,h=>by obtain⟨h1,h2⟩:=List.pairwise_cons.mp h;show(!PySem.Spec.ltCps x.cps.toList p.cps.toList&&PyProof.Rows.risingS x r)=true;rw[zH,PyProof.Rows.ltCps_eq,Bool.not_eq_true',yj];exact{List.not_lt.mpr<|h1 x zj,GB h2}
theorem LO(kn:Kn):(Cb kn).Pairwise λa b=>a.cps.toList<=b.cps.toList:=by refine(List.pairwise_mergeSort (λa b c h1 h2=>?_) (λa b=>?_) _).imp λh=>zy h;exact zr<|List.le_trans (zy h1)<|zy h2;rw[yK];rcases List.le_total a.cps.toList b.cps.toList with h|h;exact .inl<|zr h;exact .inr<|zr h
theorem LP(kn:Kn):PyProof.Rows.sortedS (Cb kn)=true:=by have h:=LO kn;generalize Cb kn=l at h;cases l with|nil=>rfl|cons x r=>exact GB h
noncomputable def n_(kn:Kn):wS:=ip kn<|Cb kn
theorem ue(hI:KI cs kn)(hR:RI rs n kn):Snap rs cs n (n_ kn):={kn,_,rfl,hI,ud kn,LP kn,λz=>hR.wt z}
theorem LQ(hI:KI cs kn):Rg cs (n_ kn)/\Lx (n_ kn):=by refine{BQ hI<|ud kn,λr hr=>?_};obtain⟨z,hz,rfl⟩:=zi.mp hr;obtain⟨ws,EA⟩:=mh<|(ud kn).mem_iff.mp hz;exact(hI.ok _<|rH EA).1
structure Hs where
 (a lk:Addr)
 F:List Addr
 dl:List D
 rs:lh
 kn:Kn
structure Mn(t:dY)(S0:aq)(cs:ww)(fs:List (Addr×Ce))(hs:List Hs)(S:aq):Prop where
 fa:∀x∈fs,S x.1=some x.2/\S0 x.1=none
 nd:(fs.map Prod.fst).Nodup
 fr:Sub S0 S
 sh:∀h∈hs,bE t.ao S h.a h.F cs h.dl h.rs/\KI cs h.kn/\RI h.rs h.dl.length h.kn
 ou:∀h∈hs,(∀x∈fs,x.1∉h.F)/\∀b c,S0 b=some c->b∉h.F
 ap:∀(i j:Nat)(g h:Hs),hs[i]?=some g->hs[j]?=some h->i≠j->∀b∈g.F,b∉h.F
section
variable{t:dY}{S0 S S':aq}{cs:ww}{fs:List (Addr×Ce)}{hs:List Hs}
theorem bE.keep(h:bE C S x F cs dl rs)(k:∀b∈F,∀c,S b=some c->S' b=some c):bE C S' x F cs dl rs:=by obtain⟨ld,lr,ra,h,e1,e2⟩:=h;subst e1;unfold fp at k;exact{ld,lr,ra,{k _ (by simp) _ h.ins,k _ (by simp) _ h.Au,k _ (by simp) _ h.run,λr hr=>k _ (zg _<|zg _<|zg _<|zi.mpr ⟨r,hr,rfl⟩) _<|h.cell r hr,h.kn,h.an,h.sz},rfl,e2}
theorem bE.inn(h:bE C S x F cs dl rs)(hb:b∈F):∃c,S b=some c:=by cases e:S b with|none=>exact absurd hb (h.out e)|some c=>exact⟨c,rfl⟩
theorem Mn.at(h:Mn t S0 cs fs hs S)(i:Nat)(e:fs[i]?=some (b,c)):S b=some c:=(h.fa _<|zp e).1
theorem Mn.sub(h:Mn t S0 cs fs hs S)(b:Sub S S'):Mn t S0 cs fs hs S':={λx hx=>{b _ _ (h.fa x hx).1,(h.fa x hx).2},h.nd,h.fr.trans b,λg hg=>{(h.sh g hg).1.sub b,(h.sh g hg).2},h.ou,h.ap}
theorem Mn.zero(h:Mn t S0 cs fs hs S)(hb:S b=none):S0 b=none:=by cases e:S0 b with|none=>rfl|some c=>have:=h.fr _ _ e;rw[hb]at this;cases this
theorem Mn.Yc(h:Mn t S0 cs fs hs S)(h0:S0 p=none)(hn:∀x∈fs,x.1≠p)(hf:∀g∈hs,p∉g.F)(e:S p=some c):Mn t S0 cs (fs++[(p,c)]) hs S:=by refine{λx hx=>?_,?_,h.fr,h.sh,λg hg=>{λx hx=>?_,(h.ou g hg).2},h.ap};rcases zN.mp hx with hx|hx;exact h.fa x hx;rw[zE.mp hx];exact⟨e,h0⟩;rw[zI,List.nodup_append];refine{h.nd,by simp,λx hx y hy e=>?_};obtain⟨z,hz,rfl⟩:=zi.mp hx;exact hn z hz<|e.trans (by simpa using hy);rcases zN.mp hx with hx|hx;exact(h.ou g hg).1 x hx;rw[zE.mp hx];exact hf g hg
theorem Mn.new(h:Mn t S0 cs fs hs S)(hp:S p=none)(c:Ce):Mn t S0 cs (fs++[(p,c)]) hs (S.set p c):=(h.sub<|.new (c:=c) hp).Yc (h.zero hp) (λx hx e=>by have:=(h.fa x hx).1;rw[e,hp]at this;cases this) (λg hg=>(h.sh g hg).1.out hp) aa
theorem Mn.put(h:Mn t S0 cs fs hs S)(i:Nat)(e:fs[i]?=some (b,c))(c':Ce):Mn t S0 cs (fs.set i (b,c')) hs (S.set b c'):=by
 have hm:=zp e;have hi:=(zf.mp e).1;have em:(fs.set i (b,c')).map Prod.fst=fs.map Prod.fst:=by refine List.ext_getElem? λj=>?_;rw[zh,zh];by_cases q:j=i;subst q;rw[yr hi,e];rfl;rw[yo<|Ne.symm q]
 have old:∀x∈fs.set i (b,c'),x=(b,c')\/(x∈fs/\x.1≠b):=λx hx=>by obtain⟨j,hj⟩:=yg hx;by_cases q:j=i;subst q;rw[yr hi]at hj;cases hj;exact .inl rfl;rw[yo<|Ne.symm q]at hj;refine .inr {zp hj,λe2=>q ?_};have a1:(fs.map Prod.fst)[j]?=some x.1:=(by rw[zh,hj];rfl);have a2:(fs.map Prod.fst)[i]?=some b:=(by rw[zh,e];rfl);obtain⟨b1,c1⟩:=zf.mp a1;obtain⟨b2,c2⟩:=zf.mp a2;exact(List.getElem_inj h.nd (h₀:=b1) (h₁:=b2)).mp<|by rw[c1,c2];exact e2
 have hb:=h.fa _ hm;refine{λx hx=>?_,by rw[em];exact h.nd,λx c hx=>(ae<|gU hx hb.2).trans<|h.fr x c hx,λg hg=>{(h.sh g hg).1.off<|(h.ou g hg).1 _ hm,(h.sh g hg).2},λg hg=>{λx hx=>?_,(h.ou g hg).2},h.ap};rcases old x hx with rfl|⟨h1,h2⟩;exact⟨aa,hb.2⟩;exact{(ae h2).trans (h.fa x h1).1,(h.fa x h1).2};rcases old x hx with rfl|⟨h1,h2⟩;exact(h.ou g hg).1 (b,c) hm;exact(h.ou g hg).1 _ h1
theorem Mn.perm(h:Mn t S0 cs fs hs S)(p:OS.Perm fs):Mn t S0 cs OS hs S:={λx hx=>h.fa x<|p.mem_iff.mp hx,(p.map _).nodup_iff.mpr h.nd,h.fr,h.sh,λg hg=>{λx hx=>(h.ou g hg).1 x<|p.mem_iff.mp hx,(h.ou g hg).2},h.ap}
theorem Mn.add(h:Mn t S0 cs fs hs S)(hb:Bt t S a lk lm cs kn ce F dl rs S'):Mn t S0 cs (fs++[(lk,.bY<|ij kn)]) (hs++[⟨a,lk,F,dl,rs,kn⟩]) S':=by
 have BR:=hb.st.BR;have hl:=hb.st.fa (lk,.bY<|ij kn) zj;have h1:=h.sub BR.sub;have new:∀(i:Nat)(g:Hs),(hs++[⟨a,lk,F,dl,rs,kn⟩])[i]?=some g->hs[i]?=some g\/(i=hs.length/\g=⟨a,lk,F,dl,rs,kn⟩):=λi g e=>by by_cases q:i<hs.length;rw[List.getElem?_append_left q]at e;exact .inl e;rw[List.getElem?_append_right<|by lia]at e;obtain⟨e1,e2⟩:=zf.mp e;have e1:i-hs.length<1:=e1;refine .inr {by lia,?_};have e3:i-hs.length=0:=(by lia);rw[e3]at e;cases e;rfl
 have df:∀g∈hs,∀b∈g.F,b∉F:=λg hg b hb=>by obtain⟨c,hc⟩:=(h.sh g hg).1.inn hb;exact(BR b c hc).1
 have h2:Mn t S0 cs fs (hs++[⟨a,lk,F,dl,rs,kn⟩]) S':=by refine{h1.fa,h1.nd,h1.fr,λg hg=>?_,λg hg=>?_,λi j g g' e1 e2 ne b hb=>?_};rcases zN.mp hg with hg|hg;exact h1.sh g hg;rw[zE.mp hg];exact⟨hb.st.sh,hb.ki,hb.ri⟩;rcases zN.mp hg with hg|hg;exact h1.ou g hg;rw[zE.mp hg];exact{λx hx=>(BR _ _ (h.fa x hx).1).1,λb c e=>(BR b c<|h.fr _ _ e).1};rcases new i g e1 with q1|⟨q1,rfl⟩<;>rcases new j g' e2 with q2|⟨q2,rfl⟩;exact h.ap i j g g' q1 q2 ne b hb;exact df g (zp q1) b hb;exact λq=>df g' (zp q2) b q hb;lia
 refine h2.Yc (h.zero hl.2.2) (λx hx e=>?_) (λg hg=>?_) hl.1;have:=(h.fa x hx).1;rw[e,show S lk=none from hl.2.2]at this;cases this;rcases zN.mp hg with hg|hg;exact(h.sh g hg).1.out hl.2.2;rw[zE.mp hg];exact hl.2.1
theorem Mn.Ox(h:Mn t S0 cs fs hs S)(e:hs[k]?=some g)(hS:bE t.ao S' g.a F' cs UX c_)(hK:Cy g.F F' S S')(hI:KI cs jl)(hR:RI c_ UX.length jl):Mn t S0 cs fs (hs.set k ⟨g.a,g.lk,F',UX,c_,jl⟩) S':=by
 have hm:=zp e;have hi:=(zf.mp e).1;have old:∀(i:Nat)(x:Hs),(hs.set k ⟨g.a,g.lk,F',UX,c_,jl⟩)[i]?=some x->(i=k/\x=⟨g.a,g.lk,F',UX,c_,jl⟩)\/(i≠k/\hs[i]?=some x):=λi x hx=>by by_cases q:i=k;subst q;rw[yr hi]at hx;cases hx;exact .inl ⟨rfl,rfl⟩;rw[yo<|Ne.symm q]at hx;exact .inr ⟨q,hx⟩
 have df:∀(i:Nat)(x:Hs),i≠k->hs[i]?=some x->∀b∈x.F,b∉F'/\∀c,S b=some c->S' b=some c:=λi x q hx b hb=>by have n:=h.ap i k x g hx e q b hb;obtain⟨c,hc⟩:=(h.sh x<|zp hx).1.inn hb;exact{(hK b c n hc).1,λc' II=>(hK b c' n II).2}
 refine{λx hx=>{(hK _ _ ((h.ou g hm).1 x hx) (h.fa x hx).1).2,(h.fa x hx).2},h.nd,λb c hb=>(hK b c ((h.ou g hm).2 b c hb)<|h.fr b c hb).2,λx hx=>?_,λx hx=>?_,λi j x y e1 e2 ne b hb=>?_};obtain⟨i,hj⟩:=yg hx;rcases old i x hj with⟨_,rfl⟩|⟨q,hj⟩;exact⟨hS,hI,hR⟩;have o:=h.sh x<|zp hj;exact{o.1.keep λb hb=>(df i x q hj b hb).2,o.2};obtain⟨i,hj⟩:=yg hx;rcases old i x hj with⟨_,rfl⟩|⟨q,hj⟩;exact{λx hx=>(hK _ _ ((h.ou g hm).1 x hx) (h.fa x hx).1).1,λb c hb=>(hK b c ((h.ou g hm).2 b c hb)<|h.fr b c hb).1};exact h.ou x<|zp hj;rcases old i x e1 with⟨q1,rfl⟩|⟨q1,e1⟩<;>rcases old j y e2 with⟨q2,rfl⟩|⟨q2,e2⟩;lia;exact λq=>(df j y q2 e2 b q).1 hb;exact(df i x q1 e1 b hb).1;exact h.ap i j x y e1 e2 ne b hb
theorem Mn.qs(h:Mn t S0 cs fs hs S)(hm:g∈hs)(b:Sub S S')(hg:Gd cs)(ho:Og cs ps wy)(hd:Sq cs d)(ht:Tb t S0):Qs t S' g.a cs ps wy d .av (n_ g.kn):=
 have o:=h.sh g hm
 have n:=ue o.2.1 o.2.2
 ⟨hg,ho,hd,(n.vw o.1 o.2.2 rfl me).sub b,n.key,(ht.sub h.fr).sub b⟩
end
set_option genInjectivity true in
set_option genSizeOfSpec true in
inductive Wz where
 |on
 |back
 |first
 |last
noncomputable def ZD:Wz->Str|.on=>"on"|.back=>"back"|.first=>("first")|.last=>"last"
noncomputable def u_:Wz->Wk->Sd|.on,q=>q.h|.back,q=>q.f|.first,_=>.s|.last,_=>.e
noncomputable def Yd:Wz->List (Str×Str)->List Part->Str->List Row->Sd->Nat->Nat×Nat|.on=>Ae|.first=>Ae|_=>Az
noncomputable def ZE:Wz->Wz|.on=>.back|.back=>.on|.first=>.last|.last=>.first
noncomputable def Wk.to(cs:ww)(q:Wk)(rows:wS)(s:Sd):Wk:={q.w,q.a,q.ps,q.wy,q.d,q.n,(Ay cs q.ps rows s).1,(Ay cs q.ps rows s).2}
noncomputable def Wk.mv(q:Wk)(w a:Addr):Wk:=⟨w,a,q.ps,q.wy,q.d,q.n,q.f,q.h⟩
theorem Ye(hf:kB cs q.ps q.f)(hh:kB cs q.ps q.h):∀z,kB cs q.ps (u_ z q)|.on=>hh|.back=>hf|.first=>trivial|.last=>trivial
theorem Yf(z:Wz)(h:Yd z cs ps wy A s n=(b,e)):b<=e/\e<=A.length:=by
 have l:=eN (cs:=cs) (ps:=ps) (wy:=wy) (A:=A) s;have on:Ae cs ps wy A s n=(b,e)->b<=e/\e<=A.length:=λh=>by have h1:mz cs ps wy A s=b:=congrArg Prod.fst h;have h2:CC A (mz cs ps wy A s) n=e:=congrArg Prod.snd h;unfold CC at h2;omega
 have bk:Az cs ps wy A s n=(b,e)->b<=e/\e<=A.length:=λh=>by have h1:mz cs ps wy A s-n=b:=congrArg Prod.fst h;have h2:mz cs ps wy A s=e:=congrArg Prod.snd h;omega
 cases z;exact on h;exact bk h;exact on h;exact bk h
theorem Yg(z:Wz)(q:Wk):u_ (ZE z) q.tn=ur (u_ z q):=by cases z<;>rfl
theorem Yh(h:kB cs ps s):∀(z:Wz),Yd z cs ps wy A s n=(b,e)->Yd (ZE z) cs (ps.map tP) (tW wy) A.reverse (ur s) n=(A.length-e,A.length-b)|.on,h1=>by have h1:Ae cs ps wy A s n=(b,e):=h1;show Az _ _ _ _ _ _=_;rw[Ql h,h1]|.back,h1=>by have h1:Az cs ps wy A s n=(b,e):=h1;show Ae _ _ _ _ _ _=_;rw[Qm h,h1]|.first,h1=>by have h1:Ae cs ps wy A s n=(b,e):=h1;show Az _ _ _ _ _ _=_;rw[Ql h,h1]|.last,h1=>by have h1:Az cs ps wy A s n=(b,e):=h1;show Ae _ _ _ _ _ _=_;rw[Qm h,h1]
noncomputable def Wk.ot(q:Wk):Bool->Wk|true=>q.tn|false=>q
inductive Cc(t:dY)(ds:v0)(S:aq)(R:KD)(Z:KX):Prop where
 |mk (q:Wk)(z:Wz)(cs:ww)(rows:wS)(h0:ds=[.ref q.w,.str<|ZD z])(h1:S q.w=some (jj t.ax q))(h2:Qs t S q.a cs q.ps q.wy q.d .av rows)(h3:kB cs q.ps q.f)(h4:kB cs q.ps q.h)
  (h5:∀(A:wS)(p:Addr)(b e:Nat),BW cs q.ps q.wy 7 q.d rows A->S p=none->Yd z cs q.ps q.wy A (u_ z q) q.n=(b,e)->R (z_ p b<|A.length-e) ((S.set p<|.lst<|(seg A b e).map ag).set q.w<|jj t.ax<|q.to cs (seg A b e)<|u_ z q)):Cc t ds S R Z
theorem rM(B:Bm mg base):Ok P w base T.oX 16 (Cc t):=by obtain⟨q,z,cs,rows,e,hk,hq,hf,hh,k⟩:T.oX.F.bx HL;refine{_,(sc (si (bi bf (dv 1) ds) (s1<|sr<|eR (dv 0) T.aw T.xG (T9 T B) hr) s0)<|sc (si (bi bf (dv 1) ds) (s1<|sr<|eR (dv 0) T.aw T.oY (LH T B) hr) s0)<|sc (si (bi bf (dv 1) ds) (s1<|sr<|eR (dv 0) T.aw T.l9 (Il T B) hr) s0)<|s1<|sr<|eR (dv 0) T.aw T.oZ (LI T B) hr),?_};cases z with|on=>exact (!!⟨mR !{q.w,_,rfl,hk,rfl,q,cs,rows,rfl,hk,hq,hh,λA p b e hA hp he=>fo<|k A p b e hA hp he}⟩)|back=>exact (!!⟨cu !!⟨mR !{q.w,_,rfl,hk,rfl,q,cs,rows,rfl,hk,hq,hf,λA p b e hA hp he=>fo<|k A p b e hA hp he}⟩⟩)|first=>exact (!!⟨cu !!⟨cu !!⟨mR !{q.w,_,rfl,hk,rfl,q,cs,rows,rfl,hk,hq,trivial,λA p b e hA hp he=>fo<|k A p b e hA hp he}⟩⟩⟩)|last=>exact !!⟨cu !!⟨cu !!⟨cu !{q.w,_,rfl,hk,rfl,q,cs,rows,rfl,hk,hq,trivial,λA p b e hA hp he=>fo<|k A p b e hA hp he}⟩⟩⟩
theorem uf{A:wS}{b e:Nat}(hb:b<=A.length)(he:e<=A.length):cn (A.map ag) (some ((b:Nat):Int)) (some ((e:Nat):Int))=(seg A b e).map ag:=by unfold cn seg;rw[HT.sIx_nat,HT.sIx_nat,zb,Nat.min_eq_left he,Nat.min_eq_left hb,List.map_take,List.map_drop]
theorem Yi{cs:ww}{q:Wk}{A:wS}{b e:Nat}{s:Sd}(hb:b<=A.length)(he:e<=A.length):q.tn.to cs (seg A.reverse (A.length-e)<|A.length-b) (ur s)=(q.to cs (seg A b e) s).tn:=by unfold Wk.to Wk.tn;rw[rL hb he,Ya]
theorem LR(z:Wz)(q:Wk)(w a:Addr):u_ z (q.mv w a)=u_ z q:=by cases z<;>rfl
noncomputable def ZF:Option Wz->Str|none=>"again"|some z=>ZD z
inductive Cd(t:dY)(ds:v0)(S:aq)(R:KD)(Z:KX):Prop where
 |mk (q:Wk)(w2 a2:Addr)(ab:Bool)(z:Option Wz)(cs:ww)(rows:wS)(h0:ds=[.ref q.w,.ref w2,.bl ab,.str<|ZF z])(h1:S q.w=some (jj t.ax q))(h2:S w2=some (jj t.ax<|(q.ot ab).mv w2 a2))(h3:q.w≠w2)(h4:Qs t S q.a cs q.ps q.wy q.d .av rows)(h5:∀S1 c,Sub (S.set q.w c) S1->Qs t S1 a2 cs q.ps q.wy q.d .av rows)(h6:kB cs q.ps q.f)(h7:kB cs q.ps q.h)
  (h8:z=none->R (.bl true) S)
  (h9:∀z' (A:wS) (b e:Nat),z=some z'->BW cs q.ps q.wy 7 q.d rows A->Yd z' cs q.ps q.wy A (u_ z' q) q.n=(b,e)->R (.bl true) ((S.set q.w<|jj t.ax<|q.to cs (seg A b e)<|u_ z' q).set w2<|jj t.ax<|((q.to cs (seg A b e)<|u_ z' q).ot ab).mv w2 a2)):Cd t ds S R Z
theorem OH(B:Bm mg base):Ok P w base T.D3 17 (Cd t):=by obtain⟨q,w2,a2,ab,z,cs,rows,e,hk,dk,HR,hq,DF,hf,hh,r0,r1⟩:T.D3.F.bx vY;have hg:=hq.g;have ho:=hq.o;have LS:Qs t S a2 cs q.ps q.wy q.d .av rows:=DF S _ (by rw[v7 hk];exact .refl _);refine{_,(sc (si (bi bf (dv 3) ds) (s1<|sr<|be bf (eR (dv 0) T.aw T.iN (wB T B) hr)<|ab0 (eR (dv 1) T.aw T.iN (wB T B) hr)<|o1<|uG<|bn (cJ<|ac di<|ac (DB di) an)<|ct JL T.FE wU<|al 2 an) s0)<|sc (bQ (i:=4) vY.nd<|edd<|Zj ds ds<|Zj ds ds<|Zj ds ds<|Zj ds ds dp0)<|sc (si (tv<|dv 2) (s1<|sr<|be Kh (aM T.oX (rM T B) hr<|al 0<|al 3 an)<|aM T.m_ (uc T) hr<|ac (aM T.oX (rM T B) hr<|al 1<|ac (bn (dv 4)<|dv 3) an) an) s0)<|s1<|sr<|be Kh (aM T.oX (rM T B) hr<|al 0<|al 3 an)<|aM T.oX (rM T B) hr<|al 1<|al 3 an),?_};cases z with|none=>(refine !!⟨mR ?_⟩;refine !{q.w,_,rfl,hk,rfl,q,cs,rows,rfl,hk,hq,hf,hh,λA p hA hp=>?_};rw[uf (eN _)<|eN _];have s1:=Sub.new (c:=.lst<|(seg A (mz cs q.ps q.wy A q.f)<|mz cs q.ps q.wy A q.h).map ag) hp;have hP:(S.set p<|.lst<|(seg A (mz cs q.ps q.wy A q.f)<|mz cs q.ps q.wy A q.h).map ag) p=_:=aa;generalize S.set p (.lst<|(seg A (mz cs q.ps q.wy A q.f)<|mz cs q.ps q.wy A q.h).map ag)=S1 at s1 hP⊢;have uj:=s1 _ _ dk;have hl:∀S':aq,∀d∈(seg A (mz cs q.ps q.wy A q.f) (mz cs q.ps q.wy A q.h)).map ag,Ly S' 60 d:=λS'=>rK (hA.an.rg.sub<|(List.take_sublist _ _).trans<|List.drop_sublist _ _) λr hr=>hA.an.ky r<|gB hr;generalize hX:seg A (mz cs q.ps q.wy A q.f) (mz cs q.ps q.wy A q.h)=X at hl hP;cases ab with|false=>(refine !{w2,_,rfl,uj,rfl,q.mv w2 a2,cs,rows,rfl,uj,LS.sub s1,hf,hh,λA' p' AA xV=>?_};obtain rfl:=hA.one hg ho.pin AA;have e:cn (A.map ag) (some ((mz cs (q.mv w2 a2).ps (q.mv w2 a2).wy A (q.mv w2 a2).f:Nat):Int)) (some ((mz cs (q.mv w2 a2).ps (q.mv w2 a2).wy A (q.mv w2 a2).h:Nat):Int))=X.map ag:=(uf (eN _)<|eN _).trans<|congrArg (List.map ag) hX;rw[e];have s2:=Sub.new (c:=.lst<|X.map ag) xV;have Ma:(S1.set p'<|.lst<|X.map ag) p'=some (.lst<|X.map ag):=aa;generalize S1.set p' (.lst<|X.map ag)=S2 at s2 Ma⊢;refine !{bR,λpl dy=>!⟨.inr {false,rfl,_,_,aa,(show kD _ 0=some _ from rfl),S2,.new dy,_,rfl,true,rfl,_,Ma,λp3 CA=>?_}⟩};exact nG ((Sub.new CA) _ _<|s2 _ _ hP) aa (hl _) {S,(s1.trans s2).trans<|.new CA,r0 rfl})|true=>refine !{w2,_,rfl,uj,rfl,q.tn.mv w2 a2,cs,rows,rfl,uj,{hg,ho.tu,LS.s,(LS.sub s1).v,LS.k,(LS.sub s1).t},hh.tu,hf.tu,λA' p' AA xV=>?_};obtain rfl:=(hA.tu hg ho).one hg ho.tu.pin AA;have e:cn (A.reverse.map ag) (some ((mz cs (q.tn.mv w2 a2).ps (q.tn.mv w2 a2).wy A.reverse (q.tn.mv w2 a2).f:Nat):Int)) (some ((mz cs (q.tn.mv w2 a2).ps (q.tn.mv w2 a2).wy A.reverse (q.tn.mv w2 a2).h:Nat):Int))=X.reverse.map ag:=(by refine(uf (eN _)<|eN _).trans<|congrArg (List.map ag) ?_;show seg A.reverse (mz cs (q.ps.map tP) (tW q.wy) A.reverse<|ur q.h) (mz cs (q.ps.map tP) (tW q.wy) A.reverse<|ur q.f)=_;rw[Gz hh,Gz hf,rL (eN _)<|eN _,hX]);rw[e];have s2:=Sub.new (c:=.lst<|X.reverse.map ag) xV;have Ma:(S1.set p'<|.lst<|X.reverse.map ag) p'=some (.lst<|X.reverse.map ag):=aa;generalize S1.set p' (.lst<|X.reverse.map ag)=S2 at s2 Ma⊢;refine !{bR,λpl dy=>!⟨.inr {true,rfl,_,_,aa,(show kD _ 1=some _ from rfl),S2,.new dy,_,rfl,false,rfl,_,Ma,λp3 CA=>?_}⟩};rw[if_neg zd,List.map_reverse,List.reverse_reverse];exact nG ((Sub.new CA) _ _<|s2 _ _ hP) aa (hl _) {S,(s1.trans s2).trans<|.new CA,r0 rfl})|some z=>refine !!⟨pA (by cases z<;>decide +kernel) λpd UZ=>{aa,?_}⟩;rw[aQ];have e1:bP [(.inr "on",.str "back"),(.inr "back",.str "on"),(.inr "first",.str "last"),(.inr "last",D.str "first")] (.inr<|ZD z)=some (.str<|ZD<|ZE z):=(by cases z<;>rfl);have sd:=Sub.new (c:=.bY [(.inr "on",.str "back"),(.inr "back",.str "on"),(.inr "first",.str "last"),(.inr "last",D.str "first")]) UZ;have hD:(S.set pd<|.bY [(.inr "on",.str "back"),(.inr "back",.str "on"),(.inr "first",.str "last"),(.inr "last",D.str "first")]) pd=_:=aa;generalize S.set pd (.bY [(.inr "on",.str "back"),(.inr "back",.str "on"),(.inr "first",.str "last"),(.inr "last",D.str "first")])=S0 at sd hD⊢;have Sm:=sd _ _ hk;have hgz:=Ye hf hh z;have two:∀{A:wS}{p:Addr}{b e:Nat},S0 p=none->∀c1,Sub (S.set q.w c1) ((S0.set p<|.lst<|(seg A b e).map ag).set q.w c1)/\((S0.set p<|.lst<|(seg A b e).map ag).set q.w c1) w2=some (jj t.ax<|(q.ot ab).mv w2 a2)/\((S0.set p<|.lst<|(seg A b e).map ag).set q.w c1) p=some (.lst<|(seg A b e).map ag):=λhp c1=>{bF<|sd.trans<|.new hp,(ae<|Ne.symm HR).trans<|(Sub.new hp) _ _<|sd _ _ dk,(ae λn=>by rw[n,Sm]at hp;cases hp).trans aa};cases ab with|false=>(refine !!⟨pA rfl ?_⟩;refine !!{q,z,cs,rows,rfl,Sm,hq.sub sd,hf,hh,λA p b e hA hp he=>?_};obtain⟨u1,u2,u3⟩:=two (A:=A) (b:=b) (e:=e) hp<|jj t.ax<|q.to cs (seg A b e)<|u_ z q;generalize (S0.set p<|.lst<|(seg A b e).map ag).set q.w (jj t.ax<|q.to cs (seg A b e)<|u_ z q)=S1 at u1 u2 u3⊢;refine !!{q.mv w2 a2,z,cs,rows,rfl,u2,DF _ _ u1,hf,hh,λA' p' b' e' AA xV L9=>?_};obtain rfl:=hA.one hg ho.pin AA;rw[LR]at L9⊢;cases he.symm.trans L9;have hPp:((S1.set p'<|.lst<|(seg A b e).map ag).set w2<|jj t.ax<|(q.mv w2 a2).to cs (seg A b e)<|u_ z q) p=some (.lst<|(seg A b e).map ag):=(ae λn=>by rw[n,u2]at u3;cases u3).trans<|(Sub.new xV) _ _ u3;have hPq:((S1.set p'<|.lst<|(seg A b e).map ag).set w2<|jj t.ax<|(q.mv w2 a2).to cs (seg A b e)<|u_ z q) p'=some (.lst<|(seg A b e).map ag):=(ae λn=>by rw[n,u2]at xV;cases xV).trans aa;have lay:=EJ hA.an.rg.1 hA.an.ky (b:=b) (e:=e);exact sM (wu hA.an.rg.1 hPp) (wu hA.an.rg.1 hPq) lay.1 (by have:=lay.2;lia) {_,bF<|u1.trans<|.new xV,r1 z A b e rfl hA he})|true=>refine !!⟨SX rfl ?_⟩;refine !!{q,z,cs,rows,rfl,Sm,hq.sub sd,hf,hh,λA p b e hA hp he=>?_};obtain⟨u1,u2,u3⟩:=two (A:=A) (b:=b) (e:=e) hp<|jj t.ax<|q.to cs (seg A b e)<|u_ z q;have hD1:((S0.set p<|.lst<|(seg A b e).map ag).set q.w<|jj t.ax<|q.to cs (seg A b e)<|u_ z q) pd=_:=(ae λn=>by rw[n,hk]at UZ;cases UZ).trans<|(Sub.new hp) _ _ hD;generalize (S0.set p<|.lst<|(seg A b e).map ag).set q.w (jj t.ax<|q.to cs (seg A b e)<|u_ z q)=S1 at u1 u2 u3 hD1⊢;have IG:=DF _ _ u1;obtain⟨OR,Uy⟩:=Yf z he;refine !!!{_,_,hD1,e1,q.tn.mv w2 a2,ZE z,cs,rows,rfl,u2,⟨hg,ho.tu,IG.s,IG.v,IG.k,IG.t⟩,hh.tu,hf.tu,λA' p' b' e' AA xV L9=>?_};obtain rfl:=(hA.tu hg ho).one hg ho.tu.pin AA;rw[LR,Yg]at L9⊢;cases (Yh hgz z he).symm.trans L9;rw[zP,show A.length-(A.length-b)=b by lia,show(q.tn.mv w2 a2).to cs (seg A.reverse (A.length-e)<|A.length-b) (ur<|u_ z q)=(q.to cs (seg A b e)<|u_ z q).tn.mv w2 a2 from congrArg (λx=>Wk.mv x w2 a2) (Yi (by lia) Uy),rL (by lia) Uy];have hPp:((S1.set p'<|.lst<|(seg A b e).reverse.map ag).set w2<|jj t.ax<|(q.to cs (seg A b e)<|u_ z q).tn.mv w2 a2) p=some (.lst<|(seg A b e).map ag):=(ae λn=>by rw[n,u2]at u3;cases u3).trans<|(Sub.new xV) _ _ u3;have hPq:((S1.set p'<|.lst<|(seg A b e).reverse.map ag).set w2<|jj t.ax<|(q.to cs (seg A b e)<|u_ z q).tn.mv w2 a2) p'=some (.lst<|(seg A b e).reverse.map ag):=(ae λn=>by rw[n,u2]at xV;cases xV).trans aa;refine{p',_,_,_,rfl,hPq,λp3 CA=>?_};rw[List.reverse_reverse];have lay:=EJ hA.an.rg.1 hA.an.ky (b:=b) (e:=e);exact sM (wu hA.an.rg.1<|(Sub.new CA) _ _ hPp) (wu hA.an.rg.1 aa) lay.1 (by have:=lay.2;lia) {_,(bF<|u1.trans<|.new xV).trans<|.new CA,r1 z A b e rfl hA he}
section
variable{t:dY}{S0:aq}{a lk lm:Addr}{cs:ww}{kn:Kn}{ce:TY}{F:im}{dl:v0}{rs:lh}{S:aq}
theorem Bt.sub{S':aq}(h:Bt t S0 a lk lm cs kn ce F dl rs S)(b:Sub S S'):Bt t S0 a lk lm cs kn ce F dl rs S':={h.st.sub b,h.ki,h.ri,h.hi,h.le}
theorem Bt.ml(h:Bt t S0 a lk lm cs kn ce F dl rs S):S lm=some (.lst<|ce.map λx=>D.ref x.1):=h.st.at 1 rfl
theorem Bt.cell(h:Bt t S0 a lk lm cs kn ce F dl rs S){k:Nat}{x:Addr×List Row}(e:ce[k]?=some x):S x.1=some (.lst<|x.2.map ag):=h.st.at (k+2)<|by show(ce.map XX)[k]?=_;rw[zh,e];rfl
theorem Bt.len(h:Bt t S0 a lk lm cs kn ce F dl rs S):ce.length=dl.length+1:=by have:=h.hi.1;rwa [zb]at this
theorem Bt.snap(h:Bt t S0 a lk lm cs kn ce F dl rs S){k:Nat}{x:Addr×List Row}(e:ce[k]?=some x):Snap rs cs k x.2:=h.hi.2 k x.2<|by rw[zh,e];rfl
theorem Bt.vw(h:Bt t S0 a lk lm cs kn ce F dl rs S){k:Nat}{x:Addr×List Row}(e:ce[k]?=some x):Vw t.ao S a cs (.int (k:Nat)) x.2:=by have hk:=(zf.mp e).1;have hl:=h.len;refine(h.snap e).vw h.st.sh h.ri ?_ gt_int;show(if 0<=((k:Nat):Int)/\((k:Nat):Int)<=((dl.length:Nat):Int) then some ((k:Nat):Int) else none)=_;rw[if_pos<|by lia]
theorem Bt.vn(h:Bt t S0 a lk lm cs kn ce F dl rs S)(e:ce[dl.length]?=some x):Vw t.ao S a cs .av x.2:=(h.snap e).vw h.st.sh h.ri rfl me
theorem Bt.at(h:Bt t S0 a lk lm cs kn ce F dl rs S){k:Nat}(hk:k<ce.length):∃x,ce[k]?=some x:={_,ze hk}
theorem Bt.end(h:Bt t S0 a lk lm cs kn ce F dl rs S)(e:ce[dl.length]?=some x):kD (ce.map λx=>D.ref x.1) (-1)=some (.ref x.1):=by have hl:=h.len;unfold kD I_;rw[zb,if_neg<|by decide,if_pos<|by lia,show((-1:Int)+((ce.length:Nat):Int)).toNat=dl.length by lia];show(ce.map λx=>D.ref x.1)[dl.length]?=_;rw[zh,e];rfl
end
theorem T_{cs:ww}{ps:wP}{wy:Str}{A:wS}{b:wT}{n:Nat} : (u7 cs ps wy A b n).1<=(u7 cs ps wy A b n).2/\(u7 cs ps wy A b n).2<=A.length:=by have:=Ab (cs:=cs) (ps:=ps) (wy:=wy) (zV A.length) b;unfold u7 CC;exact{by show _<=min _ _;lia,by show min _ _<=_;lia}
theorem Ua{cs:ww}{ps:wP}{wy:Str}{A:wS}{b:wT}{n:Nat} : (wo cs ps wy A b n).1<=(wo cs ps wy A b n).2/\(wo cs ps wy A b n).2<=A.length:={Nat.sub_le _ _,Ab (zq _) b}
theorem GC{cs:ww}{ps:wP}{wy:Str}{A:wS}(hA:An cs ps wy A.reverse){b e:Nat}(h:b<=e)(h2:e<=A.length){S:aq}{p q:Addr}(hp:S p=some (.lst<|(seg A.reverse (A.length-e)<|A.length-b).map ag))(hq:S q=some (.lst<|(seg A b e).reverse.map ag)){neg:Bool}{R:KD}(k:R (.bl<|!neg) S):Zh neg (z_ p (A.length-e)<|A.reverse.length-(A.length-b)) (z_ q (A.length-e) b) S R:=by rw[<-rL (by lia) h2]at hq;rw[show z_ q (A.length-e) b=z_ q (A.length-e) (A.reverse.length-(A.length-b)) by rw[zP,show A.length-(A.length-b)=b by lia]];have lay:=EJ hA.rg.1 hA.ky (b:=A.length-e) (e:=A.length-b);exact sM (wu hA.rg.1 hp) (wu hA.rg.1 hq) lay.1 (by have:=lay.2;lia) k
inductive wF(t:dY)(ds:v0)(S:aq)(R:KD)(Z:KX):Prop where
 |mk (S0:aq)(a lk lm:Addr)(cs:ww)(kn:Kn)(ce:TY)(F:im)(dl:v0)(rs:lh)(ps:wP)(wy:Str)(d:D)(c:Int)(h0:ds=[.ref a,.ref lm,.tup<|cs.map aD,cY ps wy,d,.int c])(h1:Bt t S0 a lk lm cs kn ce F dl rs S)(h2:Gd cs)(h3:Og cs ps wy)(h4:Sq cs d)(h5:Tb t S)(h6:R (.bl true) S)
inductive Aw(t:dY)(S1:aq)(a lm lx:Addr)(cs:ww)(ps:wP)(wy:Str)(d:D)(c:Int)(m:Nat)(aG:SD)(S':aq):Prop where
 |mk (b:wT)(o9:wn)(h0:aG=[some<|.ref a,some<|.ref lm,some<|.tup<|cs.map aD,some<|cY ps wy,some d,some<|.int c,some<|.ref lx,some<|.int (m:Nat),some<|Lu b,o9,none,none,none,none])(h1:S'=S1)(h2:Bg cs ps b):Aw t S1 a lm lx cs ps wy d c m aG S'
theorem LU(B:Bm mg base):Ok P w base T.xE 14 (wF t):=by
 obtain⟨S0,a,lk,lm,cs,kn,ce,F,dl,rs,ps,wy,d,c,e,hb,hg,ho,Mf,RF,q⟩:T.xE.F.bx bw;refine{_,(sc (bQ (i:=6) bw.nd<|aM T.gx (ig T) hr<|al 5<|ac di an)<|sc (bQ (i:=7) bw.nd<|bd ba (bn (dv 6) di)<|cb a_ T.aW aI<|al 1 an)<|sc (bQ (i:=8) bw.nd<|uG<|bn (cJ<|ac (aM T.Kz (OE T) hr<|al 2<|al 3<|ac (bd bH (bn (dv 6) di) di) an)<|ac dn an)<|bd bH (bd ba (bn (dv 6) di) di) di)<|sc (Ba<|si (twd<|twand (bi w5 (bd ba (bn (dv 6) di) di) di)<|tw1<|bi lR (bn (dv 1)<|dv 7)<|cJ an) (sc (bQ (i:=9) bw.nd<|bn (bn (dv 1)<|dv 7)<|bd ba (bn (dv 6) di)<|cb a_ T.aW aI<|ac (bn (dv 1)<|dv 7) an)<|s1<|bQ (i:=8) bw.nd<|bX<|ac (aM T.xD (LB T) hr<|al 2<|al 3<|al 9 an)<|ac (uG<|bn (cJ<|ac ds<|ac ds an)<|bd ba (bd bH (bn (dv 6) di) di) di) an) s0)<|sc (bQ (i:=10) bw.nd dn)<|sc (Ba<|si (bi lQ (dv 8) dn) (s1<|bQ (i:=10) bw.nd<|aM T.iF (lL T) hr<|al 8 an) s0)<|sc (bQ (i:=11) bw.nd<|aM T.sY (Ad T) hr<|ac (bn (dv 6) di) an)<|sc (bQ (i:=12) bw.nd<|aM T.turned (pK T) hr<|al 3 an)<|sc (bQ (i:=13) bw.nd<|aM T.rC ((t9 T B).w) hr<|al 0<|al 3<|al 4<|al 11<|al 8<|al 7 an)<|sc (si (bi Xp (aM T.kl ((nX T B).w) hr<|al 0<|al 12<|al 4<|al 11<|al 10<|al 7 an)<|aM T.m_ (uc T) hr<|al 13 an) (s1<|sr db) s0)<|sc (bQ (i:=13) bw.nd<|aM T.kl ((nX T B).w) hr<|al 0<|al 3<|al 4<|al 11<|al 8<|al 7 an)<|s1<|sr<|be Kh (aM T.rC ((t9 T B).w) hr<|al 0<|al 12<|al 4<|al 11<|al 10<|al 7 an)<|aM T.m_ (uc T) hr<|al 13 an),?_};refine !{c,5,rfl,by decide,λxs lx _ Mb hx wR=>?_};have s1:=Sub.new (c:=.lst<|xs.map D.int) wR;have hX:(S.set lx<|.lst<|xs.map D.int) lx=some (.lst<|xs.map D.int):=aa;generalize S.set lx (.lst<|xs.map D.int)=S1 at s1 hX⊢;have at_:∀k:Nat,k<5->∃x:Int,kD (xs.map D.int) ((k:Nat):Int)=some (.int x)/\0<=x:=λk hk=>tL (by lia) (by rw[zb];lia) hx;obtain⟨x0,e0,_⟩:=at_ 0 (by decide);obtain⟨x1,e1,_⟩:=at_ 1 (by decide);obtain⟨x2,e2,_⟩:=at_ 2 (by decide);obtain⟨x3,e3,_⟩:=at_ 3 (by decide);have ZG:=hb.sub s1;have hM:=ZG.ml;have Cs:=hb.len;have Tw:(ce.map λx=>D.ref x.1).length=ce.length:=zb _;obtain⟨m,em⟩:=Int.eq_ofNat_of_zero_le<|show 0<=x0%(((ce.map λx=>D.ref x.1).length:Nat):Int) from zL _ (by lia);have hm:m<ce.length:=by have:=zK x0 (show(0:Int)<(((ce.map λx=>D.ref x.1).length:Nat):Int) by lia);lia
 refine !{_,_,hX,e0,_,rfl,_,rfl,.inl {_,hM,by lia,?_}};rw[em];obtain⟨y,ey⟩:=hb.at hm;have hY:=ZG.cell ey;have eM:kD (ce.map λx=>D.ref x.1) ((m:Nat):Int)=some (.ref y.1):=cE (by rw[zh,ey];rfl);obtain⟨ZH,h60⟩:=(hb.snap ey).rg;have Ub:Lx y.2:=(hb.snap ey).key;have ml2:(y.2.map ag).length=y.2.length:=zb _;refine !!!{_,_,hX,e1,{by decide,by trivial},cs,ps,wy,_,rfl,hg,ho,λg0 hg0=>{bR,λp hp=>?_}};refine !{_,_,(Sub.new hp) _ _ hX,e1,by decide,{by decide,by trivial},cH (L:=[nQ g0,D.av]) (by lia) (by show _<(2:Int);lia) hp λd' rN=>?_};obtain⟨b0,rfl,Sn⟩:∃b,d'=Lu b/\Bg cs ps b:=by simp only[zm,zM,or_false]at rN;rcases rN with h|h;exact{some g0,h,λg z=>by cases z;exact hg0};exact⟨none,h,nofun⟩
 clear rN hp hg0 p g0;refine{Aw t S1 a lm lx cs ps wy d c m,?_,?_};refine !{_,_,hX,e1,by decide,_,rfl,ck (λ_=>?_) λ_=>aY<|fo {b0,_,rfl,rfl,Sn}};refine !!{_,_,hM,eM,uS,λp2 gD=>Ol ((Sub.new gD) _ _ hY) aa (rK ZH Ub) !⟨ck (λh2=>?_) λh2=>{S1,.new gD,b0,_,rfl,rfl,Sn}⟩};have h2:(!(y.2.map ag).isEmpty)=true:=h2;have Hc:0<y.2.length:=by cases h:y.2 with|nil=>(rw[h]at h2;cases h2)|cons _ _=>exact Nat.succ_pos _
 have s5:=Sub.new (c:=.lst []) gD;have hY5:=s5 _ _ hY;have hX5:=s5 _ _ hX;have hM5:=s5 _ _ hM;generalize S1.set p2 (.lst [])=S5 at s5 hY5 hX5 hM5⊢;obtain⟨d',XE,e2'⟩:=kh (l:=y.2.map ag) (i:=x2%(((y.2.map ag).length:Nat):Int)) (zL _<|by lia)<|zK _ (by lia);obtain⟨r,my,rfl⟩:=zi.mp<|zp e2';refine !!{_,_,hM5,eM,_,rfl,_,_,hX5,e2,_,rfl,_,rfl,_,_,hM5,eM,_,rfl,.inl {_,hY5,by lia,_,_,hY5,XE,?_}};refine !!!{cs,ps,wy,r,rfl,hg,ho.pin,ho.len,ZH.1 r my,bR,λp hp=>!{_,_,(Sub.new hp) _ _ hX5,e1,{by decide,by trivial},by decide,cH (zL _<|by decide) (zK _<|by decide) hp λd' rN=>?_}};obtain⟨sd,rfl,hsd⟩:=Gw rN;exact{bR,S1,s5,some<|Ij cs ps sd r,_,rfl,rfl,λg e=>by cases e;exact EH hg ho.pin (ZH.1 r my) (Ub r my) hsd};rintro aG S' ⟨b,o9,rfl,rfl,U4⟩;have hbt:=U4.tu;refine{λaG S1=>aG=[some<|.ref a,some<|.ref lm,some<|.tup<|cs.map aD,some<|cY ps wy,some d,some<|.int c,some<|.ref lx,some<|.int (m:Nat),some<|Lu b,o9,some<|Lu<|b.map tG,none,none,none]/\S1=S',?_,?_};cases b with|none=>exact (!!⟨pA rfl<|fo ⟨rfl,rfl⟩⟩)|some g=>exact !!⟨SX rfl !{g,rfl,(U4 g rfl).side,fo ⟨rfl,rfl⟩}⟩
 rintro aG S1 ⟨rfl,rfl⟩;refine !{_,_,hX,e3,_,rfl,_,rfl,cs,ps,wy,rfl,ho,?_};obtain⟨n1,n2⟩:=ua x3;generalize t_ x3=n at n1 n2⊢;have hq:Qs t S1 a cs ps wy d (.int (m:Nat)) y.2:={hg,ho,Mf,ZG.vw ey,Ub,RF.sub s1};have hqt:∀{S'},Sub S1 S'->Qs t S' a cs (ps.map tP) (tW wy) d (.int (m:Nat)) y.2:=λb=>{hg,ho.tu,Mf,(ZG.vw ey).sub b,Ub,(RF.sub s1).sub b};refine !!!!!!⟨hq.pg (f:=u7) b n1 n2 U4 λA p hA hp=>?_⟩;have ZI:=hA.tu hg ho;have u2:=Sub.new (c:=.lst<|(seg A (u7 cs ps wy A b n).1 (u7 cs ps wy A b n).2).map ag) hp;have hP:(S1.set p<|.lst<|(seg A (u7 cs ps wy A b n).1 (u7 cs ps wy A b n).2).map ag) p=_:=aa;generalize S1.set p (.lst<|(seg A (u7 cs ps wy A b n).1 (u7 cs ps wy A b n).2).map ag)=S2 at u2 hP⊢;refine !!!!!!⟨(hqt u2).pg (f:=wo) (b.map tG) n1 n2 hbt λA' p' AA xV=>?_⟩;obtain rfl:=ZI.one hg ho.tu.pin AA;rw[X9 U4];obtain⟨l1,l2⟩:=T_ (cs:=cs) (ps:=ps) (wy:=wy) (A:=A) (b:=b) (n:=n);generalize (u7 cs ps wy A b n).1=b1 at hP l1⊢;generalize (u7 cs ps wy A b n).2=f1 at hP l1 l2⊢;dsimp only;have u3:=Sub.new (c:=.lst<|(seg A.reverse (A.length-f1)<|A.length-b1).map ag) xV;refine !{p,_,_,_,rfl,u3 _ _ hP,λp3 CA=>GC ZI.an l1 l2 ((Sub.new CA) _ _ aa) aa ?_};have u4:=(u2.trans u3).trans<|Sub.new (c:=.lst<|(seg A b1 f1).reverse.map ag) CA;generalize (S2.set p'<|.lst<|(seg A.reverse (A.length-f1)<|A.length-b1).map ag).set p3 (.lst<|(seg A b1 f1).reverse.map ag)=S4 at u4⊢;refine{_,rfl,aY ?_};refine !!!!!!⟨(hq.sub u4).pg (f:=wo) b n1 n2 U4 λA' q AA Cu=>?_⟩;obtain rfl:=hA.one hg ho.pin AA;have u5:=u4.trans<|Sub.new (c:=.lst<|(seg A (wo cs ps wy A b n).1 (wo cs ps wy A b n).2).map ag) Cu;have hQ:(S4.set q<|.lst<|(seg A (wo cs ps wy A b n).1 (wo cs ps wy A b n).2).map ag) q=_:=aa;generalize S4.set q (.lst<|(seg A (wo cs ps wy A b n).1 (wo cs ps wy A b n).2).map ag)=S5 at u5 hQ⊢;refine !!!!!!⟨(hqt u5).pg (f:=u7) (b.map tG) n1 n2 hbt λA' q' AA Cu=>?_⟩;obtain rfl:=ZI.one hg ho.tu.pin AA;rw[X_ U4];obtain⟨l1,l2⟩:=Ua (cs:=cs) (ps:=ps) (wy:=wy) (A:=A) (b:=b) (n:=n);generalize (wo cs ps wy A b n).1=b1 at hQ l1⊢;generalize (wo cs ps wy A b n).2=f1 at hQ l1 l2⊢;dsimp only;have u6:=Sub.new (c:=.lst<|(seg A.reverse (A.length-f1)<|A.length-b1).map ag) Cu;exact !{q,_,_,_,rfl,u6 _ _ hQ,λq3 IG=>GC ZI.an l1 l2 ((Sub.new IG) _ _ aa) aa {S,((s1.trans u5).trans u6).trans<|.new IG,‹_›}}
theorem Sg.up:∀{n:Nat}{d:D},Sg cs n d->Sg cs (n+1) d|0,_,h=>h.elim|n+1,d,h=>by rcases h with h|⟨e,h1,h2⟩|⟨o,ds,h1,h2,h3,h4⟩;exact .inl h;exact .inr<|.inl ⟨e,h1,h2.up⟩;exact .inr<|.inr {o,ds,h1,h2,h3,λe he=>(h4 e he).up}
theorem Qn:∀{n:Nat}{d:D},Sg cs n d->qh (n+1) d=qh n d|0,_,h=>h.elim|n+1,d,h=>by show((nJ d).map<|qh<|n+1).sum+1=((nJ d).map<|qh n).sum+1;rw[zU λf hf=>Qn<|K2 h f hf]
theorem Qo{cs:ww}{n:Nat}{d:D}(h:Sg cs n d)(h2:qh n d<=40):∀k,Sg cs (n+k) d/\qh (n+k) d<=40|0=>⟨h,h2⟩|k+1=>by obtain⟨a,b⟩:=Qo h h2 k;exact{a.up,by show qh (n+k+1) d<=40;rw[Qn a];exact b}
theorem Uc{P:Program}{w:World}{K:Frag}{mg:Str->Option Value}{base:Heap}{k N:Nat}{f:Addr}{fd:FuncData}{ps:j4}{sp:Nat->rj}(F:∀n,n<=N->bG P w K mg base (fG P w mg) k f fd ps (rl K<|sp n)):bG P w K mg base (fG P w mg) k f fd ps (rl K λds S R Z=>∃n,n<=N/\sp n ds S R Z):=by refine{?_,?_};rintro vs H Q E ⟨ds,S,R,Z,a,b,⟨n,hn,c⟩,d⟩;exact(F n hn).len vs H Q E ⟨ds,S,R,Z,a,b,c,d⟩;rintro A outer s H args us vs Q E hr he hb hv ⟨ds,S,R,Z,a,b,⟨n,hn,c⟩,d⟩;exact(F n hn).run A outer s H args us vs Q E hr he hb hv ⟨ds,S,R,Z,a,b,c,d⟩
theorem Ud(ns:rp)(i k:Nat):(cn ns (some ((i:Nat):Int))<|some ((i+k:Nat):Int)).length<=k:=by unfold cn;rw[HT.sIx_nat,HT.sIx_nat];exact zO (List.length_take_le _ _)<|by lia
theorem Yj{cs:ww}{q:Wk}(ho:Og cs q.ps q.wy)(hf:kB cs q.ps q.f)(hh:kB cs q.ps q.h)(w a:Addr):∀ab,((q.ot ab).mv w a).tn=(q.ot<|!ab).mv w a|false=>rfl|true=>by show Wk.mk w a ((q.ps.map tP).map tP) (tW<|tW q.wy) q.d q.n (ur<|ur q.f) (ur<|ur q.h)=Wk.mk w a q.ps q.wy q.d q.n q.f q.h;rw[ho.tt.1,ho.tt.2,GA hf,GA hh]
theorem Yk{cs:ww}{q:Wk}(ho:Og cs q.ps q.wy)(hf:kB cs q.ps q.f)(hh:kB cs q.ps q.h):∀ab,Og cs (q.ot ab).ps (q.ot ab).wy/\kB cs (q.ot ab).ps (q.ot ab).f/\kB cs (q.ot ab).ps (q.ot ab).h|false=>⟨ho,hf,hh⟩|true=>⟨ho.tu,hh.tu,hf.tu⟩
noncomputable def wdL:v0:=[.str "deed",.str "on",.str "back",.str "on",.str "again",.str "turn",.str "first",.str "last",.str "on",.str "deed"]
theorem Yl{d:D}(h:d∈wdL):d=.str "deed"\/d=.str "turn"\/∃z,d=.str (ZF z)/\ZF z≠"deed"/\ZF z≠"turn":=by unfold wdL at h;simp only[zm,zM,or_false]at h;rcases h with h|h|h|h|h|h|h|h|h|h;exact .inl h;exact .inr<|.inr {some .on,h,by decide,by decide};exact .inr<|.inr {some .back,h,by decide,by decide};exact .inr<|.inr {some .on,h,by decide,by decide};exact .inr<|.inr {none,h,by decide,by decide};exact .inr<|.inl h;exact .inr<|.inr {some .first,h,by decide,by decide};exact .inr<|.inr {some .last,h,by decide,by decide};exact .inr<|.inr {some .on,h,by decide,by decide};exact .inl h
noncomputable def FL(t:dY)(lp lk l2 w2 a2:Addr)(ms:rp)(kn k0:Kn)(q:Wk)(ab:Bool):List (Addr×Ce):=[(lp,.lst<|ms.map D.int),(lk,.bY<|ij kn),(l2,.bY<|ij k0),(q.w,jj t.ax q),(w2,jj t.ax<|(q.ot ab).mv w2 a2)]
inductive Lw(t:dY)(S:aq)(ns ms:rp)(cs:ww)(ps:wP)(wy:Str)(d:D)(n:Nat)(a lm lk a2 Ue l2 w1 w2 lp:Addr)(k0:Kn)(i:Nat)(aG:SD)(S':aq):Prop where
 |mk (f h:Sd)(ab:Bool)(g0 g1:Hs)(Mg o14 o15:wn)(h0:aG=[some<|.kW<|ns.map D.int,some<|.tup<|cs.map aD,some<|cY ps wy,some d,some<|.ref a,some<|.ref lm,some<|.ref lk,some<|.ref a2,some<|.ref Ue,some<|.ref l2,Mg,some<|.ref w1,some<|.ref w2,some<|.bl ab,o14,o15])(h1:g0.a=a/\g1.a=a2/\g1.kn=g0.kn)(h2:g0.dl.length<=89+i/\g1.dl.length<=89+i)(h3:kB cs ps f)(h4:kB cs ps h)(h5:Mn t S cs (FL t lp lk l2 w2 a2 ms g0.kn k0 ⟨w1,a,ps,wy,d,n,f,h⟩ ab) [g0,g1] S'):Lw t S ns ms cs ps wy d n a lm lk a2 Ue l2 w1 w2 lp k0 i aG S'
inductive GF(t:dY)(ds:v0)(S:aq)(R:KD)(Z:KX):Prop where
 |mk (a:Addr)(cs:ww)(ps:wP)(wy:Str)(d m:D)(rows:wS)(h0:ds=[.ref a,cY ps wy,d,m])(h1:Qs t S a cs ps wy d m rows)(h2:∀(A:wS)(p:Addr),BW cs ps wy 7 d rows A->S p=none->R (.ref p) (S.set p<|.lst<|A.map ag))
theorem Cf(B:Bm mg base):Ok P w base T.plain 13 (GF t):=by obtain⟨a,cs,ps,wy,d,m,rows,e,hq,q⟩:T.plain.F.bx KA;obtain⟨F,dl,rs,hS,_⟩:=hq.v.sh;obtain⟨ld,lr,ra,h,_⟩:=id hS;refine{_,(sc (se<|aM T.eU (fV T) hr<|ac (eR (dv 0) T.aj T.aB (aL T) hr)<|al 1 an)<|sc (se<|aM T.eV (fW T) hr<|ac (eR (dv 0) T.aj T.aB (aL T) hr)<|al 2 an)<|s1<|sr<|aM T.bU (cI T B) hr<|al 0<|al 1<|al 2<|al 3 an),?_};refine !{a,_,rfl,h.ins,rfl,a,F,cs,dl,rs,rfl,hS,_,rfl,cs,ps,wy,rfl,hq.g,hq.o.tx,λ_=>?_,λz=>tf hq.o.ok z};refine !{a,_,rfl,h.ins,rfl,a,F,cs,dl,rs,rfl,hS,_,rfl,cs,d,rfl,hq.g,hq.s,?_};exact !!!!{a,cs,ps,wy,d,m,rows,rfl,hq.g,hq.o,hq.s,hq.v,hq.t,λA l pm pw hl=>fo<|q A l (Ac hq.v.rg hq.k pm pw) hl}
inductive LV(t:dY)(ds:v0)(S:aq)(R:KD)(Z:KX):Prop where
 |mk (ns:rp)(h0:ds=[.kW<|ns.map D.int])(h1:ns.length<=63)(h2:Tb t S)(h3:R (.bl true) S)
theorem OI(B:Bm mg base):Ok P w base T.law 20 (LV t):=by
 have Im:Ok P w base T.iM 5 _:=Uc (sp:=TQ) (N:=3) λn hn=>(pG T n).mono (by lia);have nY:Ok P w base T.l8 7 (X1 t):=(FR T).Nx λds S R Z h=>h.of;obtain⟨ns,e,Si,RF,q⟩:T.law.F.bx cD;refine{_,(sc (bQ (i:=1) cD.nd<|aM T.oW (El T) hr<|ac (aM T.dH (eL T) hr<|al 0<|ac di an) an)<|sc (bQ (i:=2) cD.nd<|aM T.xB (Lk T) hr<|al 1<|ac (aM T.dH (eL T) hr<|al 0<|ac di an) an)<|sc (bQ (i:=3) cD.nd<|aM T.iM Im hr<|al 1<|ac (aM T.gx (ig T) hr<|ac (aM T.dH (eL T) hr<|al 0<|ac di an)<|ac di an)<|ac (bd ba (aM T.dH (eL T) hr<|al 0<|ac di an) di) an)<|sc (sa (aM T.rF (B9 T) hr<|al 1<|ac (NS (dv 0) (o1 di)<|o1 di) an)<|gt (n:=3)<|gc (gn (i:=4) cD.nd)<|gc (gn (i:=5) cD.nd)<|gc (gn (i:=6) cD.nd) g0)<|sc (sa (aM T.rF (B9 T) hr<|al 1<|ac (NS (dv 0) (o1 di)<|o1 di) an)<|gt (n:=3)<|gc (gn (i:=7) cD.nd)<|gc (gn (i:=8) cD.nd)<|gc (gn (i:=9) cD.nd) g0)<|sc (Ba<|JS (il<|NS (dv 0) (o1 di)<|o1 di) (gn (i:=10) cD.nd)<|s1<|si (cB<|tv<|aM T.xE (LU T B) hr<|al 4<|al 5<|al 1<|al 2<|al 3<|al 10 an) (s1<|sr db) s0)<|sc (si (bi lR (cf ((Cf T B).mono<|by decide) hr T.plain.m T.plain.k T.vV d1<|al 4<|ac (aM T.turned (pK T) hr<|al 2 an)<|al 3 an)<|Wu<|cf ((Cf T B).mono<|by decide) hr T.plain.m T.plain.k T.vV d1<|al 4<|al 2<|al 3 an) (s1<|sr db) s0)<|sc (bQ (i:=11) cD.nd<|mk T.FG (B_ T) (hr.mono<|by decide) T.FF T.eQ.b d0<|al 4<|al 2<|al 3<|ac (aM T.sY (Ad T) hr<|ac (aM T.dH (eL T) hr<|al 0<|ac di an) an) an)<|sc (bQ (i:=12) cD.nd<|mk T.FG (B_ T) (hr.mono<|by decide) T.FF T.eQ.b d0<|al 7<|al 2<|al 3<|ac (aM T.sY (Ad T) hr<|ac (aM T.dH (eL T) hr<|al 0<|ac di an) an) an)<|sc (bQ (i:=13) cD.nd db)<|sc (Ba<|JS (il<|NS (dv 0) (o1 di)<|o1<|bd pT di<|bd pU di<|ct JL T.FE wU<|ac (be qG (cb a_ T.aW aI<|ac (bn (dv 5)<|DB di) an) di) an) (gn (i:=10) cD.nd)<|sc (bQ (i:=14) cD.nd<|uG<|bn (cJ<|ac ds<|ac ds<|ac ds<|ac ds<|ac ds<|ac ds<|ac ds<|ac ds<|ac ds<|ac ds an)<|bd ba (dv 10) di)<|s1<|si (bi bf (dv 14) ds) (sc (bQ (i:=15) cD.nd<|aM T.xC (B4 T) hr<|al 1<|al 6<|ac (bd bH (dv 10) di) an)<|sc (se<|aM T.l8 nY hr<|al 4<|al 15 an)<|s1<|se<|aM T.l8 nY hr<|al 7<|al 15 an)<|s1<|si (bi bf (dv 14) ds) (sc (se<|eR (dv 12) T.aw T.o_ (LN T) hr)<|s1<|bQ (i:=13) cD.nd<|RW<|dv 13)<|s1<|si (cB<|tv<|aM T.D3 (OH T B) hr<|al 11<|al 12<|al 13<|al 14 an) (s1<|sr db) s0)<|s1<|sr<|be bf (R3 (dv 4) T.aj T.dO.e ((pz T).mono<|by decide) hr T.g7 d1)<|R3 (dv 7) T.aj T.dO.e ((pz T).mono<|by decide) hr T.g7 d1),?_};refine !{ns,0,rfl,λc0 _=>{c0,rfl,λcs hcg=>?_}};have hg:=hcg.1;refine !!{ns,1,rfl,λc1 _=>{cs,c1,rfl,hg,λps wy ho=>?_}};refine !!{ns,2,rfl,λc2 _=>{c2,14,rfl,by decide,λxs lx _ Mb hx wR=>!{ns,3,rfl,λc3 _=>{by decide,?_}}}};obtain⟨m,em⟩:=Int.eq_ofNat_of_zero_le<|show 0<=c3%3 from zL _ (by decide);have hm:m<3:=by have:=zK c3 (show(0:Int)<3 by decide);lia
 refine{m+1,by lia,cs,lx,m,xs,rfl,by rw[em];rfl,hcg,aa,by lia,hx,λd ys hd hsz _ _=>?_};rw[aQ];have Mf:Sq cs d:=by have h13:qh (m+1) d<=40:=zO hsz (by rcases m with _|_|_|m<;>first|decide|lia);obtain⟨a,b⟩:=Qo hd h13<|6-m;rw[show m+1+(6-m)=7 by lia]at a b;exact{a,by lia}
 have M0:Mn t S cs [] [] S:={λ_ h=>(nomatch h),.nil,.refl _,λ_ h=>(nomatch h),λ_ h=>(nomatch h),λi j g h e=>by simp at e};have M1:=M0.sub<|Sub.new (c:=.lst<|ys.map D.int) wR;generalize S.set lx (.lst<|ys.map D.int)=S1 at M1⊢;have l16:(cn ns (some 10)<|some 26).length<=16:=Ud ns 10 16;refine !!!!⟨λp1 Ax=>{cs,p1,cn ns (some 10)<|some 26,rfl,hg,by rw[iq];exact aa,by lia,λS3 a lk lm kn ce F dl rs ek hb=>?_}⟩;have M2:=(M1.sub<|.new Ax).add hb;refine !{rfl,_,_,rfl,_,_,rfl,_,_,rfl,rfl,?_};refine !!!!⟨λp2 gD=>{cs,p2,cn ns (some 10)<|some 26,rfl,hg,by rw[iq];exact aa,by lia,λS4 a2 l2 Ue kn2 ce2 F2 ZJ PK Zw Fv=>?_}⟩;obtain rfl:kn=kn2:=ek.trans Zw.symm;clear ek Zw;have M4:=(M2.sub<|.new gD).add Fv;have ZK:=hb.sub<|(Sub.new gD).trans Fv.st.BR.sub;refine !{rfl,_,_,rfl,_,_,rfl,_,_,rfl,rfl,?_};have Ug:=RF.sub M4.fr;refine{λaG S'=>∃(Mg:wn),aG=[some<|.kW<|ns.map D.int,some<|.tup<|cs.map aD,some<|cY ps wy,some d,some<|.ref a,some<|.ref lm,some<|.ref lk,some<|.ref a2,some<|.ref Ue,some<|.ref l2,Mg,none,none,none,none,none]/\S'=S4,?_,?_};refine !!!⟨λlp UW=>{_,aa,?_}⟩;rw[iq];generalize cn ns (some 4) (some 10)=ms;have s5:=Sub.new (c:=.lst<|ms.map D.int) UW;have hl5:(S4.set lp<|.lst<|ms.map D.int) lp=_:=aa;generalize S4.set lp (.lst<|ms.map D.int)=S5 at s5 hl5⊢;refine{λi aG S'=>∃(Mg:wn),aG=[some<|.kW<|ns.map D.int,some<|.tup<|cs.map aD,some<|cY ps wy,some d,some<|.ref a,some<|.ref lm,some<|.ref lk,some<|.ref a2,some<|.ref Ue,some<|.ref l2,Mg,none,none,none,none,none]/\S'=S5,!⟨rfl⟩,?_,?_,?_};rintro i aG S' ⟨_,_,rfl⟩;exact hl5;rintro i dd aG S' hd ⟨Mg,rfl,rfl⟩;have hd:(ms.map D.int)[i]?=some dd:=hd;obtain⟨c,_,rfl⟩:=zi.mp<|zp hd;exact !!!!!!{_,a,lk,lm,cs,kn,ce,F,dl,rs,ps,wy,d,c,rfl,ZK.sub s5,hg,ho,Mf,Ug.sub s5,_,rfl,aY !⟨rfl⟩};rintro aG S' ⟨Mg,rfl,rfl⟩;exact{S4,s5,_,rfl,rfl};rintro aG S' ⟨Mg,rfl,rfl⟩;obtain⟨y,ey⟩:=hb.at (show dl.length<ce.length by have:=hb.len;lia);have ZH:=(hb.snap ey).rg.1;have Ub:Lx y.2:=(hb.snap ey).key;have hq4:Qs t S' a cs ps wy d .av y.2:={hg,ho,Mf,ZK.vn ey,Ub,Ug};refine !!{cs,ps,wy,rfl,ho,_,rfl,a,cs,ps.map tP,tW wy,d,.av,y.2,rfl,⟨hg,ho.tu,Mf,hq4.v,Ub,Ug⟩,λA' q1 AA ZL=>?_};refine !!!{a,cs,ps,wy,d,.av,y.2,rfl,hq4.sub<|.new ZL,λA q2 hA DF=>{_,aa,λq3 IG=>?_}};obtain rfl:=(hA.tu hg ho).one hg ho.tu.pin AA;rw[<-List.map_reverse];refine nG ((Sub.new IG) _ _<|(Sub.new DF) _ _ aa) aa (rK AA.an.rg AA.an.ky) !⟨aY ?_⟩;have M8:=((M4.sub<|Sub.new (c:=.lst<|A.reverse.map ag) ZL).sub<|Sub.new (c:=.lst<|A.map ag) DF).sub<|Sub.new (c:=.lst<|A.reverse.map ag) IG;have s8:=((Sub.new (c:=.lst<|A.reverse.map ag) ZL).trans<|Sub.new (c:=.lst<|A.map ag) DF).trans<|Sub.new (c:=.lst<|A.reverse.map ag) IG;generalize ((S'.set q1<|.lst<|A.reverse.map ag).set q2<|.lst<|A.map ag).set q3 (.lst<|A.reverse.map ag)=S8 at M8 s8⊢;have hM:=(ZK.sub s8).ml;have hY:=(ZK.sub s8).cell ey;have eM:=hb.end ey;have h89:=hb.le;have acU:=Fv.le;clear AA ZL DF IG hA;have o0:=M8.sh ⟨a,lk,F,dl,rs,kn⟩ (by simp);refine !!!!{ns,3,rfl,λc ec=>{c,rfl,λw1 Zn=>{w1,a,cs,ps,wy,d,t_ c,F,dl,rs,rfl,hg,ho,Mf,(ua c).1,(ua c).2,o0.1.sub<|.new Zn,aa,rfl,?_}}};rw[aQ];have M9:=M8.new Zn<|jj t.ax {w1,a,ps,wy,d,t_ c,.s,.s};have s9:=Sub.new (c:=jj t.ax {w1,a,ps,wy,d,t_ c,.s,.s}) Zn;generalize S8.set w1 (jj t.ax {w1,a,ps,wy,d,t_ c,.s,.s})=S9 at M9 s9⊢;have o1:=M9.sh ⟨a2,l2,F2,ZJ,PK,kn⟩ (by simp);refine !!!!{ns,3,rfl,λc' ec'=>{c',rfl,λw2 Nv=>{w2,a2,cs,ps,wy,d,t_ c',F2,ZJ,PK,rfl,hg,ho,Mf,(ua c').1,(ua c').2,o1.1.sub<|.new Nv,aa,rfl,?_}}};obtain rfl:c=c':=ec.trans ec'.symm;rw[aQ];have M10:=M9.new Nv<|jj t.ax {w2,a2,ps,wy,d,t_ c,.s,.s};have s10:=s9.trans<|Sub.new (c:=jj t.ax {w2,a2,ps,wy,d,t_ c,.s,.s}) Nv;generalize S9.set w2 (jj t.ax {w2,a2,ps,wy,d,t_ c,.s,.s})=S10 at M10 s10⊢;refine{λaG S'=>∃ms lp,Lw t S ns ms cs ps wy d (t_ c) a lm lk a2 Ue l2 w1 w2 lp kn ms.length aG S'/\ms.length<=30,?_,?_};refine !!!!{_,_,s10 _ _ hM,eM,_,rfl,.inl {_,s10 _ _ hY,.inr !{.inl<|by decide,_,rfl,λlp UW=>{_,aa,?_}}}};rw[iq];generalize eE:(56:Int)-18*_=E;have l30:(cn ns (some 26)<|some E).length<=30:=by subst eE;split;exact zO (Ud ns 26 12) (by decide);exact Ud ns 26 30
 clear eE;generalize cn ns (some 26) (some E)=ms at l30⊢;have M11:Mn t S cs (FL t lp lk l2 w2 a2 ms kn kn {w1,a,ps,wy,d,t_ c,.s,.s} false) [⟨a,lk,F,dl,rs,kn⟩,⟨a2,l2,F2,ZJ,PK,kn⟩] (S10.set lp<|.lst<|ms.map D.int):=(M10.new UW _).perm (List.perm_append_singleton _ _).symm;generalize S10.set lp (.lst<|ms.map D.int)=S11 at M11⊢;refine{Lw t S ns ms cs ps wy d (t_ c) a lm lk a2 Ue l2 w1 w2 lp kn,{.s,.s,false,⟨a,lk,F,dl,rs,kn⟩,⟨a2,l2,F2,ZJ,PK,kn⟩,_,_,_,rfl,⟨rfl,rfl,rfl⟩,⟨h89,acU⟩,trivial,trivial,M11},?_,?_,?_};rintro i aG S' ⟨_,_,_,_,_,_,_,_,_,_,_,_,_,M⟩;exact M.at 0 rfl;rintro i dd aG S' hd ⟨f,h,ab,g0,g1,Mg,o14,o15,rfl,⟨ea,Ym,Gi⟩,⟨PN,y4⟩,hf,hh,M⟩;have hd:(ms.map D.int)[i]?=some dd:=hd;have hi:=(zf.mp hd).1;rw[zb]at hi;obtain⟨c',_,rfl⟩:=zi.mp<|zp hd;have m0:g0∈[g0,g1]:=zj;have m1:g1∈[g0,g1]:=zg _ zj;have Mh:=M.sh g0 m0;have U5:=M.sh g1 m1;refine{XB,λp hp=>!{by decide,cH (L:=wdL) (zL _<|by decide) (zK _<|by decide) hp λd' rN=>?_}};rcases Yl rN with rfl|rfl|⟨z,rfl,n1,n2⟩;refine !!⟨SX (by trivial) ?_⟩;refine !!!⟨{by decide,by trivial},cs,lk,g0.kn,_,rfl,hg,M.at 1 rfl,Mh.2.1,λde jl _ ZC P4 U1=>?_⟩;have M2:=M.put 1 rfl<|.bY<|ij jl;generalize S'.set lk (.bY<|ij jl)=S12 at M2⊢;subst ea Ym;refine !!⟨⟨(pJ (M2.sh g0 m0).1 hg Mh.2.1 Mh.2.2 (by lia) ZC P4 λS8 F8 rs8 hS8 hK8 hR8 hold=>?_).of⟩⟩;have M3:=M2.Ox (k:=0) (g:=g0) rfl hS8 hK8 U1 (by rw[zD];exact hR8);have o3:=M3.sh g1<|zg _ zj;refine !!⟨⟨(pJ o3.1 hg U5.2.1 U5.2.2 (by lia) (by rw[Gi];exact ZC) (by rw[Gi];exact P4) λS9 F9 rs9 hS9 hK9 hR9 hold=>?_).of⟩⟩;have M4:=M3.Ox (k:=1) (g:=g1) rfl hS9 hK9 U1 (by rw[zD];exact hR9);exact{f,h,ab,{g0.a,g0.lk,F8,g0.dl++[de],rs8,jl},{g1.a,g1.lk,F9,g1.dl++[de],rs9,jl},_,_,_,rfl,⟨rfl,rfl,rfl⟩,{by rw[zD];show g0.dl.length+1<=_;lia,by rw[zD];show g1.dl.length+1<=_;lia},hf,hh,M4};refine !!⟨pA (by trivial) !!⟨SX (by trivial) ?_⟩⟩;have k2:=M.at 4 rfl;have ok:=Yk (q:={w1,a,ps,wy,d,t_ c,f,h}) ho hf hh ab;refine !{w2,_,rfl,k2,rfl,(Wk.ot {w1,a,ps,wy,d,t_ c,f,h} ab).mv w2 a2,cs,rfl,k2,ok.1,ok.2.1,ok.2.2,?_};have M2:=M.put 4 rfl<|jj t.ax ((Wk.ot {w1,a,ps,wy,d,t_ c,f,h} ab).mv w2 a2).tn;rw[Yj (cs:=cs) ho hf hh]at M2⊢;exact !!{f,h,!ab,g0,g1,_,_,_,rfl,⟨ea,Ym,Gi⟩,{by lia,by lia},hf,hh,M2};refine !!⟨pA (zo n1) !!⟨pA (zo n2) ?_⟩⟩;have HR:w1≠w2:=λe=>by have:=M.nd;simp[FL,e]at this
 have hqs:Qs t S' a cs ps wy d .av (n_ g0.kn):=by rw[<-ea];exact M.qs m0 (.refl _) hg ho Mf RF
 refine !!!!⟨{w1,a,ps,wy,d,t_ c,f,h},w2,a2,ab,z,cs,n_ g0.kn,rfl,M.at 3 rfl,M.at 4 rfl,HR,hqs,λS1 c1 b=>?_,hf,hh,λez=>?_,λz' A b e ez hA he=>?_⟩;rw[<-Ym,<-Gi];exact(M.put 3 rfl c1).qs m1 b hg ho Mf RF;exact{_,rfl,aY {f,h,ab,g0,g1,_,_,_,rfl,⟨ea,Ym,Gi⟩,{by lia,by lia},hf,hh,M}};have sg:=Yb hg ho.pin (rows:=seg A b e) (λr hr=>hA.an.rg.1 r<|gB hr) (λr hr=>hA.an.ky r<|gB hr)<|Ye (q:={w1,a,ps,wy,d,t_ c,f,h}) hf hh z';exact{_,rfl,aY {_,_,ab,g0,g1,_,_,_,rfl,⟨ea,Ym,Gi⟩,{by lia,by lia},sg.1,sg.2,(M.put 3 rfl _).put 4 rfl _}};rintro aG S' hL;rw[show({ms.map D.int,λS=>vI S (.ref lp)<|ms.map D.int}:rm).xs.length=ms.length from zb _]at hL;exact fo ⟨ms,lp,hL,l30⟩;rintro aG S11 ⟨ms,lp,⟨f,h,ab,g0,g1,Mg,o14,o15,rfl,⟨rfl,rfl,Gi⟩,⟨PN,y4⟩,hf,hh,M⟩,l30⟩;have Mh:=M.sh g0 zj;have U5:=M.sh g1<|zg _ zj;have h60:∀g∈[g0,g1],g.rs.length<64:=λg hg=>by have:=(M.sh g hg).2.2.len (M.sh g hg).1;lia
 obtain⟨ld,lr,ra,hh0,_⟩:=id Mh.1;refine !{g0.a,_,rfl,hh0.ins,rfl,g0.a,g0.F,cs,g0.dl,g0.rs,.av,rfl,Mh.1,h60 g0 zj,me,λi ss hi hp Pa p jh=>?_,λz=>by cases z};cases hi;rw[pI (ue Mh.2.1 Mh.2.2) Mh.1 hp Pa];have s12:=Sub.new (c:=.lst<|(n_ g0.kn).map ag) jh;have hP:(S11.set p<|.lst<|(n_ g0.kn).map ag) p=_:=aa;generalize S11.set p (.lst<|(n_ g0.kn).map ag)=S12 at s12 hP⊢;have oS:=U5.1.sub s12;obtain⟨ld,lr,ra,hh1,_⟩:=id oS;refine !{g1.a,_,rfl,hh1.ins,rfl,g1.a,g1.F,cs,g1.dl,g1.rs,.av,rfl,oS,h60 g1<|zg _ zj,me,λi ss hi hp Pa p2 Yn=>?_,λz=>by cases z};cases hi;rw[pI (ue U5.2.1 U5.2.2) oS hp Pa,Gi];have rg:=LQ Mh.2.1;exact nG ((Sub.new Yn) _ _ hP) aa (rK rg.1 rg.2) {S,(M.fr.trans s12).trans<|.new Yn,q}
def LW(t:dY)(K:Frag):Sp:=λvs H Q _=>rl K (LV t) vs H Q E0
theorem Uh(T:Txt w K mg t)(B:Bm mg base):bG P w K mg base YL 20 t.PQ t.Kq ["_law_script"] (LW t K):=bG.calm<|OI T B
theorem LX{w:World}{K:Frag}{mg:Str->Option Value}{t:dY}(T:Txt w K mg t){H:Hp}{a:Addr}{ns:rp}(hl:ns.length<=63)(hO:Bj t.ts H)(hS:jk K H a<|ns.map V.int):LW t K [.ref a] H (λv _=>v=.bl true) λ_ _ _=>False:=by
 have hR:Pf K H a (ns.map V.int):=by rcases hS with (h|h)|h;rcases hO.all a with q|⟨o,xs,q⟩|⟨_,q⟩;rw[q]at h;cases h;rw[q]at h;cases h;rw[q]at h;cases h;exact .inl h;exact .inr h
 have HR:t.aK≠t.aR:=λe=>by have:=T.np;rw[e]at this;simp at this
 have tok:∀q,Ff H q #[]:=λq=>{trivial,λ_ _ e=>by cases e};refine{[.kW<|ns.map D.int],λb=>if b=t.aR then some (.tab qK) else if b=t.aK then some (.tab qV) else none,λd _=>d=.bl true,λ_ _=>False,aT (JH hR<|Fe ns) bt,λb c e=>?_,{ns,rfl,hl,{if_pos rfl,(if_neg HR).trans<|if_pos rfl},rfl},λd S v H' e r _ _=>by subst e;exact r.bl,λ_ _ _ z=>z.elim};by_cases h1:b=t.aR;have e:=(if_pos h1).symm.trans e;cases e;rw[h1];exact{#[],hO.tab _ T.m7,tok _};by_cases h2:b=t.aK;have e:=(if_neg h1).symm.trans e;have e:=(if_pos h2).symm.trans e;cases e;rw[h2];exact{#[],hO.tab _ T.kJ,tok _};have e:=(if_neg h1).symm.trans e;have e:=(if_neg h2).symm.trans e;cases e
theorem Ui{P:Program}{w:World}{K:Frag}{mg:Str->Option Value}{fa:Addr}{ts:im}(Rx:mg "law"= some (.ref fa))(T:∃t:dY,t.ts=ts/\Txt w K mg t):∃(fd:FuncData) (sp:Sp),(∀b∈ts,∃c,codeHdIn K c b=true)/\(∀(s:Shared) (u:Value),BindsTo s fd {[u],[]} [("_law_script",u)])/\(∀base:Heap,Bm mg base->K.In base->base.Ns mainGlobals mg->bG P w K mg base YL 20 fa fd ["_law_script"] sp)/\∀(H:Hp) (a:Addr) (ns:rp),ns.length<=63->Bj ts H->jk K H a (ns.map V.int)->sp [.ref a] H (λv _=>v=.bl true) λ_ _ _=>False:=by obtain⟨t,et,T⟩:=T;have e0:=Rx.symm.trans T.law.m;cases e0;subst et;exact{_,_,λb hb=>(T.ta b<|hb).elim (λe=>{_,e ▸ T.dQ}) λe=>{_,e ▸ T.dj},T.bl,λbase B kb nb=>Uh T B,λH a ns hl hO hS=>LX T hl hO hS}
end My
end Tactic
open Tactic
local macro_rules|`(command|universe $xs*)=>do return Lean.mkNullNode (← (xs[0]!.getId.toString.foldl (fun (h,n,k,l) c=>let n:=n*62+(if c.isDigit then c.toNat-48 else if c.isUpper then c.toNat-55 else c.toNat-61);if k=9 then (h+n-10*62^9,0,0,l.push (h+n-10*62^9)) else (h,n,k+1,l)) (0,0,0,(#[]:Array Nat))).2.2.2.mapM fun v=>`(command|theorem $(Lean.mkIdent (.mkSimple s!"tw{v}")):ident : True:=trivial))
namespace PySem.W.Fast
universe ATsQBCxL9NANZ8odKMwdECEC7DnRUEAqnRjvBj4eAXDgrmjUaAAdIIiXHkDvAHjaFuYXvAAGy5f2LPamAXcFH2sPlIAF8ycjw6NRBrHyD3ZwCGA5Q3mO60evBASomYPzLuC30vntKXxPCGlBmOqrLYC7kdZzANRIDrWRZqXvl3Am1aBmoSx3DLJLExvOUpA175YiX4KcGhYf2tU35iA7jv69VXVnAnTyTE5MvoA9UkkNCgnJAQbcigK4kYB3wsiNCQHOB9UkoreLqkBjKz37LIsTBKc0HpV6qPCdZ30VbjFaGA8yiTwNrJAho10d3JVXESsRzPF87pD7NWp2pDqpBALpZXsz6uABfLKGrF7JArwlOiJqNbB28A4Z3O1JBEcf9Faec8A1qAHDaa6yApxgHSnNqPB4aVsUuFScACdBKtaU7YD8Fhn7VVUsFVg5dineImAlY9ExcV7LBuDhp5C3KuAGcKjZ4lmBBF1IfNfokhDlEf0LjtcUB9IaJegRJQB3nytoA5NsA1TpJEMKsCG20iPbTFE3Az4GiOJ39oGiRTO2zGnjA752lshTrwBxvrPAKeQQBE5JuPG4aIDArEW6CSP3AaxlbvjZnZES6x2AGkqaFVMV6sSVBnAPe41qjrJnAOkCFwmzAvA9iZYtPt4kARQA7o9uX4BHnQq1IS3RAHMIJY23odA4jkhhcWeRAT208HirPJBB25yCvweaA2w6ac9myEAq5GlKOTURDLoPyRosbmC1DlxqSxfVA7FnAtX1QXEfswfKIHIrCufEA2xIySB2LlJsh5veAN9dpn3wI9BxeYIHnxi2B4YatVYdWNAxNnpngOrtB0OysAP7JMAbMonnxRMVDCJET37VB9AYyl1LDsHrAMil82OTeHAw5X0BiYv2B8EJJW6hz3GltiNKgzTuCKft3xOhTFAG5n7FOBxDAkWYPvwkP0CHgAzJksVjA96n3xxFTIBtu2X7wAaqA45hJ2oU76AZ8iAcqv09IRmjybaf5FAd3h1XOD1AAXe5IxoJjcDveJHnraQ9BQAROtwGjVAbAAEGE5f8C7hfLmf0EqC21ND7FSjUAFsVYl3F27A0LfcfLlE8CDfy0BZw0VB0b4g3JdILAPboH5TLg1F17v4c3nAVAQoWQsM1DDAXpZyK8gixAvM80qrMTABgMds2m2UVA6vw2swWSKBtCQp9rqqtDM1ioci7kFC8JvqWWNt7EgXja1blEqG6S8KToZkTC2NEkad2tOAZJJHfUL1iAhKnATMHBTA3a4cdnrC9AeTTkr37hIA4qO8o1h5gCbtMcK883vCD1ysxsRTYIxwTsjao8NDCWpKHSJRWCmgSeuigvECPoJv4fsezAUkdaJy7gdA9NPN7gNXsAGZlA3KF2PAwV2CcOxJDDi3FqdcexxDJU3TK0xjLAVBmLZf6XNATsn9JDSkaAY37IztCXjBlxwcOnk8zGC4MCDuKkKA9OlItgXYOAPSGYnnvqtA1zaNfrDWVCsGlJX8ouXDatgxkkufnEdpWGaLv0GBPabRozyvNB7fuiFA3dmAHxT9v0p5jAgzSHlLmj9A6yu5PmeUcD9JANYvlTlBXX72IWflpEgPM3gj2FXA7k9zIppYmDnIW6A4C8gDHFkIo3tRZGLSonsM1jKA6bjtE2eobBaa7m9Cqp2BSZGnrGpgCBvTIu8ZpFQALdzhNHE5eCL74KHJZxgA9RifzcZN7AcaElvH36dAxYv7NVxedD7zj05EaUwAW44oYNlX7B3rrWlt1c4CXtLTYuxA5A4SsMN6LuqCrnft2Rm6VAULWVCPG9PBcpjPs8WojDoE4LnOR8AALbeWsSwKZAg73hfCyeWBbZNipsRmjDECeK3o3GKAQ9hBk2DSSAOYAB0WNXeCFyAe2WWmqCxuG0M6DZ0AUOz67Pow4BpYnz1ebc8B5iV9Ao16uAN6CpH9U8kBFPdKx5kTvAbCB9M2nD5AprX8yv9xXAXxEXPSzz3BCTrnSUZBUFNbYeOLIl7AZ1rY2YbKIC6deXlGL6DAlXlhkd24oAYLGcevFUJAsO8Nb6AqTA2eB2pytt7COY5KWDno1BYfcQGnMCpDXXIX3ADpoAZoK4uOW1MCJxnOspw6EBGfTFrAAVHAh0iEkBR8sFfTiFQjoAQHgHjrwP2kYDIZBNg6y81BcA03EJ4TrBW6UqmuC1lCwT1BFlc4hDaZ0cRjUkIAHOH4eIBvnBJB5PKJZSMBG9uvTHzAdBVV53D3VoQAGYe2jiidGA2I4ttchGJABdXpxIsPNAMxoeLRYRSFwwOr3ZhUVAAbQtgMNu3ABzT3nqi2jAYkwW7n8gmB3dXdQKSeBA4lDhFNX4wCORfi6pbAZF79nCOdon6ALXwrNMBsECb6dGjBaPwCywfmnf0NTHVy6rZluZUExAu4eNyrAEF3be6ab8gAn13jej0lDAkzGiOxAUfCR7SszyEw4AIO2ekq5BYAyLe9FBMOHAiOd9pQeauFjVdriwEphAgCmwHdTJ1BA0QdT1xXxCKXpEy2uwpAIEArqWyltH46Q3P3DAeCyixpaYVzoBy9ohIqOR0B31Tb0xrT5GlrgWiLECRAyLndJfimhDMn8vFHzHqAuSXUpYBRuBcFOKdiCQNAryHpPC2ieAFjzroz8LIAcs7vgGa6bAsL4Jsybk2BIgL79jX4sCNQ0rU1gXOBCPGK6SYCVA5l113jCubAYfibiNVG7AN3l9lcw4vCZVuUub8qqKrqpwmkGNhAMIgOFZSVGAaV9Pb2pXwD6dwDAZSmiABKSyRD2vzCHGYXKbHhRC5Ew7nkD4oB1B9ntcR1aAnTyFv7rDPAWZWqCvW44Csi1PN7y3yD7uL4Eyw1QAFV589B5YwAMqRagNsj2ArDvP6bhCaDTFY1BLCVgClNoEmNOByDnwQdCbtb1ABuI2WC2leAvpBnkMnJHA2IhmSwON5AmF43COOzIAx6NLRIM9fDxpw5nSuaYFhxfz80yP1B7WQ9eoXsiAiS5qBdUHZA92TUlbdgxAxhR1YiZr7DHFX7JCegEE9UodkuX4bDAAtIqZVFXBKVl6OIY3EA49lSM7qiFCeRFHlkHQYAvP2yIdWzDAFWQJ1VHmIAN5jN4Qmg4Dcomp5c2aoBAWiFijbWvACDkhpVigEB4qHcti4RqA7YEag5bV8AJphiCKcDtBWHPgMfC2IBsly0KeRaJDCGJ6CgTUGAnAPolFpUrAYwvoXE8K6ErpCyEB19ECBC4Ygr22LADPFvUYKnpAlWLjB3dmMCC6U67njncBz10ckF3g6Adbi73IPngCSMOkMxytSAEHv00OV48CJxh0dJ3SiBhX1zNb1FHDszj3nFscEFNOXqaaYKjBHOaKBC7OACGqRELcqMMCUr6XmnwkuAJJiRiAGOzABlfRpTkKaCxyg5UZo4ZD7joP015nWABN3y5FggcATSAAqJOAMB5n3Hfm1n0ACkS9T6vSHBEQSNgYLxKAZXZsWinXMAc0mzHWejoHNnLKuVGZoEqp7kKiopzLrwuvfUVxlAS2PCMWZNIA2T1yFfZAtFjTMGOjcxsA94gVuuBw1AhQXknq6MfDAxuTY0CO2C7jgSRODczCX6aWmjGihAEntBHBQQUDawoLsmqjBAieqszuZ5UE29jix96dHF4EFHjrhvKAYJLusZJZ7A6Kb0o6FeLAAQ4wtX4x8ESUwaAE5anArIbn025OqBp72zLWNh0CvjdFEEL2zAGJsVg1RTeBhDqBIZRGwA61OobEPz2F6lVAwYNnYEQJFiqiCROBCXam0AH0RAYhIOkQi0MAkzyVq06BjAI0RABPdxNAI7A8z9J1zIkQfyYkevYBALTFTuX7qAbEyXDCtvXAnrdRzsov6ABJYYHGbyIDcao9paxjpCTvAkxTIvNCSaplZShHOA39MvIQwlEB63eGb2zByBwk0C9u7R7C6QbpPfwpnADA9Pdkx8AAtOuu8r0H3Ccyl98QRfmBVpyz1z9Z6B9q1nXTUcWCQX56XsGTMAniGzyxkI3AJmpMLnKOuD0k0BmN7wXBqr7ZViQa8BXsB869PsNDXzMl7eJyzDnnUYoPPHSAXKkPT65P4A4eZweJBcfF9bap8itvLAQvZOHvrUPCKfbtVu8h1AdygZ8f6cMAvy7K1eXryAp1z8EG1sECKbUkVkokwA5gjXCqdf8Ba3XEacNrWBcttiDxWSeBgrQC5T9AKE5TqktAtUSDCxLudnXNEALDasIKVUSCoYyW7iq0xB0QpyqaDOTCAQAqMTn7CADWni4k7uOD1ERa36X5WAo9Bcw5duBAgmQHcXNSPA7BqHeeGcZCK2bM2S1IGCY4zHgvC1oCB4h6IBzbDKsqEK5F4L3AdzLttTQ33F21jw1DkyCA7EYtu9qRZAZgfaqy16sABb0K8Db6vBtPWF3zNsrA59bN5tvD6BkawAkisD3C2kvMrgU9GCFxbkdCDYXGvpmirtiOHAXnlzj61g9DS7qcEULjkCaBm91acbUBDJY4HNi7GA3HfufxXAACrMD4UEPh8BXJ31z6LaIAYPopSmvhHBBhd6hfUQ7ACxFO17ickBoX6XvSLInBXobiyn3QTBxIk2Y3lwKBSQXcOk2NWI6HcuASXgJGy6U6VnHgBA0O6LQxNg8ENmjEtBjuwCsgVbBcYt2BAmxR4fkHPAnke0f0OV8CcFcrSamYuB7mcffutLfBXWIGcRosMBcesgTXpILAoJ9yvOYQIBgbeWT3GvyGv8ZJt2U3AAOIUIst2GNBOAD3gFQP9KEI5OqRE6DFnybS5LovDH88CmYtIUFCPq6nqY8LMAWRtp1VM78AIljhFF2bHDyMp25S5mPAykarR9NyCDpwDAHPzTMBqmYwjgPi3ACV36r6QFJBHRDkBSpbXBuVEB875PsDPOiSrkEkOAe2cmNn13QCBNhxlwuwvAu3l8FGYBaEKabsbneg9D0uSyNbV4PHtU8RM8t0XAIFkHotxwiCc830GUnjDAkom1ITFIRCHudRnk5l0Ax1bEIkQVJAqZOCL05o2AcUycQnzytBOqPSOSjcGBvhBGmygR2BPX502uQjzAoa8UgRBvAAPYjLaeTWVBnhomfNGkPClVTjJrtcZAwRD1WaNo2AbVJ6NnRJIDUgFzD4GRPBuDoj2dVfdCBFbeDBHXDAPqV62GiidA2EJrMLcoeD6z58F2b1qANdYACn3bUAXv3aUhZ4pAoZD5iiU2ZA6GLR41VN8EKXzoDvQ0sA260ghAgJRAkBFDqnDI2Au34yvSzhNBYLAvZpZkiActK25WWE2A3IdEo7WD4Bp1VVbg7DcAycO7GBJlqAvnn3ahip9BlzsTqNRH6DOoyhlg9TDCyClUobkCcAZxbOk6SYrAIATRAoUw4CXpGFNYD4MCKu0OgFbIsAC3bEXpDSAFQfESGFMrrBBUhxAW47kCVAoUCyDoWA5YJDEK8ziBLxgamzLstDuRkwMlin9DEkVjrlDLVAeqZyC0HYqBXfXPKIUEcBgaSOeaNW7BexhlHxL4NAq5n4qs4KkAVxfKOkbrrDZAb190iXCDNDGby8ieYAoWVqgfWsKD1rwN9AtLGB3h68CSuqZGCXRxuYAESA8g3SHcVQMA08M3SThLpCuYzW0qPAGA9OhchMqTvAXqwc286vvAWBiP3P48YAiBCXA0CwpBnka6rJCr1AgH8nXcldDBQJjfbXRsVCkRRgTzte7JQgfoxWvCWAAuror01XVBWBPIsuFBoE0Tr90xOO9A4mFZ5my2TJjDE4LWeLVKtSsrY4EW6BYlsNv2WjaBAqfcVLZPcEFKhsGZAN6AbsROCBjW4CzSpwMNhMdA5gIcDYfjDC0Z7l0Pc3NCP9yZ27ESDARqrwhOSPyBe2XTBPfrCEDDSYwCPhRBHi9Xm8TFwBLdxzawtnCBSqujfXRj9AKdkTgzCiLCIBkwFsyVTAw4thB5BHfGfcHmXlLgzAZbQg9BD2ZERSIX6TMAwBgDZScvMDmAYsarxuqNxCoez49IuxKBaf6up2nwAC3HR7YJIdzBUdIT6nOrSEsQ7bAkH19AF6rC705Q2ChGK5rYlanB9IUeOqfIeCwWMGYAql0D35FoA9H1ZA3Axck0c5gCE3OPHUBuLBiPMN63R1LCFm3S0weSIA3MpLXYW2nA3dUrbOZMXCAOPW89s96D4a1jdr0O8BiVay8zezdGVAeBWR0NcBa0vJW0ozBBa6W4qT5pTAcTWfoqVNoAM793OCo9xC5PJR5uClgDJTXEZjjTTDluwa7EU6REidYQvQYHdAk2ikv10lVA6Q9wbWA4jHD5rbv1E4wAWcJ2A7GeWCCPSx5ZLwDAJDVwQ3HuKAL445hJN0KFnjMOjHPQnAITLM2oVljBIuseReJS3AV2Uv4UzwMAU8DZu3ptBCIMBzJyMUNBcdeuYxqP7E4qba9rZ3IA8kCSsRyWLE2rMZzv7YSAINhkuMitkAsOKWfbZ4UCOq3G287o7CXcgjwPWe3ClmvojUmJxBOxwLMI1fhCNT0yieDJcA8IXW1PbG1AvTmCOhgL7AEQFvPuIMLBMe8mvJTqAAPBEvc5NqdDrxyKOFl8EBR0TThjOqfAHUtGJHEwQC8pKrIgp14EHzhYZB9ijB14Yka61GNAFi5xkJE1uC7DKJdt2u9BtlQehl73YBeGh6ub1HrAW7zktrqiNB5BlQHWu2YDvqk1SsnqmFO8G1Bfi2bBCE3uDk5NIACxD6VnebLBXofFbxyO3AAgv4VrkAjEUqpCrtmwTA8UwS7clRQBfJQyYFj2fAbj4c1zRkwCZOWL5htMbBvjnwANOnHDtFkE2KSfuBthq2W86MZBOFrXZ8RWCBkoBx87Z90AfoXXlZ5L5A9j8qj5xMFDApKmmCMHzAGdJubbkDTAP7vzbcfyJAKIWYSiReBAs0po9gTqGEY7GkVQ0VpAQPD79yH80AGgGXEqT5LAJ3K2mXdOEAig5jRctRTAvU8i42ZOaEO4n4p0E9QC3E4mLJwS0HL4gLN9WDLE8VD9ifvgXBMYZXNYGKHAI4zbvWXgQHVVLZsEAIYALWh11WdOqAofGjcWKHsA6YZsIlGUJBrmbxZVvRgEFjeLHc2mzBPtdUgD0HbDvmnMqxYFXAgObW4u2rzBp2LTzZMuOA3lgPtjlwLCLjRsUYzAHAr9MvQ6UhXCdqJqoWSYiA1BrWolrfQAAYhTtC1Bn
end PySem.W.Fast
open PySem PySem.W PyProof.Rows
local macro_rules|`(tactic|trivial)=>`(tactic|(first|exact L2.UO fun _=>rfl|exact L2.ln2 fun _ _=>rfl|exact L2.Sy fun _ _ _=>rfl|exact L2.Xn fun _ _ _ _=>rfl|exact L2.Zg fun _ _ _ _ _=>rfl|exact L2.Xo fun _ _ _ _ _ _=>rfl|exact L2.Ze rfl))
set_option maxRecDepth 100000 in
set_option maxHeartbeats 0 in
theorem PySem.Challenge.cw_pageturns_k84_whole_turned_over_holds : PySem.Challenge.rw_pageturns_k84_whole_turned_over.Holds := by
 w_on;o_law;k_head;(case hw=>w_witness2)
 k_fill
 refine L2.Kf (l:=PySem.Challenge.rw_pageturns_k84_whole_turned_over) (n:=63) (k:=20) (x := "_law_script") (CX:=L2.YL) rfl (by decide) rfl ⟨rfl,by decide,by decide⟩ (fun w h Y=>PySem.W.km_in_of Y) (fun w h Y=>PySem.W.km_tabs_of Y) (fun w h Y=>L2.NH Y (by trivial)) ?tF fun _ _ _ _ z=>z
 intro w mg fa h KX G Rx
 refine My.Ui Rx ?_
 refine' L2.gvc KX G "Shelf" ?a ?b ?c ?d ?e ?f ?g fun OJ ao OL k_Shelf=>?_
 (case a|b|c|d|e|f|g=>k_is)
 refine' L2.gvc KX G "Walk" ?a ?b ?c ?d ?e ?f ?g fun Uj ax Uk k_Walk=>?_
 (case a|b|c|d|e|f|g=>k_is)
 refine' L2.afx KX G (l:=[17,18,19,20,21,22,23,24,25,26,29,30,31,32,33,34,35,41,42,43,44,45,46,47,48,49,50,51,52,53,59,60,61,62,63,64,65,68,69,70,72,78,79,80,81,82,83,84,85,86,87,88,91,96,98,99,100,101,102,103,104,105,106,107,108,109,110,111,112,113,114,115,116,117]) (top:=My.top) ?xF fun f0 g0 A0=>?zF
 case xF =>
  repeat' (refine' L2.af KX G _ (by decide) ?a ?b ?c ?d ?e ?_;(case a|b|c|d=>k_is);(case e=>trivial))
  exact L2.af0
 refine' L2.amx ao (l:=[0,1,2,3,4,5,6,7,8,13]) (q := "Shelf.") (cl:=My.br) ?xMShelf fun DX acZ EK=>?zMShelf
 case xMShelf =>
  repeat' (refine' L2.am ao _ (by decide) ?a ?b ?c ?d ?f ?e ?_;(case a|b|c|d|f=>k_is);(case e=>trivial))
  exact L2.am0
 refine' L2.amx ax (l:=[0,1,2,3,4,5,6,10,11,12,13,14]) (q := "Walk.") (cl:=My.dN) ?xMWalk fun Kr aes LY=>?zMWalk
 case xMWalk =>
  repeat' (refine' L2.am ax _ (by decide) ?a ?b ?c ?d ?f ?e ?_;(case a|b|c|d|f=>k_is);(case e=>trivial))
  exact L2.am0
 refine' L2.fnd KX G "plain" (My.top 67) ["shelf","order","sieve","moment"] ?a ?b ?c ?d ?e ?f ?g fun d0 F0 D0=>?_
 (case a|b|c|d|e=>k_is)
 (case f=>intro s us t;revert us;exact L2.Xn fun _ _ _ _=>.of_defaults rfl t rfl rfl rfl)
 (case g=>intro s us t;revert us;exact L2.abW fun _ _ _=>.of_defaults rfl t rfl rfl rfl)
 refine' L2.fnl KX G "sorted_by_keys" (My.top 71) ["rows","way"] ?a ?b ?c ?d ?e fun d1 e1 B1 F1=>?_
 (case a|b|c|d=>k_is)
 (case e=>exact L2.ln2 fun _ _=>rfl)
 refine' L2.fnl KX G "sorted_by_values" (My.top 73) ["columns","part","rows"] ?a ?b ?c ?d ?e fun d2 e2 B2 F2=>?_
 (case a|b|c|d=>k_is)
 (case e=>exact L2.Sy fun _ _ _=>rfl)
 refine' L2.fne KX G "page_on" (My.top 76) ["shelf","order","sieve","size","gap","moment"] #[.none,.none] ?a ?b ?c ?d ?e ?f fun d3 F3=>?_
 (case a|b|c|d|e=>k_is)
 (case f=>intro s us t;revert us;exact L2.Xo fun _ _ _ _ _ _=>.of_defaults rfl t rfl rfl rfl)
 refine' L2.fne KX G "page_back" (My.top 77) ["shelf","order","sieve","size","gap","moment"] #[.none,.none] ?a ?b ?c ?d ?e ?f fun d4 F4=>?_
 (case a|b|c|d|e=>k_is)
 (case f=>intro s us t;revert us;exact L2.Xo fun _ _ _ _ _ _=>.of_defaults rfl t rfl rfl rfl)
 refine' L2.fnl KX G "law" (My.top 118) ["_law_script"] ?a ?b ?c ?d ?e fun d5 e5 B5 F5=>?_
 (case a|b|c|d=>k_is)
 (case e=>exact L2.UO fun _=>rfl)
 refine' L2.fmd ao "worths_at" "Shelf.worths_at" ((L2.inClass My.br 9)) ["self","key","moment"] ?a ?b ?c ?d ?e ?f ?g ?h fun d6 F6 D6=>?_
 (case a|b|c|d|e|f=>k_is)
 (case g=>intro s us t;revert us;exact L2.Sy fun _ _ _=>.of_defaults rfl t rfl rfl rfl)
 (case h=>intro s us t;revert us;exact L2.abV fun _ _=>.of_defaults rfl t rfl rfl rfl)
 refine' L2.fmd ao "all_at" "Shelf.all_at" ((L2.inClass My.br 10)) ["self","moment"] ?a ?b ?c ?d ?e ?f ?g ?h fun d7 F7 D7=>?_
 (case a|b|c|d|e|f=>k_is)
 (case g=>intro s us t;revert us;exact L2.ln2 fun _ _=>.of_defaults rfl t rfl rfl rfl)
 (case h=>intro s us t;revert us;exact L2.abU fun _=>.of_defaults rfl t rfl rfl rfl)
 refine' L2.NP KX G "MOST_NAME_SIGNS" 8 ?a fun oa=>?_
 (case a=>k_is)
 refine' L2.NP KX G "MOST_KEY_SIGNS" 12 ?a fun pL=>?_
 (case a=>k_is)
 refine' L2.NP KX G "MOST_WORD_SIGNS" 40 ?a fun og=>?_
 (case a=>k_is)
 refine' L2.NP KX G "MOST_COLUMNS" 8 ?a fun ug=>?_
 (case a=>k_is)
 refine' L2.NP KX G "MOST_PARTS_orders" 8 ?a fun kP=>?_
 (case a=>k_is)
 refine' L2.NP KX G "MOST_DEEP" 8 ?a fun Ci=>?_
 (case a=>k_is)
 refine' L2.NP KX G "MOST_PARTS_sieves" 200 ?a fun kQ=>?_
 (case a=>k_is)
 refine' L2.NP KX G "MOST_IN_A_TUPLE" 8 ?a fun oh=>?_
 (case a=>k_is)
 refine' L2.NP KX G "MOST_ROWS" 1000 ?a fun Cj=>?_
 (case a=>k_is)
 refine' L2.gvs KX G "START" "start" ?a fun OM=>?_
 (case a=>k_is)
 refine' L2.gvs KX G "END" "end" ?a fun Yo=>?_
 (case a=>k_is)
 refine' L2.Xm KX G "KINDS" ?a ?b fun ON w_KINDS=>?_
 (case a|b=>k_is)
 refine' L2.Xm KX G "OTHER_WAY" ?a ?b fun Ck w_OTHER_WAY=>?_
 (case a|b=>k_is)
 refine' L2.Xm KX G "OTHER_END" ?a ?b fun Co w_OTHER_END=>?_
 (case a|b=>k_is)
 refine' L2.Xm KX G "OTHER_SIDE" ?a ?b fun Ah w_OTHER_SIDE=>?_
 (case a|b=>k_is)
 refine' L2.Xm KX G "LENGTHS" ?a ?b fun Io w_LENGTHS=>?_
 (case a|b=>k_is)
 have Yp:=L2.Cv KX G "len" (by k_is) id
 have Yq:=L2.Cv KX G "all" (by k_is) id
 have Yr:=L2.Cv KX G "any" (by k_is) id
 have Ai:=L2.Cv KX G "isinstance" (by k_is) id
 have OO:=L2.Cv KX G "range" (by k_is) id
 have Ys:=L2.Cv KX G "int" (by k_is) id
 have Yt:=L2.Cv KX G "str" (by k_is) id
 have Ul:=L2.Cv KX G "bool" (by k_is) id
 have OP:=L2.Cv KX G "tuple" (by k_is) id
 have Um:=L2.Cv KX G "dict" (by k_is) id
 have Yu:=L2.Cv KX G "set" (by k_is) id
 have Yv:=L2.Cv KX G "zip" (by k_is) id
 have LZ:=L2.Cv KX G "sorted" (by k_is) id
 have Yw:=L2.Cv KX G "min" (by k_is) id
 have Yx:=L2.Cv KX G "max" (by k_is) id
 have EL:=L2.Cv KX G "reversed" (by k_is) id
 refine' L2.NQ KX G "BadColumns" ?a ?b fun Aj dP=>?_
 (case a=>k_is)
 (case b=>k_exc)
 refine' L2.NQ KX G "BadRow" ?a ?b fun L3 hG=>?_
 (case a=>k_is)
 (case b=>k_exc)
 refine' L2.NQ KX G "BadOrder" ?a ?b fun EM dA=>?_
 (case a=>k_is)
 (case b=>k_exc)
 refine' L2.NQ KX G "BadSieve" ?a ?b fun EN iD=>?_
 (case a=>k_is)
 (case b=>k_exc)
 refine' L2.NQ KX G "BadPlace" ?a ?b fun EO dD=>?_
 (case a=>k_is)
 (case b=>k_exc)
 refine' L2.NQ KX G "BadSize" ?a ?b fun Iq oP=>?_
 (case a=>k_is)
 (case b=>k_exc)
 refine' L2.NQ KX G "HasKey" ?a ?b fun L4 sU=>?_
 (case a=>k_is)
 (case b=>k_exc)
 refine' L2.NQ KX G "NoKey" ?a ?b fun OQ xr=>?_
 (case a=>k_is)
 (case b=>k_exc)
 refine' L2.NQ KX G "NoMoment" ?a ?b fun ER l4=>?_
 (case a=>k_is)
 (case b=>k_exc)
 have qU:=L2.NR ao "columns" (by k_is) id
 have vd:=L2.NR ao "deeds" (by k_is) id
 have Al:=L2.NR ao "runs" (by k_is) id
 have Am:=L2.NR ax "shelf" (by k_is) id
 have Ao:=L2.NR ax "order" (by k_is) id
 have Ap:=L2.NR ax "sieve" (by k_is) id
 have Cp:=L2.NR ax "size" (by k_is) id
 have Cq:=L2.NR ax "fore" (by k_is) id
 have ve:=L2.NR ax "hinder" (by k_is) id
 refine' L2.gvm KX e1 ?a ?b ?c fun pM=>?_
 (case a=>k_is)
 (case b=>rfl)
 (case c=>first|rfl|decide|simp [codeHdIn])
 refine' L2.gvm KX e2 ?a ?b ?c fun mr=>?_
 (case a=>k_is)
 (case b=>rfl)
 (case c=>first|rfl|decide|simp [codeHdIn])
 exact⟨⟨_,_,_,_,_,_,_,_,_,_,_,_,_,_,_,_,_,_,_,_,_,_,_,_,_,_,_,_,_,_,_,_,_,_,_,_,_,_,_,_,_,_,_,_,_,_,_,_,_,_,_,_,_,_⟩,rfl,⟨A0,EK,LY,F0,D0,F1,F2,F3,F4,F5,F6,D6,F7,D7,oa,pL,og,ug,kP,Ci,kQ,oh,Cj,OM,Yo,ON,fun H=>L2.Pg (xs:=[.str "number",.str "word"]) ⟨_,_,_,w_KINDS,rfl,rfl,(by rw[yf];show 2≤16777216;decide),.cons ⟨_,rfl⟩ (.cons ⟨_,rfl⟩ (.nil))⟩ (L2.wZ ["number","word"]),Ck,⟨by first|rfl|decide,_,_,_,w_OTHER_WAY,⟨rfl,rfl,rfl⟩,rfl,.cons ⟨rfl,⟨_,rfl⟩,⟨_,rfl⟩⟩ (.cons ⟨rfl,⟨_,rfl⟩,⟨_,rfl⟩⟩ (.nil)),by trivial⟩,Co,⟨by first|rfl|decide,_,_,_,w_OTHER_END,⟨rfl,rfl,rfl⟩,rfl,.cons ⟨rfl,⟨_,rfl⟩,⟨_,rfl⟩⟩ (.cons ⟨rfl,⟨_,rfl⟩,⟨_,rfl⟩⟩ (.nil)),by trivial⟩,Ah,⟨by first|rfl|decide,_,_,_,w_OTHER_SIDE,⟨rfl,rfl,rfl⟩,rfl,.cons ⟨rfl,⟨_,rfl⟩,⟨_,rfl⟩⟩ (.cons ⟨rfl,⟨_,rfl⟩,⟨_,rfl⟩⟩ (.nil)),by trivial⟩,Io,⟨by first|rfl|decide,_,_,_,w_LENGTHS,⟨rfl,rfl,rfl⟩,rfl,.cons ⟨rfl,⟨_,rfl⟩,⟨_,rfl⟩⟩ (.cons ⟨rfl,⟨_,rfl⟩,⟨_,rfl⟩⟩ (.cons ⟨rfl,⟨_,rfl⟩,⟨_,rfl⟩⟩ (.cons ⟨rfl,⟨_,rfl⟩,⟨_,rfl⟩⟩ (.cons ⟨rfl,⟨_,rfl⟩,⟨_,rfl⟩⟩ (.cons ⟨rfl,⟨_,rfl⟩,⟨_,rfl⟩⟩ (.cons ⟨rfl,⟨_,rfl⟩,⟨_,rfl⟩⟩ (.cons ⟨rfl,⟨_,rfl⟩,⟨_,rfl⟩⟩ (.cons ⟨rfl,⟨_,rfl⟩,⟨_,rfl⟩⟩ (.nil))))))))),by trivial⟩,Yp,Yq,Yr,Ai,OO,Ys,Yt,Ul,OP,Um,Yu,Yv,LZ,Yw,Yx,EL,Aj,dP,L3,hG,EM,dA,EN,iD,EO,dD,Iq,oP,L4,sU,OQ,xr,ER,l4,OJ,ao,⟨OL,(EK 0 (by decide)).e.at_,(EK 0 (by decide)).e.fn,k_Shelf⟩,qU,vd,Al,Uj,ax,⟨Uk,(LY 0 (by decide)).e.at_,(LY 0 (by decide)).e.fn,k_Walk⟩,Am,Ao,Ap,Cp,Cq,ve,e1,pM,by simp,e2,mr,by simp,by simp,by simp,fun s v=>B5 s [v] rfl⟩⟩
