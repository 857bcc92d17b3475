import PyProof.Rows.All
import Wide.All
import OpenK.AllK
import Wide.FinOn
import Lean
import PyProof.EqAt
import PyProof.EqKinds
import PyProof.TupleCall
import PyProof.NsDelKeeps
import KE.KIsBytes
import PyProof.Rows.SetFrom
import KE.KDictOf
import PyProof.AttrMissSeq
import PyProof.WalksMore
import PyProof.ZipIter
import PyProof.StrBlock2
import PyProof.StrBlockI
import PyProof.Rows.StrJoin2
import PyProof.Rows.CountFlat
import PyProof.Rows.Range3
import PyProof.SumWalkG
import PyProof.Rows.ListMulArg
import PyProof.FactsAll.tuple
import PyProof.EnumFor
import PyProof.EnumMake
import KE.KDictLaws
import KE.KDictSum
import KE.KRevIter
import PyProof.Rows.SortStr
import PyProof.Rows.SortWalk
import PyProof.AutoListH
import PyProof.StrLawsReplace
import PyProof.Rows.SortShellK
import KE.KLam
import KE.KSortKey
import KE.KNestM
import PyProof.EnumStmt
import PyProof.ListMulRoad
import PySem.Challenge.RW_pageturns_k32_gaps_and_stretches
set_option compiler.extract_closed false
set_option hygiene false in
local macro_rules|`(tactic|obtain $p:rcasesPatMed)=>`(tactic|(rintro _ _ _ _ _ _ _ S R Z hr ($p:rcasesPatMed);subst e))
local macro_rules|`(tactic| trivial)=>`(tactic| decide +kernel)
set_option Elab.async false
set_option linter.all false
set_option maxRecDepth 100000
set_option genInjectivity false
set_option genSizeOfSpec false
namespace Tactic
theorem qQQ(h:True:=by rfl):True:=h
def qQJ:Lean.Syntax:=qQQ._auto_1
theorem qQX(h:True:=by decide):True:=h
def qQZ:Lean.Syntax:=qQX._auto_1
theorem qQK(h:True:=by intro _;rfl):True:=h
def qQ0:Lean.Syntax:=qQK._auto_1
theorem qQ1(h:True:=by with_unfolding_all rfl):True:=h
def qQ2:Lean.Syntax:=qQ1._auto_1
theorem qQ3(h:True:=by exact⟨rfl,rfl,rfl,rfl⟩):True:=h
def qQ4:Lean.Syntax:=qQ3._auto_1
theorem qQ5(h:True:=by first|exact .inl rfl|exact .inr rfl|assumption):True:=h
def qQ6:Lean.Syntax:=qQ5._auto_1
theorem qQ7(h:True:=by first|exact .inl rfl|exact .inr rfl):True:=h
def qQ8:Lean.Syntax:=qQ7._auto_1
theorem qQ9(h:True:=by intro _ _ _ _ _;exact{Or.inl rfl,rfl}):True:=h
def qJQ:Lean.Syntax:=qQ9._auto_1
theorem qJJ(h:True:=by first|decide|omega):True:=h
def qJX:Lean.Syntax:=qJJ._auto_1
theorem qJZ(h:True:=by first|exact Or.inl rfl|exact Or.inr rfl):True:=h
def qJK:Lean.Syntax:=qJZ._auto_1
theorem qJ0(h:True:=by intro _ _ _ _ _;rfl):True:=h
def qJ1:Lean.Syntax:=qJ0._auto_1
theorem qJ2(h:True:=by trivial):True:=h
def qJ3:Lean.Syntax:=qJ2._auto_1
local macro_rules|`({$a:term})=>`(⟨$a⟩)|`({$a:term,$b:term,*})=>`(⟨$a,$b,*⟩)
local macro_rules|`(!$t)=>do{let mut t:=t;let mut n:=1;for _ in [0:20] do{if let `(!$u):=t then{t:=u;n:=n+1}};let xs←(match t with|`(⟨$x,*⟩)=>pure x.getElems|`({$x:term,$y:term,*})=>pure (#[x]++y.getElems)|_=>Lean.Macro.throwUnsupported);let mut a:=xs;for _ in [0:n] do{a:=#[←`(_),←`(rfl)]++a};`(⟨$a,*⟩)}
open PySem.W (instObj methodObj hideAll hideAll_get of_hideAll Frag lookIn plainGet hasDictIn findIn handedIn plainGet_of isFn plainOver takerIn makesIn emptyDict specialIn keepIn mroIn kitOne kia_one kitx_list fnOf codeIn excIn callWith_K methodCall_KW envX kla_fn codeHdIn tabObj codeHd_of_K nsIn mg_of)
theorem za:type_of%@PySem.Heap.get?_push_of_some:=@PySem.Heap.get?_push_of_some
theorem zb:type_of%@List.length_map:=@List.length_map
theorem zc:type_of%@PySem.wpAny_bind:=@PySem.wpAny_bind
theorem zd:type_of%@List.getElem?_eq_some_iff:=@List.getElem?_eq_some_iff
theorem ze:type_of%@Bool.false_ne_true:=@Bool.false_ne_true
theorem zf:type_of%@List.getElem?_eq_getElem:=@List.getElem?_eq_getElem
theorem zg:type_of%@List.getElem?_map:=@List.getElem?_map
theorem zh:type_of%@List.mem_cons_of_mem:=@List.mem_cons_of_mem
theorem zi:type_of%@List.mem_map:=@List.mem_map
theorem zj:type_of%@List.mem_cons:=@List.mem_cons
theorem zk:type_of%@PySem.Heap.get?_push_size:=@PySem.Heap.get?_push_size
theorem zm:type_of%@PySem.wpAny_pure:=@PySem.wpAny_pure
theorem zo:type_of%@List.size_toArray:=@List.size_toArray
theorem zp:type_of%@List.mem_cons_self:=@List.mem_cons_self
theorem zq:type_of%@Nat.le_refl:=@Nat.le_refl
theorem zr:type_of%@Nat.lt_of_lt_of_le:=@Nat.lt_of_lt_of_le
theorem zt:type_of%@decide_eq_false:=@decide_eq_false
theorem zu:type_of%@decide_eq_true:=@decide_eq_true
theorem zw:type_of%@PySem.Heap.lt_size:=@PySem.Heap.lt_size
theorem zx:type_of%@List.mem_of_getElem?:=@List.mem_of_getElem?
theorem zy:type_of%@List.map_map:=@List.map_map
theorem zA:type_of%@List.map_cons:=@List.map_cons
theorem zB:type_of%@Nat.ne_of_lt:=@Nat.ne_of_lt
theorem zC:type_of%@of_decide_eq_true:=@of_decide_eq_true
theorem zD:type_of%@Nat.le_trans:=@Nat.le_trans
theorem zE:type_of%@List.length_append:=@List.length_append
theorem zG:type_of%@List.mem_append_right:=@List.mem_append_right
theorem zH:type_of%@List.getD_eq_getElem?_getD:=@List.getD_eq_getElem?_getD
theorem zI:type_of%@Bool.and_eq_true:=@Bool.and_eq_true
theorem zJ:type_of%@List.map_append:=@List.map_append
theorem zK:type_of%@List.mem_singleton:=@List.mem_singleton
theorem zL:type_of%@Int.emod_lt_of_pos:=@Int.emod_lt_of_pos
theorem zM:type_of%@List.not_mem_nil:=@List.not_mem_nil
theorem zN:type_of%@PySem.F.plainAttrs_list:=@PySem.F.plainAttrs_list
theorem zO:type_of%@Int.emod_nonneg:=@Int.emod_nonneg
theorem zP:type_of%@List.mem_append:=@List.mem_append
theorem zQ:type_of%@List.length_cons:=@List.length_cons
theorem zR:type_of%@decide_eq_true_eq:=@decide_eq_true_eq
theorem zS:type_of%@List.map_congr_left:=@List.map_congr_left
theorem zT:type_of%@Nat.zero_le:=@Nat.zero_le
theorem zU:type_of%@Option.some.inj:=@Option.some.inj
theorem zV:type_of%@List.mem_range:=@List.mem_range
theorem zW:type_of%@Bool.false_and:=@Bool.false_and
theorem zX:type_of%@PySem.F.slot_list_append:=@PySem.F.slot_list_append
theorem zY:type_of%@PySem.F.type_list_append:=@PySem.F.type_list_append
theorem zZ:type_of%@of_decide_eq_false:=@of_decide_eq_false
theorem z0:type_of%@Array.length_toList:=@Array.length_toList
theorem ya:type_of%@PySem.wpAny_field:=@PySem.wpAny_field
theorem yb:type_of%@List.all_eq_true:=@List.all_eq_true
theorem yc:type_of%@List.find?_cons:=@List.find?_cons
theorem yd:type_of%@PySem.Heap.size_push:=@PySem.Heap.size_push
theorem ye:type_of%@Bool.true_and:=@Bool.true_and
theorem yf:type_of%@List.lookup_cons:=@List.lookup_cons
theorem yg:type_of%@PySem.sizeLine_eq:=@PySem.sizeLine_eq
theorem yh:type_of%@List.mem_filter:=@List.mem_filter
theorem yi:type_of%@List.drop_eq_getElem_cons:=@List.drop_eq_getElem_cons
theorem yj:type_of%@PySem.wpAny_newObj_type:=@PySem.wpAny_newObj_type
theorem yk:type_of%@List.nodup_cons:=@List.nodup_cons
theorem ym:type_of%@List.length_filter_le:=@List.length_filter_le
theorem yn:type_of%@PySem.mem_of_lookup:=@PySem.mem_of_lookup
theorem yo:type_of%@List.filter_sublist:=@List.filter_sublist
theorem yp:type_of%@List.length_take:=@List.length_take
theorem yq:type_of%@List.filter_cons:=@List.filter_cons
theorem yr:type_of%@List.mem_append_left:=@List.mem_append_left
theorem yt:type_of%@List.getElem?_of_mem:=@List.getElem?_of_mem
theorem yu:type_of%@Bool.eq_iff_iff:=@Bool.eq_iff_iff
theorem yw:type_of%@decide_eq_false_iff_not:=@decide_eq_false_iff_not
theorem yx:type_of%@Nat.ne_of_gt:=@Nat.ne_of_gt
theorem yy:type_of%@PySem.Heap.get?_update_other:=@PySem.Heap.get?_update_other
theorem yz:type_of%@List.take_length:=@List.take_length
theorem yA:type_of%@PySem.wpAny_truthy_bool:=@PySem.wpAny_truthy_bool
theorem yB:type_of%@PySem.Heap.get?_update_self:=@PySem.Heap.get?_update_self
theorem yC:type_of%@PySem.F.slot_dict_get:=@PySem.F.slot_dict_get
theorem yD:type_of%@PySem.Obj.data_mapFields:=@PySem.Obj.data_mapFields
theorem yE:type_of%@Nat.lt_irrefl:=@Nat.lt_irrefl
theorem yF:type_of%@PySem.Heap.SameBut.update:=@PySem.Heap.SameBut.update
theorem yG:type_of%@List.length_reverse:=@List.length_reverse
theorem yH:type_of%@Nat.le_of_lt:=@Nat.le_of_lt
theorem yI:type_of%@PySem.Calls.spliced_cons:=@PySem.Calls.spliced_cons
theorem yJ:type_of%@PySem.wpAny_call_entry:=@PySem.wpAny_call_entry
theorem yK:type_of%@PySem.wpAny_holding:=@PySem.wpAny_holding
theorem yL:type_of%@PySem.wpAny_mono:=@PySem.wpAny_mono
theorem yM:type_of%@List.foldl_cons:=@List.foldl_cons
theorem yN:type_of%@PySem.Paired.length:=@PySem.Paired.length
theorem yO:type_of%@decide_eq_decide:=@decide_eq_decide
theorem yP:type_of%@Sum.inr.inj:=@Sum.inr.inj
theorem yQ:type_of%@PySem.codeAny_builtin:=@PySem.codeAny_builtin
theorem yR:type_of%@List.any_cons:=@List.any_cons
theorem yS:type_of%@PySem.wpAny_setField:=@PySem.wpAny_setField
theorem yT:type_of%@Nat.le_succ:=@Nat.le_succ
theorem yU:type_of%@List.map_nil:=@List.map_nil
theorem yV:type_of%@PySem.codeAny_mono:=@PySem.codeAny_mono
theorem yW:type_of%@Bool.false_or:=@Bool.false_or
theorem yX:type_of%@PySem.wpAny_rule:=@PySem.wpAny_rule
theorem yY:type_of%@PySem.wpAny_of_eq:=@PySem.wpAny_of_eq
namespace L2
open PySem PySem.Spec PyProof.Rows
abbrev Key:=Sum Int Str
def keyIs:Key->Value->Bool|.inl k,v=>Value.isInt k v|.inr x,v=>Value.isStrOf x v
def WQ(w:World):Key->Int|.inl k=>hashInt k|.inr x=>hashStr w x
theorem bC:∀{k:Key}{v:Value},keyIs k v=true->(∃i t,k=Sum.inl i/\v=Value.int i t)\/(∃x t,k=Sum.inr x/\v=Value.str x t)|.inl i,v,h=>(by obtain⟨t,e⟩:=Value.isInt_shape (k:=i) (v:=v) h;exact .inl ⟨i,t,rfl,e⟩)|.inr x,v,h=>by obtain⟨t,e⟩:=Value.isStrOf_shape (x:=x) (v:=v) h;exact .inr ⟨x,t,rfl,e⟩
theorem EF(i:Int)(t:Tok):keyIs (.inl i) (.int i t)=true:=by simp[keyIs,Value.isInt]
theorem EG(x:Str)(t:Tok):keyIs (.inr x) (.str x t)=true:=by simp[keyIs,Value.isStrOf]
theorem NR(a b:Int):decide ((Sum.inl a:Key)=Sum.inl b)=(a==b):=by by_cases e:a=b;subst e;simp;have h:¬(Sum.inl a:Key)=Sum.inl b:=λq=>e<|Sum.inl.inj q;rw[zt h];exact(beq_eq_false_iff_ne.mpr e).symm
theorem NS(a b:Str):decide ((Sum.inr a:Key)=Sum.inr b)=decide (a=b):=by by_cases e:a=b;subst e;simp;have h:¬(Sum.inr a:Key)=Sum.inr b:=λq=>e<|yP q;rw[zt h,zt e]
theorem NT(a:Int)(b:Str):decide ((Sum.inl a:Key)=Sum.inr b)=false:=zt λq=>nomatch q
theorem NU(a:Str)(b:Int):decide ((Sum.inr a:Key)=Sum.inl b)=false:=zt λq=>nomatch q
def aE(prog:Program)(w:World):PySem.KeyKind prog w Key where
 is:=keyIs
 hash:=WQ w
 inj:=λv a b ha hb=>by
  rcases bC ha with⟨i,t,rfl,rfl⟩|⟨x,t,rfl,rfl⟩
  ·rcases bC hb with⟨j,u,rfl,e⟩|⟨y,u,rfl,e⟩
   ·injection e with e1 _;rw[e1]
   ·exact nomatch e
  ·rcases bC hb with⟨j,u,rfl,e⟩|⟨y,u,rfl,e⟩
   ·exact nomatch e
   ·injection e with e1 _;rw[e1]
 byValue:=λk v h=>by
  rcases bC h with⟨i,t,rfl,rfl⟩|⟨x,t,rfl,rfl⟩<;>rfl
 pyHash:=λhv h=>by
  rcases bC hv with⟨i,t,rfl,rfl⟩|⟨x,t,rfl,rfl⟩
  ·exact wpAny_pyHash_int h
  ·exact wpAny_pyHash_str h
 eqBool:=λhu hv h=>by
  rcases bC hu with⟨i,t,rfl,rfl⟩|⟨x,t,rfl,rfl⟩
  ·rcases bC hv with⟨j,u,rfl,rfl⟩|⟨y,u,rfl,rfl⟩
   ·rw[NR]at h;exact wpAny_eqBool_int h
   ·rw[NT]at h;exact SeqAt.EqAt.int_str i t y u _ _ _ _ h
  ·rcases bC hv with⟨j,u,rfl,rfl⟩|⟨y,u,rfl,rfl⟩
   ·rw[NU]at h;exact SeqAt.EqAt.str_int x t j u _ _ _ _ h
   ·rw[NS]at h;exact wpAny_eqBool_str h
 «strs»:=λk x t v h=>by
  rcases bC h with⟨i,u,rfl,e⟩|⟨y,u,rfl,e⟩
  ·exact nomatch e
  ·injection e with e1 _
   subst e1
   cases v<;>rfl
theorem xx(prog:Program)(w:World)(i:Int)(t:Tok):(aE prog w).is (.inl i) (.int i t)=true:=EF i t
theorem jd(prog:Program)(w:World)(x:Str)(t:Tok):(aE prog w).is (.inr x) (.str x t)=true:=EG x t
set_option genInjectivity true in
set_option genSizeOfSpec true in
inductive V where
 |au|bl (b:Bool)|int (i:Int)|str (x:Str)|Dd (b:Array UInt8)|GG (b:UInt64)|ref (a:Addr)|ty (n:String)
 deriving DecidableEq
def RelV:V->Value->Prop|.au,u=>u=Value.none|.bl b,u=>u=Value.bool b|.int i,u=>∃t,u=Value.int i t|.str x,u=>∃t,u=Value.str x t|.Dd b,u=>∃t,u=Value.bytes b t|.GG b,u=>∃t,u=Value.float b t|.ref a,u=>u=Value.ref a|.ty n,u=>u=Value.type n
abbrev Vals:List V->List Value->Prop:=Paired RelV
theorem Vals.length{xs:List V}{us:List Value}(r:Vals xs us):xs.length=us.length:=yN r
theorem Vals.get:∀{xs:List V}{us:List Value}{i:Nat}{x:V},Vals xs us->xs[i]?=some x->∃u,us[i]?=some u/\RelV x u|_,_,_,_,.nil,e=>by simp at e|_,_,0,_,.cons r _,e=>by simp at e;subst e;exact{_,rfl,r}|_,_,i+1,x,.cons _ t,e=>by obtain⟨u,h1,h2⟩:=Vals.get (i:=i) (x:=x) t (by simpa using e);exact{u,by simpa using h1,h2}
theorem Vals.set(r:RelV x u):∀{xs:List V}{us:List Value}(i:Nat),Vals xs us->Vals (xs.set i x) (us.set i u)|_,_,_,.nil=>.nil|_,_,0,.cons _ t=>.cons r t|_,_,i+1,.cons q t=>.cons q<|Vals.set r i t
theorem Vals.append:∀{xs ys:List V}{us ws:List Value},Vals xs us->Vals ys ws->Vals (xs++ys) (us++ws)|_,_,_,_,.nil,s=>s|_,_,_,_,.cons r t,s=>.cons r<|Vals.append t s
theorem Vals.take:∀{xs:List V}{us:List Value}(n:Nat),Vals xs us->Vals (xs.take n) (us.take n)|_,_,0,_=>.nil|_,_,_+1,.nil=>.nil|_,_,n+1,.cons r t=>.cons r<|Vals.take n t
theorem Vals.drop:∀{xs:List V}{us:List Value}(n:Nat),Vals xs us->Vals (xs.drop n) (us.drop n)|_,_,0,r=>r|_,_,_+1,.nil=>.nil|_,_,n+1,.cons _ t=>Vals.drop n t
def fO:Option V->Option Value->Prop|some v,some u=>RelV v u|none,none=>True|_,_=>False
def KV{κ:Type} : List (κ×V)->List (κ×Value)->Prop:=Paired λ(p:κ×V)(q:κ×Value)=>p.1=q.1/\RelV p.2 q.2
def kV:Key->V|.inl i=>.int i|.inr x=>.str x
set_option genInjectivity true in
set_option genSizeOfSpec true in
inductive HO where
  |lst (xs:List V)
  |tup (xs:List V)
  |dK (kvs:List<|Key×V)|dT (kvs:List<|List Key×V)
  |set (S:Int->Bool) (n:Nat)
  |ins (C dx:Addr) (fs:List<|Str×V)
  |own (x:Addr)
  |xd (fs:List<|Str×V)
  |met (f x:Addr)
  |VO (lo hi:Int)
  |k_ (o:Obj) (u:HO)
  |qo (ps:Array Value)
  |ext (φ:Heap->Prop)
abbrev Hp:=Addr->Option HO
noncomputable def upd(H:Hp)(a:Addr)(o:HO):Hp:=λb=>if b=a then some o else H b
theorem aD{H:Hp}{a:Addr}{o:HO} : upd H a o a=some o:=by unfold upd;rw[if_pos rfl]
theorem ax{H:Hp}{a b:Addr}{o:HO}(h:b≠a):upd H a o b=H b:=by unfold upd;rw[if_neg h]
theorem aC{H:Hp}{a b:Addr}{o:HO}(h:H a=some o)(h':H b=none):a≠b:=by intro e;subst e;rw[h]at h';cases h'
def ie(h:Heap)(a:Addr)(items:Array Value):Prop:=∃o,h.get? a=some o/\o.cls=.type "tuple"/\o.dict=none/\∃n,o.data=.seq items n
theorem ie.tup(x:ie h a items):IsTup h a items:=by obtain⟨o,e,c,_,n,d⟩:=x;exact⟨o,e,c,n,d⟩
theorem ie.lt(x:ie h a items):a<h.objs.size:=x.tup.lt
theorem ie.new(h:Heap)(items:Array Value):ie (h.push {cls:=.type "tuple",data:=.seq items}) h.objs.size items:={_,zk _ rfl,rfl,rfl,_,rfl}
section
variable(P:Program)(w:World)
def bt(H:Hp)(h:Heap)(a:Addr):HO->Prop|.lst xs=>xs.length<=sizeLine/\∃(az:List Value) (n:Nat),Vals xs az/\h.get? a=some {cls:=.type "list",data:=.seq az.toArray n}|.tup xs=>xs.length<=sizeLine/\∃az:List Value,Vals xs az/\ie h a az.toArray|.dK kvs=>kvs.length<=sizeLine/\(a==sysModules)=false/\∃vs,KV kvs vs/\h.DictOf (aE P w) a vs|.dT _=>False|.set S n=>h.SetOf (intKind P w) a S n|.ins C dx fs=>H dx=some (.own a)/\fs.length<=1000/\dx≠a/\h.get? a=some (instObj C dx)/\∃mA,h.Ns1 dx mA/\(∀f,fO (fs.lookup f)<|mA f)/\PySem.Within mA (fs.map (·.1))|.own _=>∃o,h.get? a=some o|.xd fs=>∃mA,h.Ns1 a mA/\∀f,fO (fs.lookup f) (mA f)|.VO lo hi=>∃t u v,h.get? a=some {cls:=.type "range",data:=.fields #[.int lo t,.int hi u,.int 1 v]}|.k_ o u=>h.get? a=some o/\bt H h a u|.qo ps=>h.get? a=some {cls:=.none,data:=.fields ps}|.met f x=>h.get? a=some (methodObj (.ref f)<|.ref x)|.ext φ=>φ h/\(∃o,h.get? a=some o)/\∀h1 h2:Heap,φ h1->(∀o,h1.get? a=some o->h2.get? a=some o)->φ h2
def lg(H:Hp)(h:Heap):Prop:=∀a o,H a=some o->bt P w H h a o
end
section
variable{P:Program}{w:World}{H H':Hp}{h h':Heap}{a:Addr}{o:HO}
theorem bt.lt(x:bt P w H h a o):a<h.objs.size:=by cases o with|lst xs=>(obtain⟨_,_,_,_,e⟩:=x;exact zw e)|tup xs=>(obtain⟨_,_,_,p⟩:=x;exact p.lt)|dK kvs=>(obtain⟨_,_,_,_,o,_,_,e,_⟩:=x;exact zw e)|dT kvs=>exact False.elim x|set S n=>(obtain⟨o,_,_,_,e,_⟩:=x;exact zw e)|ins C dx fs=>(obtain⟨_,_,_,e,_⟩:=x;exact zw e)|own y=>(obtain⟨_,e⟩:=x;exact zw e)|xd fs=>(obtain⟨_,⟨_,_,_,e,_⟩,_⟩:=x;exact zw e)|VO lo hi=>(obtain⟨_,_,_,e⟩:=x;exact zw e)|k_ ob u=>(obtain⟨e,_⟩:=x;exact zw e)|qo ps=>exact zw (show h.get? a=some _ from x)|met f y=>exact zw (show h.get? a=some _ from x)|ext φ=>obtain⟨_,⟨_,e⟩,_⟩:=x;exact zw e
theorem bt.pO(x:bt P w H h a o)(k:∀b u,(b=a\/H b=some (.own a))->h.get? b=some u->h'.get? b=some u) (ho:∀b,H b=some (.own a)->H' b=some (.own a)) (ht:∀b xs,H b=some (.tup xs)->H' b=some (.tup xs)):bt P w H' h' a o:=by induction o with|lst xs=>(obtain⟨z,az,n,r,e⟩:=x;exact{z,az,n,r,k _ _ (.inl rfl) e})|tup xs=>(obtain⟨z,az,r,ob,e,c⟩:=x;exact{z,az,r,ob,k _ _ (.inl rfl) e,c})|dK kvs=>(obtain⟨z,y,vs,r,ob,es,ep,e,c⟩:=x;exact{z,y,vs,r,ob,es,ep,k _ _ (.inl rfl) e,c})|dT kvs=>exact False.elim x|set S n=>(obtain⟨ob,es,ep,t,e,c⟩:=x;exact{ob,es,ep,t,k _ _ (.inl rfl) e,c})|ins C dx fs=>(obtain⟨d,z,ne,e,mA,⟨od,es,ep,e2,c⟩,r⟩:=x;exact{ho _ d,z,ne,k _ _ (.inl rfl) e,mA,{od,es,ep,k _ _ (.inr d) e2,c},r})|own y=>(obtain⟨ob,e⟩:=x;exact{ob,k _ _ (.inl rfl) e})|xd fs=>(obtain⟨mA,⟨od,es,ep,e,c⟩,r⟩:=x;exact{mA,{od,es,ep,k _ _ (.inl rfl) e,c},r})|VO lo hi=>(obtain⟨t,u,v,e⟩:=x;exact{t,u,v,k _ _ (.inl rfl) e})|k_ ob u ih=>(obtain⟨e,q⟩:=x;exact{k _ _ (.inl rfl) e,ih q})|qo ps=>have e:h.get? a=some {cls:=.none,data:=.fields ps}:=x;show h'.get? a=some {cls:=.none,data:=.fields ps};exact k a _ (.inl rfl) e|met f y=>have e:h.get? a=some (methodObj (.ref f)<|.ref y):=x;show h'.get? a=some (methodObj (.ref f)<|.ref y);exact k a _ (.inl rfl) e|ext φ=>obtain⟨p,⟨o,e⟩,st⟩:=x;exact{st _ _ p λo q=>k _ _ (.inl rfl) q,{o,k _ _ (.inl rfl) e},st}
theorem lg.lt(x:lg P w H h)(e:H a=some o):a<h.objs.size:=(x a o e).lt
theorem lg.fresh(x:lg P w H h)(e:h.objs.size<=a):H a=none:=by cases q:H a with|none=>rfl|some u=>exact absurd (zr (x.lt q) e)<|yE _
theorem lg.kept(x:lg P w H h)(k:∀b u,h.get? b=some u->h'.get? b=some u):lg P w H h':=λa o e=>(x a o e).pO (λb u _ q=>k b u q) (λ_ q=>q) λ_ _ q=>q
theorem lg.laid(x:lg P w H h)(k:∀b u,h.get? b=some u->h'.get? b=some u)(hp:h.objs.size<=a)(new:bt P w (upd H a o) h' a o):lg P w (upd H a o) h':=λb u e=>by have hn:=x.fresh hp;by_cases hb:b=a;subst hb;rw[aD]at e;cases e;exact new;rw[ax hb]at e;exact(x b u e).pO (λc v _ q=>k c v q) (λc q=>by rw[ax<|aC q hn];exact q) λc xs q=>by rw[ax<|aC q hn];exact q
end
def Rd(H:Hp)(a:Addr)(u:HO):Prop:=H a=some u\/∃o,H a=some (.k_ o u)
theorem Rd.of(h:H a=some u):Rd H a u:=.inl h
theorem Rd.ok{P:Program}{w:World}{H:Hp}{h:Heap}{a:Addr}{u:HO}(r:Rd H a u)(x:lg P w H h):bt P w H h a u:=by rcases r with r|⟨o,r⟩;exact x a u r;obtain⟨_,q⟩:=x a _ r;exact q
def RS:Option HO->Prop|some (.lst _)=>True|some (.dK _)=>True|some (.dT _)=>True|some (.set _ _)=>True|some (.ins _ _ _)=>True|some (.ext _)=>True|_=>False
section
variable{P:Program}{w:World}{H:Hp}{h h':Heap}{x e:Addr}{o':HO}
theorem lg.write(ok:lg P w H h)(mu:RS<|H x)(he:e=x\/H e=some (.own x))(k:∀b u,b≠e->h.get? b=some u->h'.get? b=some u)(Q0:∃u,h'.get? e=some u) (new:bt P w (upd H x o') h' x o'):lg P w (upd H x o') h':=λb u q=>by
 have RT:∀c y,H c=some (.own y)->c≠x:=λc y r z=>by subst z;rw[r]at mu;exact mu
 have WR:∀c xs,H c=some (.tup xs)->c≠x:=λc xs r z=>by subst z;rw[r]at mu;exact mu
 by_cases hb:b=x;subst hb;rw[aD]at q;cases q;exact new;rw[ax hb]at q;by_cases JP:b=e;have q':H b=some (.own x):=by rcases he with z|z;exact absurd (JP.trans z) hb;rw[JP];exact z
 rw[q]at q';cases q';obtain⟨v,hv⟩:=Q0;exact{v,by rw[JP];exact hv};refine(ok b u q).pO (λc v hc r=>k c v ?_ r) (λc r=>by rw[ax<|RT c b r];exact r) λc xs r=>by rw[ax<|WR c xs r];exact r
 rcases hc with rfl|hc;exact JP;rintro rfl;rcases he with z|z;exact RT c b hc z;rw[hc]at z;cases z;exact hb rfl
end
structure Un(fs ex:List Addr)(H H':Hp)(h h':Heap):Prop where
 keep:∀b o,h.get? b=some o->H b=none->b∉fs->b∉ex->h'.get? b=some o
 slot:∀b o,h.get? b=some o->H b=none->b∈fs->b∉ex->∃sl,h'.get? b=some {o with slots:=sl}
 free:∀b o,h.get? b=some o->H b=none->b∉ex->H' b=none
 there:∀b o,h.get? b=some o->b∉ex->∃o',h'.get? b=some o'
 lW:∀b xs,H b=some (.tup xs)->H' b=some (.tup xs)
 lh:∀b o u,H b=some (.k_ o u)->H' b=some (.k_ o u)
 lj:∀b ps,H b=some (.qo ps)->∃more,H' b=some (.qo<|ps++more)
section
variable{fs ex:List Addr}{H H1:Hp}{h h1 h':Heap}{a x e:Addr}{o:HO}
theorem Un.any(u:Un fs ex H H1 h h1){b:Addr}{ob:Obj}(q:h.get? b=some ob)(n:H b=none)(hx:b∉ex):∃sl,h1.get? b=some {ob with slots:=sl}:=by by_cases hb:b∈fs;exact u.slot b ob q n hb hx;exact{ob.slots,u.keep b ob q n hb hx}
theorem Un.kept(k:∀b u,h.get? b=some u->h'.get? b=some u):Un fs ex H H h h':={λb ob q _ _ _=>k b ob q,λb ob q _ _ _=>{ob.slots,k b ob q},λ_ _ _ n _=>n,λb ob q _=>{ob,k b ob q},λ_ _ q=>q,λ_ _ _ q=>q,λ_ ps q=>{#[],by rw[q];simp}}
theorem Un.refl:Un fs ex H H h h:=Un.kept λ_ _ q=>q
theorem Un.laid(k:∀b u,h.get? b=some u->h'.get? b=some u)(hp:h.objs.size<=a)(hn:H a=none):Un fs ex H (upd H a o) h h' where
 keep:=λb u q _ _ _=>k b u q
 slot:=λb u q _ _ _=>{u.slots,k b u q}
 free:=λb u q n _=>by rw[ax<|zB<|zr (zw q) hp];exact n
 there:=λb u q _=>{u,k b u q}
 lW:=λb xs q=>by rw[ax<|aC q hn];exact q
 lh:=λb u xs q=>by rw[ax<|aC q hn];exact q
 lj:=λb ps q=>{#[],by rw[ax<|aC q hn,q];simp}
theorem Un.write(mu:RS<|H x)(he:e=x\/H e=some (.own x))(k:∀b u,b≠e->h.get? b=some u->h'.get? b=some u)(Q0:∃u,h'.get? e=some u):Un fs ex H (upd H x o) h h':=by
 have hx:∀b,H b=none->b≠x:=λb n z=>by subst z;rw[n]at mu;exact mu
 have hb:∀b,H b=none->b≠e:=λb n z=>by subst z;rcases he with r|r;exact hx b n r;rw[n]at r;cases r
 have hm:∀b u,H b=some u->¬RS (some u)->b≠x:=λb u q nm z=>by subst z;rw[q]at mu;exact nm mu
 refine⟨λb u q n _ _=>k b u (hb b n) q,λb u q n _ _=>{u.slots,k b u (hb b n) q},λb u q n _=>by rw[ax<|hx b n];exact n,λb u q _=>?_,
  λb xs q=>by rw[ax<|hm b _ q λz=>z];exact q,λb u xs q=>by rw[ax<|hm b _ q λz=>z];exact q,λb ps q=>{#[],by rw[ax<|hm b _ q λz=>z,q];simp}⟩
 by_cases JP:b=e;subst JP;exact Q0;exact{u,k b u JP q}
end
noncomputable def VP(h:Heap)(H:Hp):List Addr:=(List.range h.objs.size).filter λa=>(H a).isSome
noncomputable def tG(h:Heap)(H:Hp):Heap:=hideAll h<|VP h H
theorem EH(h:Heap)(H:Hp):(tG h H).objs.size=h.objs.size:=PySem.W.hideAll_size _ _
theorem GW(e:h.get? b=some o)(n:H b=none):(tG h H).get? b=some o:=hideAll_get _ e λhm=>by have q:(H b).isSome=true:=(yh.mp hm).2;rw[n]at q;simp at q
theorem J3(e:(tG h H).get? b=some o):h.get? b=some o/\H b=none:=by have e':h.get? b=some o:=of_hideAll (VP h H) e;refine{e',?_};cases q:H b with|none=>rfl|some x=>have hm:b∈VP h H:=yh.mpr {zV.mpr<|zw e',by simp[q]};have z:(tG h H).get? b=none:=PySem.W.hideAll_none (VP h H) hm;rw[z]at e;cases e
noncomputable def J4(g h:Heap)(L:Addr):List (Addr×Obj):=(List.range h.objs.size).filterMap λa=>if a=L\/(g.get? a).isSome=true then none else (h.get? a).map λo=>(a,o)
noncomputable def rest(g h:Heap)(L d:Addr):List (Addr×Obj):=(J4 g h L).filter λp=>decide<|p.1≠d
structure Mod(K:Frag)(mg:Str->Option Value)(base:Heap):Prop where
 Q2:K.In base
 glob:base.Ns mainGlobals mg
 blt:∃mb,base.Ns builtinsNs mb/\∀x:Str,x≠"__name__"->mb x=bootBuiltins x
 nolimit:base.NoLimit
structure Cx where
 prog:Program
 w:World
 K:Frag
 mg:Str->Option Value
 base:Heap
 A:Around
 N:List Str
 dm:Shared
 vi:Hp
 env:Env
 outer:List Env
 stack:List Env
 ex:List Addr
 fn:Str->Bool
 calm:Bool
 pn:List (Addr×Obj)
 xe:Value->Shared->Prop
def nB(l:List Env):List Addr:=l.filterMap (·.frame)
noncomputable abbrev Cx.fs(X:Cx):List Addr:=nB X.outer
def NV(sc:Scope)(x:Str):Prop:=sc.names.lookup x=some .local\/sc.names.lookup x=some .cell\/sc.names.lookup x=some .free
def Loc(sc:Scope)(x:Str):Prop:=sc.names.lookup x=some .local\/sc.names.lookup x=some .cell
def Look(env:Env)(h:Heap)(m:Str->Option Value)(x:Str)(u:Value):Prop:=(env.kindOf x=some .local/\m x=some u)\/((env.kindOf x=some .cell\/env.kindOf x=some .free)/\∃c,env.cells.lookup x=some c/\h.IsCell c (some u))
structure Cx.Ok(X:Cx):Prop where
 mod:Mod X.K X.mg X.base
 kind:X.env.scope.kind=.function
 glob:X.env.globals=mainGlobals
 blt:X.env.builtins=builtinsNs
 above:X.dm.heap.objs.size<=X.env.locals
 inj:∀x y c,X.env.cells.lookup x=some c->X.env.cells.lookup y=some c->x=y
 has:∀x,(X.env.kindOf x=some .cell\/X.env.kindOf x=some .free)->∃c,X.env.cells.lookup x=some c
 WS:∀x c,X.fn x=true->X.env.cells.lookup x=some c->X.dm.heap.objs.size<=c
 hd:X.calm=true->X.A.handled=none
 frames:X.A.frames=some X.stack
 stk:X.stack=X.outer\/(X.stack=X.env::X.outer/\X.env.frame=some X.env.locals)
 exf:∀b∈X.ex,b≠X.env.locals/\∀x c,X.env.cells.lookup x=some c->c≠b
 bs:∀b o,X.base.get? b=some o->X.dm.heap.get? b=some o/\X.vi b=none
 J5:X.base.objs.size<=X.dm.heap.objs.size
 NW:∀b o,X.base.get? b=some o->b∉X.ex
 RU:∀b∈X.ex,b∉X.fs
 pP:X.dm.heap.FunFrames X.base X.outer
 NX:∀b∈X.fs,X.vi b=none
structure Inv(X:Cx)(pins:List (Addr×Obj))(σ:List (Option V))(H:Hp)(s:Shared):Prop where
 ok:X.Ok
 os:s.os=X.dm.os
 bare:AllBare s.gens
 base:Un X.fs X.ex X.vi H X.dm.heap s.heap
 loc:∃m,s.heap.Ns X.env.locals m/\∀(i:Nat)(x:Str)(v:V),X.N[i]?=some x->σ[i]?=some (some v)->NV X.env.scope x->∃u,RelV v u/\Look X.env s.heap m x u
 cell:∀x c,X.env.cells.lookup x=some c->∃v,s.heap.IsCell c v
 free:H X.env.locals=none
 fR:∀x c,X.env.cells.lookup x=some c->H c=none
 pin:∀p∈X.pn++pins,s.heap.get? p.1=some p.2/\H p.1=none/\p.1≠X.env.locals/\p.1∉X.fs/\∀v,p.2.data≠.cell v
 aK:lg X.prog X.w H s.heap
 len:σ.length=X.N.length
section
variable{X:Cx}{pins:List (Addr×Obj)}{σ:List (Option V)}{H H':Hp}{s:Shared}{h':Heap}
theorem Cx.Ok.EI(ok:X.Ok)(e:X.base.get? b=some o):b∉X.fs:=λhb=>by have:=(ok.pP.mem hb).1;rw[e]at this;cases this
theorem Inv.bs(I:Inv X pins σ H s):∀b o,X.base.get? b=some o->s.heap.get? b=some o/\H b=none:=λb o e=>{I.base.keep b o (I.ok.bs b o e).1 (I.ok.bs b o e).2 (I.ok.EI e)<|I.ok.NW b o e,I.base.free b o (I.ok.bs b o e).1 (I.ok.bs b o e).2<|I.ok.NW b o e}
theorem Inv.bk(I:Inv X pins σ H s):∀b o,X.base.get? b=some o->s.heap.get? b=some o:=λb o e=>(I.bs b o e).1
theorem Inv.mod(I:Inv X pins σ H s):Mod X.K X.mg X.base:=I.ok.mod
theorem Inv.oO(I:Inv X pins σ H s):X.K.In s.heap:=I.ok.mod.Q2.keeps I.bk
theorem Inv.nolimit(I:Inv X pins σ H s):s.heap.NoLimit:=I.ok.mod.nolimit.keeps I.bk
theorem Inv.fr(I:Inv X pins σ H s):∃m,Fr X.base X.env.locals s.heap m :=
 let ⟨m,hn,_⟩:=I.loc
 ⟨m,hn,I.bk,zD I.ok.J5 I.ok.above⟩
theorem Inv.lt(I:Inv X pins σ H s):X.env.locals<s.heap.objs.size:=by obtain⟨_,hn,_⟩:=I.loc;exact hn.lt
theorem Inv.sz(I:Inv X pins σ H s):X.dm.heap.objs.size<=s.heap.objs.size:=zD I.ok.above<|yH I.lt
theorem Inv.RV(I:Inv X pins σ H s)(h:s.heap.objs.size<=a):a∉X.fs:=λhb=>by obtain⟨_,o,ho,_⟩:=I.ok.pP.mem hb;exact absurd (zr (zw ho)<|zD I.sz h)<|yE _
theorem Inv.NY(I:Inv X pins σ H s):∀x c,X.env.cells.lookup x=some c->c≠X.env.locals:=λx c e z=>by obtain⟨v,o,ho,hd⟩:=I.cell x c e;obtain⟨m,⟨o',es,ep,Bf,Bh,_⟩,_⟩:=I.loc;rw[z,Bf]at ho;cases ho;rw[Bh]at hd;cases hd
theorem Inv.pP(I:Inv X pins σ H s):s.heap.FunFrames X.base X.outer:=by
 have all:∀(l:List Env),(∀b∈nB l,b∈X.fs)->X.dm.heap.FunFrames X.base l->s.heap.FunFrames X.base l:=by intro l;induction l with|nil=>intro _ _;trivial|cons env r ih=>intro hs hl;obtain⟨hk,⟨L,o,hf,hn,ho,hd⟩,hr⟩:=hl;have hL:L∈X.fs:=hs L (by unfold nB;rw[List.filterMap_cons,hf];exact zp);obtain⟨sl,e⟩:=I.base.slot L o ho (I.ok.NX L hL) hL λz=>I.ok.RU L z hL;exact{hk,{L,_,hf,hn,e,hd},ih (λb hb=>hs b<|by unfold nB;rw[List.filterMap_cons,hf];exact zh _ hb) hr}
 exact all X.outer (λ_ hb=>hb) I.ok.pP
theorem Inv.stack(I:Inv X pins σ H s):s.heap.FunFrames X.base X.stack:=by rcases I.ok.stk with e|⟨e,hf⟩;rw[e];exact I.pP;rw[e];obtain⟨m,hn,_⟩:=I.loc;refine .cons (by rw[I.ok.kind];decide) hf hn ?_ I.pP;exact Heap.get?_none_of_le<|zD I.ok.J5 I.ok.above
theorem Inv.nC(I:Inv X pins σ H s):∀b∈nB X.stack,b∈X.env.locals::X.fs:=λb hb=>by rcases I.ok.stk with e|⟨e,hf⟩;rw[e]at hb;exact zh _ hb;rw[e]at hb;unfold nB at hb;rw[List.filterMap_cons,hf]at hb;exact hb
theorem Inv.qp(I:Inv X pins σ H s):∀b∈nB X.stack,H b=none:=λb hb=>by rcases zj.mp (I.nC b hb) with e|hb;rw[e];exact I.free;obtain⟨_,o,ho,_⟩:=I.ok.pP.mem hb;exact I.base.free b o ho (I.ok.NX b hb) λz=>I.ok.RU b z hb
theorem Inv.step{g':Array GenState}{t':Nat}{d':Drawn}{ch:List Addr}(I:Inv X pins σ H s) (JQ:∀b∈ch,(b∈X.ex\/X.dm.heap.objs.size<=b)/\b≠X.env.locals/\(∀x c,X.env.cells.lookup x=some c->c≠b)/\∀p∈X.pn++pins,p.1≠b) (keep:∀b o,b≠X.env.locals->b∉X.fs->b∉ch->s.heap.get? b=some o->H b=none->h'.get? b=some o) (slot:∀b o,b≠X.env.locals->b∈X.fs->b∉ch->s.heap.get? b=some o->H b=none->∃sl,h'.get? b=some {o with slots:=sl}) (free:∀b o,b∉ch->s.heap.get? b=some o->H b=none->H' b=none) (there:∀b o,b∉ch->s.heap.get? b=some o->∃o',h'.get? b=some o') (lW:∀b xs,H b=some (.tup xs)->H' b=some (.tup xs)) (lh:∀b o u,H b=some (.k_ o u)->H' b=some (.k_ o u)) (lj:∀b ps,H b=some (.qo ps)->∃more,H' b=some (.qo<|ps++more)) (ns:∀m,s.heap.Ns X.env.locals m->h'.Ns X.env.locals m) (aK:lg X.prog X.w H' h') (hg:AllBare g'): Inv X pins σ H' {s with heap:=h',gens:=g',drawn:=d',toks:=t'}:=by
 have neL:∀b o,X.dm.heap.get? b=some o->b≠X.env.locals:=λb o e=>zB<|zr (zw e) I.ok.above;have VQ:∀b o,X.dm.heap.get? b=some o->b∉X.ex->b∉ch:=λb o e hx hb=>by rcases (JQ b hb).1 with z|z;exact hx z;exact absurd (zr (zw e) z)<|yE _
 have cellK:∀x c,X.env.cells.lookup x=some c->∀v,s.heap.IsCell c v->h'.IsCell c v:=by rintro x c e v ⟨o,ho,hd⟩;have RW:c∉ch:=λz=>(JQ c z).2.2.1 x c e rfl;by_cases hc:c∈X.fs;obtain⟨sl,q⟩:=slot c o (I.NY x c e) hc RW ho<|I.fR x c e;exact{_,q,hd};exact{o,keep c o (I.NY x c e) hc RW ho<|I.fR x c e,hd}
 refine{I.ok,I.os,hg,{λb o e n hb hx=>?_,λb o e n hb hx=>?_,λb o e n hx=>?_,λb o e hx=>?_,λb xs e=>lW b xs<|I.base.lW b xs e,λb o xs e=>lh b o xs<|I.base.lh b o xs e,λb ps e=>?_},?_,λx c e=>?_,?_,λx c e=>?_,λp hp=>?_,aK,I.len};exact keep b o (neL b o e) hb (VQ b o e hx) (I.base.keep b o e n hb hx)<|I.base.free b o e n hx;obtain⟨sl,e1⟩:=I.base.slot b o e n hb hx;obtain⟨sl',e2⟩:=slot b _ (neL b o e) hb (VQ b o e hx) e1<|I.base.free b o e n hx;exact⟨sl',e2⟩;obtain⟨o',e1⟩:=I.base.there b o e hx;exact free b o' (VQ b o e hx) e1<|I.base.free b o e n hx;obtain⟨o',e1⟩:=I.base.there b o e hx;exact there b o' (VQ b o e hx) e1;obtain⟨m1,e1⟩:=I.base.lj b ps e;obtain⟨m2,e2⟩:=lj b _ e1;exact{m1++m2,by rw[e2,Array.append_assoc]};obtain⟨m,hn,hl⟩:=I.loc;refine{m,ns m hn,λi x v e1 e2 e3=>?_};obtain⟨u,r,l⟩:=hl i x v e1 e2 e3;refine{u,r,?_};rcases l with l|⟨k,c,e,z⟩;exact .inl l;exact .inr {k,c,e,cellK x c e _ z};obtain⟨v,z⟩:=I.cell x c e;exact{v,cellK x c e v z};obtain⟨m,⟨o,_,_,ho,_⟩,_⟩:=I.loc;exact free _ o (λz=>(JQ _ z).2.1 rfl) ho I.free;obtain⟨v,o,ho,hd⟩:=I.cell x c e;exact free c o (λz=>(JQ c z).2.2.1 x c e rfl) ho<|I.fR x c e;obtain⟨e,n,ne,nf,d⟩:=I.pin p hp;have RW:p.1∉ch:=λz=>(JQ p.1 z).2.2.2 p hp rfl;exact{keep p.1 p.2 ne nf RW e n,free p.1 p.2 RW e n,ne,nf,d}
theorem Inv.un{t':Nat}(I:Inv X pins σ H s)(u:Un X.fs [] H H' s.heap h')(aK:lg X.prog X.w H' h'):Inv X pins σ H' {s with heap:=h',toks:=t'}:=by obtain⟨m,⟨o,es,ep,ho,r⟩,_⟩:=id I.loc;obtain⟨sl,hL⟩:=u.any ho I.free (by simp);exact I.step (g':=s.gens) (d':=s.drawn) (ch:=[]) (λ_ z=>nomatch z) (λb o _ hb _ e n=>u.keep b o e n hb<|by simp) (λb o _ hb _ e n=>u.slot b o e n hb<|by simp) (λb o _ e n=>u.free b o e n<|by simp) (λb o _ e=>u.there b o e<|by simp) u.lW u.lh u.lj (λm' hm=>by obtain⟨o',VR,WT,Bf,r'⟩:=hm;rw[ho]at Bf;cases Bf;exact{_,VR,WT,hL,r'}) aK I.bare
theorem Inv.call{g':Array GenState}{t':Nat}{d':Drawn}{ch:List Addr}(I:Inv X pins σ H s)(u:Un (nB X.stack) ch H H' s.heap h')(aK:lg X.prog X.w H' h')(hg:AllBare g') (JQ:∀b∈ch,(b∈X.ex\/X.dm.heap.objs.size<=b)/\b≠X.env.locals/\(∀x c,X.env.cells.lookup x=some c->c≠b)/\∀p∈X.pn++pins,p.1≠b): Inv X pins σ H' {s with heap:=h',gens:=g',drawn:=d',toks:=t'}:=by obtain⟨m,⟨o,es,ep,ho,r⟩,_⟩:=id I.loc;obtain⟨sl,hL⟩:=u.any ho I.free λz=>(JQ _ z).2.1 rfl;exact I.step (ch:=ch) JQ (λb o hL hb hc e n=>u.keep b o e n (λz=>(zj.mp<|I.nC b z).elim hL hb) hc) (λb o _ _ hc e n=>u.any e n hc) (λb o hc e n=>u.free b o e n hc) (λb o hc e=>u.there b o e hc) u.lW u.lh u.lj (λm' hm=>by obtain⟨o',VR,WT,Bf,r'⟩:=hm;rw[ho]at Bf;cases Bf;exact{_,VR,WT,hL,r'}) aK hg
theorem Inv.turned{t':Nat}{it:Addr}(I:Inv X pins σ H s)(k:∀b o,b≠it->s.heap.get? b=some o->h'.get? b=some o)(hn:H it=none)(hL:it≠X.env.locals) (h1:it∈X.ex\/X.dm.heap.objs.size<=it) (h2:∀x c,X.env.cells.lookup x=some c->c≠it) (h3:∀p∈X.pn++pins,p.1≠it):Inv X pins σ H {s with heap:=h',toks:=t'}:=by
 have NZ:∀b u,H b=some u->b≠it:=λb u e z=>by rw[z,hn]at e;cases e
 refine I.step (g':=s.gens) (d':=s.drawn) (ch:=[it]) (λb hb=>?_) (λb o _ _ hc e _=>k b o (λz=>hc<|by simp[z]) e) (λb o _ _ hc e _=>{o.slots,k b o (λz=>hc<|by simp[z]) e}) (λ_ _ _ _ n=>n) (λb o hc e=>{o,k b o (λz=>hc<|by simp[z]) e}) (λ_ _ e=>e) (λ_ _ _ e=>e) (λb ps e=>{#[],by rw[e];simp}) (λm hm=>?_) (λb u e=>?_) I.bare;have e:b=it:=by simpa using hb
 subst e;exact⟨h1,hL,h2,h3⟩;obtain⟨o,es,ep,ho,r⟩:=hm;exact{o,es,ep,k _ o (Ne.symm hL) ho,r};refine(I.aK b u e).pO (λc v hc q=>k c v ?_ q) (λ_ q=>q) λ_ _ q=>q;rcases hc with z|z;rw[z];exact NZ b u e;exact NZ c _ z
theorem Inv.tok(I:Inv X pins σ H s)(t:Nat):Inv X pins σ H {s with toks:=t}:=I.un (h':=s.heap) (t':=t) Un.refl I.aK
theorem Inv.kept(I:Inv X pins σ H s)(k:∀b u,s.heap.get? b=some u->h'.get? b=some u):Inv X pins σ H {s with heap:=h',toks:=t'}:=I.un (Un.kept k)<|I.aK.kept k
theorem Inv.laid{a:Addr}{o:HO}{t':Nat}(I:Inv X pins σ H s)(k:∀b u,s.heap.get? b=some u->h'.get? b=some u)(hp:s.heap.objs.size<=a)(new:bt X.prog X.w (upd H a o) h' a o): Inv X pins σ (upd H a o) {s with heap:=h',toks:=t'}:=I.un (Un.laid k hp<|I.aK.fresh hp)<|I.aK.laid k hp new
theorem Inv.write(I:Inv X pins σ H s)(mu:RS<|H x)(he:e=x\/H e=some (.own x))(k:∀b u,b≠e->s.heap.get? b=some u->h'.get? b=some u)(Q0:∃u,h'.get? e=some u) (new:bt X.prog X.w (upd H x o) h' x o):Inv X pins σ (upd H x o) {s with heap:=h',toks:=t'}:=I.un (Un.write mu he k Q0)<|I.aK.write mu he k Q0 new
theorem Inv.weak(I:Inv X pins σ H s)(hl:aB.length=σ.length)(w:∀(i:Nat) v,aB[i]?=some (some v)->σ[i]?=some (some v)):Inv X pins aB H s:={I.ok,I.os,I.bare,I.base,by obtain⟨m,hn,hl'⟩:=I.loc;exact{m,hn,λi x v e1 e2 e3=>hl' i x v e1 (w i v e2) e3},I.cell,I.free,I.fR,I.pin,I.aK,hl.trans I.len}
theorem Inv.lX(I:Inv X pins σ H s)(h:∀p∈pins',s.heap.get? p.1=some p.2/\H p.1=none/\p.1≠X.env.locals/\p.1∉X.fs/\∀v,p.2.data≠.cell v):Inv X pins' σ H s:={I.ok,I.os,I.bare,I.base,I.loc,I.cell,I.free,I.fR,λp hp=>(zP.mp hp).elim (λz=>I.pin p<|yr _ z)<|h p,I.aK,I.len}
theorem xy{N:List Str}(hN:N.Nodup){i j:Nat}{x:Str}(a:N[i]?=some x)(b:N[j]?=some x):i=j:=by obtain⟨h1,e1⟩:=zd.mp a;obtain⟨h2,e2⟩:=zd.mp b;exact(List.getElem_inj hN).mp<|e1.trans e2.symm
theorem ur{M:Model}{A:Around}{E:Value->Shared->Prop}{i:Nat}{x:Str}{v:V}{u:Value}{Q:Unit->Shared->Prop}(I:Inv X pins σ H s)(hN:X.N.Nodup)(hi:X.N[i]?=some x)(hx:Loc X.env.scope x)(r:RelV v u) (h:∀s',Inv X pins (σ.set i<|some v) H s'->(∃a,Heap.SameBut a s.heap s'.heap/\(a=X.env.locals\/X.env.cells.lookup x=some a))->Q () s') (hf:autoParam (X.fn x=true\/X.env.scope.names.lookup x=some .local) qQ6):wpAny M A (storeName X.env x u) Q E s:=by
 obtain⟨m,hn,hl⟩:=id I.loc;have WU:(X.env.scope.kind==.class||(X.env.scope.kind==.module&&X.env.locals != X.env.globals))=false:=by rw[I.ok.kind];rfl
 have RX:i<σ.length:=by rw[I.len];exact(zd.mp hi).1
 have NY:=I.NY;have tracked:∀{a:Addr}{h':Heap},(∃o,s.heap.get? a=some o/\H a=none)->Heap.SameBut a s.heap h'->lg X.prog X.w H h':=λ{a h'} ha hs b ob e=>by obtain⟨_,_,ME⟩:=ha;refine(I.aK b ob e).pO (λc w' hc q=>(hs.2 c ?_).trans q) (λ_ q=>q) λ_ _ q=>q;rintro rfl;rcases hc with rfl|hc;rw[ME]at e;cases e;rw[ME]at hc;cases hc
 rcases hx with hk|hk;refine wpAny_storeName_local hk hn (λh' MF hs=>?_) WU;obtain⟨oL,_,_,GH,_⟩:=id hn;refine h _ {I.ok,I.os,I.bare,{λb o e n hb hx=>?_,λb o e n hb hx=>?_,I.base.free,λb o e hx=>?_,I.base.lW,I.base.lh,I.base.lj},{_,MF,λj y v' e1 e2 e3=>?_},λy c e=>?_,I.free,I.fR,λp hp=>?_,tracked ⟨oL,GH,I.free⟩ hs,by simpa using I.len} {_,hs,.inl rfl};exact(hs.2 b<|zB<|zr (zw e) I.ok.above).trans<|I.base.keep b o e n hb hx;obtain⟨sl,e1⟩:=I.base.slot b o e n hb hx;exact{sl,(hs.2 b<|zB<|zr (zw e) I.ok.above).trans e1};obtain⟨o',e1⟩:=I.base.there b o e hx;exact{o',(hs.2 b<|zB<|zr (zw e) I.ok.above).trans e1};by_cases hj:j=i;subst hj;rw[hi]at e1;cases e1;rw[List.getElem?_set_self RX]at e2;cases e2;exact{u,r,.inl {hk,by simp}};rw[List.getElem?_set_ne<|Ne.symm hj]at e2;obtain⟨u',r',q⟩:=hl j y v' e1 e2 e3;refine{u',r',?_};rcases q with⟨k,e⟩|⟨k,c,e,z⟩;refine .inl {k,?_};have:y≠x:=λe=>hj<|xy hN e1<|e ▸ hi;simp[this,e];exact .inr {k,c,e,z.sameBut hs<|NY y c e};obtain⟨w',z⟩:=I.cell y c e;exact{w',z.sameBut hs<|NY y c e};obtain⟨e,n,ne,nf,d⟩:=I.pin p hp;exact{(hs.2 p.1 ne).trans e,n,ne,nf,d};have WV:X.fn x=true:=by rcases hf with z|z;exact z;rw[z]at hk;cases hk
 obtain⟨c,hc⟩:=I.ok.has x<|.inl hk;obtain⟨w',z⟩:=I.cell x c hc;refine wpAny_storeName_cell I.ok.kind hk hc z λh' J6 hs=>?_;obtain⟨oc,VS,WW⟩:=id z;refine h {s with heap:=h'} {I.ok,I.os,I.bare,{λb o e n hb hx=>?_,λb o e n hb hx=>?_,I.base.free,λb o e hx=>?_,I.base.lW,I.base.lh,I.base.lj},{m,hn.sameBut hs<|Ne.symm<|NY x c hc,λj y v' e1 e2 e3=>?_},λy c' e=>?_,I.free,I.fR,λp hp=>?_,tracked {oc,VS,I.fR x c hc} hs,by simpa using I.len} {c,hs,.inr hc};exact(hs.2 b<|zB<|zr (zw e)<|I.ok.WS x c WV hc).trans<|I.base.keep b o e n hb hx;obtain⟨sl,e1⟩:=I.base.slot b o e n hb hx;exact{sl,(hs.2 b<|zB<|zr (zw e)<|I.ok.WS x c WV hc).trans e1};obtain⟨o',e1⟩:=I.base.there b o e hx;exact{o',(hs.2 b<|zB<|zr (zw e)<|I.ok.WS x c WV hc).trans e1};by_cases hj:j=i;subst hj;rw[hi]at e1;cases e1;rw[List.getElem?_set_self RX]at e2;cases e2;exact{u,r,.inr {.inl hk,c,hc,J6}};rw[List.getElem?_set_ne<|Ne.symm hj]at e2;obtain⟨u',r',q⟩:=hl j y v' e1 e2 e3;refine{u',r',?_};rcases q with q|⟨k,c',e,z'⟩;exact .inl q;refine .inr {k,c',e,z'.sameBut hs ?_};rintro rfl;exact hj<|xy hN e1<|I.ok.inj _ _ _ e hc ▸ hi;by_cases RY:c'=c;subst RY;exact{_,J6};obtain⟨w2,z2⟩:=I.cell y c' e;exact{w2,z2.sameBut hs RY};obtain⟨e,n,ne,nf,d⟩:=I.pin p hp;refine{(hs.2 p.1 ?_).trans e,n,ne,nf,d};intro q;rw[q,VS]at e;have q':oc=p.2:=zU e;exact d w'<|by rw[<-q'];exact WW
theorem je(I:Inv X pins σ H s)(hN:X.N.Nodup)(hi:X.N[i]?=some x)(hx:Loc X.env.scope x)(r:RelV v u) (h:∀s',Inv X pins (σ.set i<|some v) H s'->Q () s') (hf:autoParam (X.fn x=true\/X.env.scope.names.lookup x=some .local) qQ6):wpAny M A (storeName X.env x u) Q E s:=ur I hN hi hx r (λs' I' _=>h s' I') hf
theorem Inv.RZ(I:Inv X pins σ H s)(ho:s'.os=s.os)(u:Un (nB X.stack) ch H H' s.heap s'.heap)(aK:lg X.prog X.w H' s'.heap)(hg:AllBare s'.gens) (JQ:∀b∈ch,(b∈X.ex\/X.dm.heap.objs.size<=b)/\b≠X.env.locals/\(∀x c,X.env.cells.lookup x=some c->c≠b)/\∀p∈X.pn++pins,p.1≠b):Inv X pins σ H' s':=by obtain⟨h',g',d',t',o'⟩:=s';have e:o'=s.os:=ho;subst e;exact I.call (g':=g') (t':=t') (d':=d') u aK hg JQ
end
abbrev XK:=Value->Option Addr->Hp->Prop
abbrev St:=List<|Option V
abbrev VK:=V->Hp->Prop
abbrev TE:=St->Hp->VK->Prop
abbrev TT:=St->Hp->(Bool->Hp->Prop)->Prop
abbrev TA:=St->Hp->(List V->Hp->Prop)->Prop
structure Ends where
 nx:St->Hp->Prop
 rt:VK
 bk:St->Hp->Prop:=λ_ _=>False
 ct:St->Hp->Prop:=λ_ _=>False
abbrev TS:=Ends->St->Hp->Prop
def EP(X:Cx)(pins:List<|Addr×Obj)(σ:St)(Q:VK)(u:Value)(s':Shared):Prop:=∃v H',Inv X pins σ H' s'/\RelV v u/\Q v H'
def TP(X:Cx)(pins:List<|Addr×Obj)(σ:St)(Q:Bool->Hp->Prop)(b:Bool)(s':Shared):Prop:=∃H',Inv X pins σ H' s'/\Q b H'
def AP(X:Cx)(pins:List<|Addr×Obj)(σ:St)(Q:List V->Hp->Prop)(us:List Value)(s':Shared):Prop:=∃vs H',Inv X pins σ H' s'/\Vals vs us/\Q vs H'
def SP(X:Cx)(pins:List<|Addr×Obj)(D:Ends)(f:Flow)(s':Shared):Prop:=match f with|.next=>∃aB H',Inv X pins aB H' s'/\D.nx aB H'|.brk=>∃aB H',Inv X pins aB H' s'/\D.bk aB H'|.cont=>∃aB H',Inv X pins aB H' s'/\D.ct aB H'|.ret u=>∃v aB H',Inv X pins aB H' s'/\RelV v u/\D.rt v H'
def PE(X:Cx)(e:Expr)(t:TE):Prop:=∀(pins:List (Addr×Obj))(s:Shared)(σ:St)(H:Hp)(Q:VK),Inv X pins σ H s->t σ H Q->wpAny (model X.prog X.w) X.A (eval e X.env) (EP X pins σ Q) X.xe s
def PT(X:Cx)(e:Expr)(t:TT):Prop:=∀(pins:List (Addr×Obj))(s:Shared)(σ:St)(H:Hp)(Q:Bool->Hp->Prop),Inv X pins σ H s->t σ H Q->wpAny (model X.prog X.w) X.A (isTrue e X.env<|eval e X.env) (TP X pins σ Q) X.xe s
def PW(X:Cx)(e:Expr)(t:TT):Prop:=∀(whole:Sem Value)(pins:List (Addr×Obj))(s:Shared)(σ:St)(H:Hp)(Q:Bool->Hp->Prop),Inv X pins σ H s->t σ H Q->wpAny (model X.prog X.w) X.A (isTrue e X.env whole) (TP X pins σ Q) X.xe s
theorem PW.pt{t:TT}(h:PW X e t):PT X e t:=h _
def PA(X:Cx)(es:List Expr)(t:TA):Prop:=∀(pos:Pos)(pins:List (Addr×Obj))(s:Shared)(σ:St)(H:Hp)(Q:List V->Hp->Prop),Inv X pins σ H s->t σ H Q->wpAny (model X.prog X.w) X.A (spliced<|backTo pos<|starEach es X.env) (AP X pins σ Q) X.xe s
def PS(X:Cx)(st:Stmt)(t:TS):Prop:=∀(pins:List (Addr×Obj))(s:Shared)(σ:St)(H:Hp)(D:Ends),Inv X pins σ H s->t D σ H->wpAny (model X.prog X.w) X.A (exec st X.env) (SP X pins D) X.xe s
def Df(X:Cx)(st:List Stmt)(t:TS):Prop:=∀(pins:List (Addr×Obj))(s:Shared)(σ:St)(H:Hp)(D:Ends),Inv X pins σ H s->t D σ H->wpAny (model X.prog X.w) X.A (execs st X.env) (SP X pins D) X.xe s
theorem bz{t:Sem α}(h:wpAny M A t Q E s)(hQ:∀a s,Q a s->Q' a s):wpAny M A t Q' E s:=yL h hQ λ_ _ x=>x
section
variable{X:Cx}
def WX(i:Nat):TE:=λσ H Q=>∃v,σ[i]?=some (some v)/\Q v H
def tC(v:V):TE:=λ_ H Q=>Q v H
theorem N1(hN:X.N[i]?=some x)(hv:NV X.env.scope x)(hd:autoParam ((x==("__debug__": Str))=false) qQZ)(s_:autoParam ((x==("__classdict__": Str))=false) qQZ):PE X (.Name x pos) (WX i):=by intro pins s σ H Q I h;obtain⟨v,e,h⟩:=h;obtain⟨m,hn,hl⟩:=I.loc;obtain⟨u,r,l⟩:=hl i x v hN e hv;have fin:EP X pins σ Q u s:=⟨v,H,I,r,h⟩;rcases l with⟨hk,hm⟩|⟨hk,c,hc,Dg⟩;exact wpAny_Name (wpAny_loadName_local I.ok.kind hk hn hm fin) hd;rcases hk with hk|hk;exact wpAny_Name (wpAny_loadName_cell I.ok.kind hk hc Dg fin) hd;exact wpAny_Name (wpAny_loadName_free I.ok.kind hk hc Dg fin s_) hd
theorem N2:PE X (.Constant (.int i) j pos) (tC<|.int i):=λ_ _ _ H _ I h=>wpAny_Constant_int {.int i,H,I.tok _,{_,rfl},h}
theorem MG:PE X (.Constant (.bool b) j pos) (tC<|.bl b):=λ_ _ _ H _ I h=>Constant_bool {.bl b,H,I,rfl,h}
theorem N3:PE X (.Constant .none j pos) (tC .au):=λ_ _ _ H _ I h=>Constant_none {.au,H,I,rfl,h}
theorem N4:PE X (.Constant (.str x) j pos) (tC<|.str x):=λ_ _ _ H _ I h=>Calls.Constant_str {.str x,H,I.tok _,{_,rfl},h}
def Gl(X:Cx)(x:Str):Prop:=X.env.kindOf x=some .globalImplicit
theorem qq(I:Inv X pins σ H s)(hg:Gl X x)(hm:X.mg x=some u)(h:Q u s) (hd:autoParam ((x==("__debug__": Str))=false) qQZ):wpAny (model X.prog X.w) X.A (eval (.Name x pos) X.env) Q E s:=Calls.Name_function_global I.ok.kind hg (Calls.loadGlobal_global (by rw[I.ok.glob];exact I.mod.glob.keeps I.bk) hm h) hd
theorem gu(I:Inv X pins σ H s)(hg:Gl X x)(hm:X.mg x=none)(hv:bootBuiltins x=some u)(h:Q u s) (hn:autoParam (x≠"__name__") qQZ) (hd:autoParam ((x==("__debug__": Str))=false) qQZ):wpAny (model X.prog X.w) X.A (eval (.Name x pos) X.env) Q E s:=by obtain⟨mb,h1,h2⟩:=I.mod.blt;exact Calls.Name_function_global I.ok.kind hg (Calls.loadGlobal_builtin (by rw[I.ok.glob];exact I.mod.glob.keeps I.bk) hm (by rw[I.ok.blt];exact h1.keeps I.bk) ((h2 x hn).trans hv) h) hd
theorem Dh(hg:Gl X x)(hm:X.mg x=some u)(r:RelV v u)(hd:autoParam ((x==("__debug__": Str))=false) qQZ):PE X (.Name x pos) (tC v):=λ_ _ _ H _ I h=>qq I hg hm ⟨v,H,I,r,h⟩ hd
theorem J_(hg:Gl X x)(hm:X.mg x=none)(hv:bootBuiltins x=some u)(r:RelV v u)(hn:autoParam (x≠"__name__") qQZ)(hd:autoParam ((x==("__debug__": Str))=false) qQZ):PE X (.Name x pos) (tC v):=λ_ _ _ H _ I h=>gu I hg hm hv ⟨v,H,I,r,h⟩ hn hd
variable{a b:Expr}{ta tb:TE}{pos:Pos}
def tB(t:TE):TT:=λσ H Q=>t σ H λx H1=>∃c,x=.bl c/\Q c H1
theorem N5{t:TE}(h:PE X e t)(he:autoParam (∀whole,isTrue e X.env whole=(do let v <-whole;standAt e.pos;holding [v] (truthy v))) qQ0):PT X e (tB t):=by intro pins s σ H Q I hw;refine isTrue_plain (bz (h pins s σ H _ I hw) λv s1 ⟨x,H1,I1,r1,q1⟩=>?_)<|he _;obtain⟨d,rfl,q⟩:=q1;cases r1;exact yA ⟨H1,I1,q⟩
variable{tA VT:TT}{rest:List Expr}
def WY(t u:TT):TT:=λσ H Q=>t σ H λc H1=>if c=true then u σ H1 Q else Q false H1
def tOr(t u:TT):TT:=λσ H Q=>t σ H λc H1=>if c=true then Q true H1 else u σ H1 Q
def WZ(t:TT):TT:=λσ H Q=>t σ H λc H1=>Q (!c) H1
theorem pw_and1(ha:PT X a tA):PW X (.BoolOp .And [a] pos) tA:=by intro wh pins s σ H Q I h;refine isTrue_and<|bz (ha pins s σ H Q I h) λc s1 e=>?_;cases c with|true=>exact isTrue_and_nil e|false=>exact e
theorem pw_or1(ha:PT X a tA):PW X (.BoolOp .Or [a] pos) tA:=by intro wh pins s σ H Q I h;refine isTrue_or<|bz (ha pins s σ H Q I h) λc s1 e=>?_;cases c with|false=>exact isTrue_or_nil e|true=>exact e
theorem pw_and(ha:PT X a tA)(hb:PW X (.BoolOp .And (b::rest) pos) VT):PW X (.BoolOp .And (a::b::rest) pos) (WY tA VT):=by intro wh pins s σ H Q I h;refine isTrue_and<|bz (ha pins s σ H _ I h) λc s1 ⟨H1,I1,q1⟩=>?_;cases c with|true=>exact hb wh pins s1 σ H1 Q I1 q1|false=>exact⟨H1,I1,q1⟩
theorem pw_or(ha:PT X a tA)(hb:PW X (.BoolOp .Or (b::rest) pos) VT):PW X (.BoolOp .Or (a::b::rest) pos) (tOr tA VT):=by intro wh pins s σ H Q I h;refine isTrue_or<|bz (ha pins s σ H _ I h) λc s1 ⟨H1,I1,q1⟩=>?_;cases c with|true=>exact⟨H1,I1,q1⟩|false=>exact hb wh pins s1 σ H1 Q I1 q1
theorem N6(ha:PT X a tA):PT X (.UnaryOp .Not a pos) (WZ tA):=by intro pins s σ H Q I h;exact isTrue_not<|ha pins s σ H (λc H1=>Q (!c) H1) I h
def R1(ta tb:TE):TE:=λσ H Q=>ta σ H λx H1=>∃c,x=.bl c/\if c=true then tb σ H1 Q else Q (.bl false) H1
def W0(ta tb:TE):TE:=λσ H Q=>ta σ H λx H1=>∃c,x=.bl c/\if c=true then Q (.bl true) H1 else tb σ H1 Q
def R3(ta:TE):TE:=λσ H Q=>ta σ H λx H1=>∃c,x=.bl c/\Q (.bl<|!c) H1
theorem N7{t:TE}(h:PE X a t):PE X (.BoolOp op [a] pos) t:=λpins s σ H Q I hw=>BoolOp_one<|h pins s σ H Q I hw
theorem N8(ha:PE X a ta)(hb:PE X (.BoolOp .And (b::rest) pos) tb):PE X (.BoolOp .And (a::b::rest) pos) (R1 ta tb):=by intro pins s σ H Q I h;refine BoolOp_and<|bz (ha pins s σ H _ I h) λv s1 ⟨x,H1,I1,r1,q1⟩=>?_;obtain⟨c,rfl,q1⟩:=q1;cases r1;refine yA ?_;cases c with|true=>exact hb pins s1 σ H1 Q I1 q1|false=>exact{.bl false,H1,I1,rfl,q1}
theorem R4(ha:PE X a ta)(hb:PE X (.BoolOp .Or (b::rest) pos) tb):PE X (.BoolOp .Or (a::b::rest) pos) (W0 ta tb):=by intro pins s σ H Q I h;refine BoolOp_or<|bz (ha pins s σ H _ I h) λv s1 ⟨x,H1,I1,r1,q1⟩=>?_;obtain⟨c,rfl,q1⟩:=q1;cases r1;refine yA ?_;cases c with|false=>exact hb pins s1 σ H1 Q I1 q1|true=>exact{.bl true,H1,I1,rfl,q1}
theorem N9(ha:PE X a ta):PE X (.UnaryOp .Not a pos) (R3 ta):=by intro pins s σ H Q I h;refine UnaryOp_<|bz (ha pins s σ H _ I h) λv s1 ⟨x,H1,I1,r1,q1⟩=>?_;obtain⟨c,rfl,q1⟩:=q1;cases r1;exact not_of<|yA {.bl<|!c,H1,I1,rfl,q1}
def tIf(t:TT)(ta tb:TE):TE:=λσ H Q=>t σ H λc H1=>if c=true then ta σ H1 Q else tb σ H1 Q
theorem GX(hc:PT X c tA)(ha:PE X a ta)(hb:PE X b tb):PE X (.IfExp c a b pos) (tIf tA ta tb):=by intro pins s σ H Q I h;refine wpAny_IfExp<|bz (hc pins s σ H _ I h) λd s1 ⟨H1,I1,q1⟩=>?_;cases d with|true=>exact ha pins s1 σ H1 Q I1 q1|false=>exact hb pins s1 σ H1 Q I1 q1
end
def jf(K:Frag)(H:Hp)(a:Addr)(xs:List V):Prop:=Rd H a (.lst xs)\/∃(o:Obj)(az:Array Value)(n:Nat),K.lookup a=some o/\o.cls=.type "list"/\o.dict=none/\o.data=.seq az n/\az.size<=sizeLine/\Vals xs az.toList
def iM(K:Frag)(H:Hp)(a:Addr)(xs:List V):Prop:=Rd H a (.tup xs)\/∃(o:Obj)(az:Array Value)(n:Nat),K.lookup a=some o/\o.cls=.type "tuple"/\o.data=.seq az n/\az.size<=sizeLine/\Vals xs az.toList
noncomputable def W2:Value->Option V|.none=>some .au|.bool b=>some (.bl b)|.int i _=>some (.int i)|.str x _=>some (.str x)|.bytes b _=>some (.Dd b)|.float b _=>some (.GG b)|.ref a=>some (.ref a)|.type n=>some (.ty n)|_=>none
theorem RelV.abs(r:RelV x u):W2 u=some x:=by cases x with|au=>(cases r;rfl)|bl _=>(cases r;rfl)|int _=>(obtain⟨t,rfl⟩:=r;rfl)|str _=>(obtain⟨t,rfl⟩:=r;rfl)|Dd _=>(obtain⟨t,rfl⟩:=r;rfl)|GG _=>(obtain⟨t,rfl⟩:=r;rfl)|ref _=>(cases r;rfl)|ty _=>cases r;rfl
theorem RelV.inj(r:RelV x u)(q:RelV y u):x=y:=zU<|r.abs.symm.trans q.abs
theorem Vals.inj:∀{xs ys:List V}{us:List Value},Vals xs us->Vals ys us->xs=ys|_,_,_,.nil,.nil=>rfl|_,_,_,.cons r t,.cons r' t'=>by rw[r.inj r',Vals.inj t t']
section
variable{X:Cx}{pins:List (Addr×Obj)}{σ:St}{H:Hp}{s:Shared}{a:Addr}{xs ys:List V}
theorem jf.of{K:Frag}(h:H a=some (.lst xs)):jf K H a xs:=.inl<|.inl h
theorem iM.of{K:Frag}(h:H a=some (.tup xs)):iM K H a xs:=.inl<|.inl h
theorem Inv.list(I:Inv X pins σ H s)(h:jf X.K H a xs):∃az:List Value,Vals xs az/\PlainL s.heap a az.toArray/\xs.length<=sizeLine:=by rcases h with h|⟨o,az,n,hk,hc,hd,hs,hz,r⟩;obtain⟨z,az,n,r,e⟩:=h.ok I.aK;exact{az,r,{_,n,e,rfl,rfl,rfl},z};refine{az.toList,r,{o,n,I.oO a o hk,hc,hd,by simpa using hs},?_};have e:=r.length;simp only[z0]at e;lia
theorem Inv.tuple(I:Inv X pins σ H s)(h:iM X.K H a xs):∃az:List Value,Vals xs az/\IsTup s.heap a az.toArray/\xs.length<=sizeLine:=by rcases h with h|⟨o,az,n,hk,hc,hs,hz,r⟩;obtain⟨z,az,r,p⟩:=h.ok I.aK;exact⟨az,r,p.tup,z⟩;refine{az.toList,r,{o,I.oO a o hk,hc,n,by simpa using hs},?_};have e:=r.length;simp only[z0]at e;lia
theorem Inv.xA(I:Inv X pins σ H s)(h:jf X.K H a xs)(h':jf X.K H a ys):xs=ys:=by
 obtain⟨az,r,⟨o,n,e,_,_,d⟩,_⟩:=I.list h;obtain⟨its',r',⟨o',n',e',_,_,d'⟩,_⟩:=I.list h';rw[e]at e';cases e';rw[d]at d';injection d' with d1 _;have:az=its':=by simpa using congrArg Array.toList d1
 subst this;exact r.inj r'
theorem Inv.nD(I:Inv X pins σ H s)(h:iM X.K H a xs)(h':iM X.K H a ys):xs=ys:=by
 obtain⟨az,r,⟨o,e,_,n,d⟩,_⟩:=I.tuple h;obtain⟨its',r',⟨o',e',_,n',d'⟩,_⟩:=I.tuple h';rw[e]at e';cases e';rw[d]at d';injection d' with d1 _;have:az=its':=by simpa using congrArg Array.toList d1
 subst this;exact r.inj r'
end
noncomputable abbrev Cx.abS(X:Cx)(E:Value->Shared->Prop):Cx:={X with xe:=E}
section
variable{X:Cx}{st:Stmt}{rest:List Stmt}{t u:TS}{e:Expr}{te:TE}{pos:Pos}
def R5:TS:=λD σ H=>D.nx σ H
def W3(t u:TS):TS:=λD σ H=>t {D with nx:=u D} σ H
theorem Ka:Df X [] R5:=λ_ _ σ H _ I h=>wpAny_execs_nil ⟨σ,H,I,h⟩
theorem GY(h1:PS X st t)(h2:Df X rest u):Df X (st::rest) (W3 t u):=by intro pins s σ H D I h;refine wpAny_execs_cons<|bz (h1 pins s σ H {D with nx:=u D} I h) λf s1 q=>?_;cases f with|next=>(obtain⟨aB,H',I',q⟩:=q;exact h2 pins s1 aB H' D I' q)|ret v=>exact q|brk=>exact q|cont=>exact q
theorem Kb(h1:PS X st t):Df X [st] t:=by intro pins s σ H D I h;refine wpAny_execs_cons<|bz (h1 pins s σ H D I h) λf s1 q=>?_;cases f with|next=>exact wpAny_execs_nil q|ret v=>exact q|brk=>exact q|cont=>exact q
theorem Inv.quiet(I:Inv X pins σ H s):interactive X.env=false:=by simp[interactive,I.ok.kind]
def R6(te:TE):TS:=λD σ H=>te σ H λ_ H1=>D.nx σ H1
theorem Kc(he:PE X e te)(hs:autoParam (swapsWith e none pos.line X.env=pure false) qQJ):PS X (.Expr e pos) (R6 te):=by intro pins s σ H D I h;exact wpAny_Expr_any (bz (he pins s σ H _ I h) <| by rintro v s1 ⟨x,H1,I1,r1,q1⟩;exact⟨σ,H1,I1,q1⟩) I.quiet hs
def W4(te:TE):TS:=λD σ H=>te σ H D.rt
theorem N_(he:PE X e te):PS X (.Return (some e) pos) (W4 te):=by intro pins s σ H D I h;exact wpAny_Return_some<|bz (he pins s σ H _ I h) <| by rintro v s1 ⟨x,H1,I1,r1,q1⟩;exact⟨x,σ,H1,I1,r1,q1⟩
def W5(c:TT)(t u:TS):TS:=λD σ H=>c σ H λb H1=>if b=true then t D σ H1 else u D σ H1
theorem R7(hc:PT X c tc)(ha:Df X a t)(hb:Df X b u):PS X (.If c a b pos) (W5 tc t u):=by intro pins s σ H D I h;refine wpAny_If<|bz (hc pins s σ H _ I h) λd s1 ⟨H1,I1,q1⟩=>?_;cases d with|true=>exact ha pins s1 σ H1 D I1 q1|false=>exact hb pins s1 σ H1 D I1 q1
end
abbrev TG:=V->St->Hp->(St->Hp->Prop)->Prop
abbrev MH:=List V->St->Hp->(St->Hp->Prop)->Prop
def PG(X:Cx)(target:Expr)(t:TG):Prop:=∀(pins:List (Addr×Obj))(s:Shared)(σ:St)(H:Hp)(v:V)(u:Value)(Q:St->Hp->Prop),Inv X pins σ H s->RelV v u->t v σ H Q->wpAny (model X.prog X.w) X.A (assign target X.env u) (λ_ s'=>∃aB H',Inv X pins aB H' s'/\Q aB H') X.xe s
def MI(X:Cx)(ts:List Expr)(t:MH):Prop:=∀(pins:List (Addr×Obj))(s:Shared)(σ:St)(H:Hp)(vs:List V)(us:List Value)(Q:St->Hp->Prop),Inv X pins σ H s->Vals vs us->t vs σ H Q->wpAny (model X.prog X.w) X.A (assignInOrder ((assignEach ts X.env).map (·.2)) us) (λ_ s'=>∃aB H',Inv X pins aB H' s'/\Q aB H') X.xe s
abbrev Oa:=V->V->V->Hp->(Hp->Prop)->Prop
def R8(X:Cx)(t:Oa):Prop:=∀(pins:List (Addr×Obj))(s:Shared)(σ:St)(H:Hp)(o i v:V)(ov iv u:Value)(Q:Hp->Prop),Inv X pins σ H s->RelV o ov->RelV i iv->RelV v u->t o i v H Q->wpAny (model X.prog X.w) X.A (setItem ov iv u) (λ_ s'=>∃H',Inv X pins σ H' s'/\Q H') X.xe s
abbrev W6:=V->V->Hp->VK->Prop
def PIp(X:Cx)(op:Operator)(t:W6):Prop:=∀(pins:List (Addr×Obj))(s:Shared)(σ:St)(H:Hp)(x y:V)(v u:Value)(Q:VK),Inv X pins σ H s->RelV x v->RelV y u->t x y H Q->wpAny (model X.prog X.w) X.A (inplaceOp op v u) (EP X pins σ Q) X.xe s
section
variable{X:Cx}{pos:Pos}
def iN(i:Nat):TG:=λv σ H Q=>Q (σ.set i<|some v) H
theorem qr(hN:X.N.Nodup)(hi:X.N[i]?=some x)(hx:Loc X.env.scope x)(hf:autoParam (X.fn x=true\/X.env.scope.names.lookup x=some .local) qQ6):PG X (.Name x pos) (iN i):=by intro pins s σ H v u Q I r h;exact wpAny_assign_Name<|je I hN hi hx r (λs' I'=>{_,H,I',h}) hf
def Ke:MH:=λvs σ H Q=>vs=[]/\Q σ H
def qL(t:TG)(u:MH):MH:=λvs σ H Q=>∃v r,vs=v::r/\t v σ H λaB H'=>u r aB H' Q
theorem Di:MI X [] Ke:=by intro pins s σ H vs us Q I r h;obtain⟨e,h⟩:=h;subst e;cases r;exact assignInOrder_nil ⟨σ,H,I,h⟩
theorem qM{t:TG}(h1:PG X e t)(h2:MI X es u) (hs:autoParam ((assignEach (e::es) X.env).map (·.2)=assign e X.env::(assignEach es X.env).map (·.2)) qQJ):MI X (e::es) (qL t u):=by intro pins s σ H vs us Q I r h;obtain⟨v,vr,e1,h⟩:=h;subst e1;cases r with|cons r rr=>rw[hs];refine assignInOrder_cons<|bz (h1 pins s σ H _ _ _ I r h) λ_ s1 ⟨xo,H1,I1,q1⟩=>?_;exact h2 pins s1 xo H1 _ _ Q I1 rr q1
def Kf(K:Frag)(n:Nat)(t:MH):TG:=λv σ H Q=>∃a xs,v=.ref a/\iM K H a xs/\xs.length=n/\t xs σ H Q
theorem GZ{t:MH}(hc:X.calm=true)(h:MI X es t) (hn:autoParam ((assignEach es X.env).length=n) qQJ) (xB:autoParam ((assignEach es X.env).findIdx? (·.1)=none) qQJ):PG X (.Tuple es k pos) (Kf X.K n t):=by intro pins s σ H v u Q I r hw;obtain⟨a,xs,e1,hq,hl,hw⟩:=hw;subst e1;cases r;obtain⟨az,rv,ht,hz⟩:=I.tuple hq;refine assign_Tuple_tuple (I.ok.hd hc) ht (by simp[hn,<-hl,rv.length]) xB λh' hx=>?_;have I1:Inv X pins σ H {s with heap:=h'}:=I.kept (t':=s.toks) λb o e=>hx b o (zB<|zw e) e;exact h pins _ σ H xs _ Q I1 (by simpa using rv) hw
def W7(to ti:TE)(t:Oa):TG:=λv σ H Q=>to σ H λo H1=>ti σ H1 λi H2=>t o i v H2 λH3=>Q σ H3
theorem Ob{t:Oa}(ho:PE X o to)(hi:PE X i ti)(hs:R8 X t)
  (ha:autoParam (∀v,assign (.Subscript o i pos) X.env v=(do
   let ov <-holding [v] (eval o X.env)
   let iv <-holding [v,ov] (eval i X.env)
   standAt pos
   holding [v,ov,iv] (setItem ov iv v)
   release [v,ov,iv] [])) qQ0):PG X (.Subscript o i pos) (W7 to ti t):=by
 intro pins s σ H v u Q I r h
 rw[ha]
 refine zc<|yK<|bz (ho pins s σ H _ I h) λov s1 ⟨x,H1,I1,r1,q1⟩=>?_
 refine zc<|yK<|bz (hi pins s1 σ H1 _ I1 q1) λiv s2 ⟨y,H2,I2,r2,q2⟩=>?_
 refine zc<|wpAny_standAt<|zc<|yK<|bz (hs pins s2 σ H2 x y v ov iv u _ I2 r1 r2 r q2) λ_ s3 ⟨H3,I3,q3⟩=>?_
 exact wpAny_release ⟨σ,H3,I3,q3⟩
def Oc(te:TE)(g:TG):TS:=λD σ H=>te σ H λx H1=>g x σ H1 D.nx
theorem G0(he:PE X e te)(hg:PG X tg g)(hs:autoParam (swapsWithSole [tg] e pos.line X.env=pure false) qQJ)(hw:autoParam (swappedStores [tg] e X.env=pure none) qQJ) (h1:autoParam ((assignEach [tg] X.env).map (·.2)=[assign tg X.env]) qQJ):PS X (.Assign [tg] e pos) (Oc te g):=by intro pins s σ H D I h;refine wpAny_Assign_stores (bz (he pins s σ H _ I h) λv s1 ⟨x,H1,I1,r1,q1⟩=>?_) hs hw;rw[h1];exact bz (hg pins s1 σ H1 x v _ I1 r1 q1) λ_ s2 q=>q
theorem Od(hN:X.N.Nodup)(hi:X.N[i]?=some x)(hx:Loc X.env.scope x)(he:PE X e te)(hs:autoParam (swapsWith e (some<|.Name x pos') pos.line X.env=pure false) qQJ)(hf:autoParam (X.fn x=true\/X.env.scope.names.lookup x=some .local) qQ6): PS X (.Assign [.Name x pos'] e pos) (Oc te<|iN i):=by intro pins s σ H D I h;refine wpAny_Assign_Name (bz (he pins s σ H _ I h) λv s1 ⟨y,H1,I1,r1,q1⟩=>?_) hs;exact je I1 hN hi hx r1 (λs2 I2=>{_,H1,I2,q1}) hf
def W8(i j:Nat)(ta:TA):TS:=λD σ H=>ta σ H λvs H1=>∃v w,vs=[v,w]/\D.nx ((σ.set i<|some v).set j<|some w) H1
theorem Oe(hc:X.calm=true)(hN:X.N.Nodup)(hi:X.N[i]?=some x)(hj:X.N[j]?=some y)(jg:i≠j) (hx:X.env.scope.names.lookup x=some .local) (hy:X.env.scope.names.lookup y=some .local) (ha:PA X [a,b] ta) (hw:swappedStores [.Tuple [.Name x px,.Name y py] kt pt] (.Tuple [a,b] k2 pt2) X.env=pure (some [x,y])) (hs:autoParam (swapsWithSole [.Tuple [.Name x px,.Name y py] kt pt] (.Tuple [a,b] k2 pt2) pos.line X.env=pure false) qQJ): PS X (.Assign [.Tuple [.Name x px,.Name y py] kt pt] (.Tuple [a,b] k2 pt2) pos) (W8 i j ta):=by
 intro pins s σ H D I h;rw[exec_Assign_arm];refine zc<|wpAny_standAt ?_;rw[hs];refine zc<|zm ?_;rw[if_neg<|by decide];refine zc<|Tuple_<|bz (ha _ pins s σ H _ I h) λus s1 ⟨vs,H1,I1,r1,q1⟩=>?_;obtain⟨v,w,e1,q1⟩:=q1;subst e1;obtain⟨u1,u2,rfl,rv,nE⟩:∃u1 u2,us=[u1,u2]/\RelV v u1/\RelV w u2:=by cases r1 with|cons p q=>cases q with|cons p' q'=>cases q';exact{_,_,rfl,p,p'}
 refine yj ?_ (by show 2<=sizeLine;decide);have I2:Inv X pins σ H1 {s1 with heap:=s1.heap.push {cls:=.type "tuple",data:=.seq [u1,u2].toArray}}:=I1.kept (t':=s1.toks) λb o e=>za _ e;rw[hw];refine zc<|zm ?_;show wpAny (model X.prog X.w) X.A (do rule "assign.swapped-stores";let items <-unpackItems (.ref s1.heap.objs.size) 2 none;assignInOrder [λv=>bindName X.env y v,λv=>bindName X.env x v] items.reverse;pure Flow.next) _ _ _;refine zc<|yX<|zc<|unpackItems_tuple (items:=#[u1,u2]) (I.ok.hd hc) (IsTup.new s1.heap _) λh' EJ=>?_;have I3:=I2.kept (h':=h') (t':=s1.toks) λb o e=>EJ b o (zB<|zw e) e;show wpAny _ _ (assignInOrder [λv=>bindName X.env y v,λv=>bindName X.env x v] [u2,u1] >>=λ_=>pure Flow.next) _ _ _;refine zc<|assignInOrder_cons<|wpAny_bindName<|je I3 hN hj (.inl hy) nE (λs2 I4=>?_)<|.inr hy;refine assignInOrder_cons<|wpAny_bindName<|je I4 hN hi (.inl hx) rv (λs3 I5=>assignInOrder_nil<|zm ?_)<|.inr hx;rw[List.set_comm _ _<|Ne.symm jg]at I5;exact{_,H1,I5,q1}
def W9(i:Nat)(te:TE)(ti:W6):TS:=λD σ H=>∃x,σ[i]?=some (some x)/\te σ H λy H1=>ti x y H1 λz H2=>D.nx (σ.set i<|some z) H2
theorem Of(hN:X.N.Nodup)(hi:X.N[i]?=some x)(hx:Loc X.env.scope x)(he:PE X e te)(ho:PIp X op ti)(hf:autoParam (X.fn x=true\/X.env.scope.names.lookup x=some .local) qQ6): PS X (.AugAssign (.Name x pos') op e pos) (W9 i te ti):=by
 intro pins s σ H D I h;obtain⟨v,e1,h⟩:=h;obtain⟨m,hn,hl⟩:=I.loc;have vis:NV X.env.scope x:=by rcases hx with k|k;exact .inl k;exact .inr<|.inl k
 obtain⟨u,r,l⟩:=hl i x v hi e1 vis;refine wpAny_AugAssign_Name ?_;have go:wpAny (model X.prog X.w) X.A (eval e X.env) (λw bV=>wpAny (model X.prog X.w) X.A (inplaceOp op u w) (λr Bi=>wpAny (model X.prog X.w) X.A (storeName X.env x r) (λ_=>SP X pins D .next) X.xe Bi) X.xe bV) X.xe s:=by refine bz (he pins s σ H _ I h) λw s1 ⟨y,H1,I1,r1,q1⟩=>?_;refine bz (ho pins s1 σ H1 v y u w _ I1 r r1 q1) λz s2 ⟨zv,H2,I2,r2,q2⟩=>?_;exact je I2 hN hi hx r2 (λs3 I3=>{_,H2,I3,q2}) hf
 rcases l with⟨hk,hm⟩|⟨hk,c,hc,Dg⟩;exact wpAny_loadName_local I.ok.kind hk hn hm go;rcases hk with hk|hk;exact wpAny_loadName_cell I.ok.kind hk hc Dg go;rcases hx with k|k;have:X.env.scope.names.lookup x=some .free:=hk;rw[k]at this;cases this;have:X.env.scope.names.lookup x=some .free:=hk;rw[k]at this;cases this
def ipI(f:Int->Int->Int):W6:=λx y H Q=>∃i j,x=.int i/\y=.int j/\Q (.int<|f i j) H
theorem Oh:PIp X .Add (ipI λi j=>i+j):=by intro pins s σ H x y v u Q I r1 r2 h;obtain⟨i,j,e1,e2,q⟩:=h;subst e1;subst e2;obtain⟨t,rfl⟩:=r1;obtain⟨t',rfl⟩:=r2;exact iadd_int {.int _,H,I.tok _,{_,rfl},q}
def Oi(c:TT)(tb:TS):TS:=λD σ H=>∃W:Nat->St->Hp->Prop,(∃m,W m σ H)/\∀m σ H,W m σ H->c σ H λb H1=>if b=true then ∃N:St->Hp->Prop,(∀aB H',N aB H'->∃m',m'<m/\W m' aB H')/\tb {D with nx:=N,ct:=N,bk:=D.nx} σ H1 else D.nx σ H1
theorem G1(hp:PassesOwn (model X.prog X.w) X.A X.env X.xe)(hc:PT X c tc)(hb:Df X body tb):PS X (.While c body [] pos) (Oi tc tb):=by intro pins s σ H D I h;obtain⟨W,⟨m0,w0⟩,turn⟩:=h;refine wpAny_While<|codeAny_whileLoop (λn s'=>∃aB H',Inv X pins aB H' s'/\W n aB H') ?_ m0 ⟨σ,H,I,w0⟩;rintro n s1 ⟨xo,H1,I1,w1⟩;refine wpAny_passesOwn hp<|bz (hc pins s1 xo H1 _ I1<|turn n xo H1 w1) λb s2 ⟨H2,I2,q2⟩=>?_;cases b with|true=>(obtain⟨N,hN,q2⟩:=q2;rw[if_pos rfl];refine wpAny_passesOwn hp<|bz (hb pins s2 xo H2 _ I2 q2) λf s3 q3=>?_;cases f with|next=>(obtain⟨fP,H3,I3,n3⟩:=q3;obtain⟨m',hm,w3⟩:=hN fP H3 n3;exact⟨m',hm,fP,H3,I3,w3⟩)|cont=>(obtain⟨fP,H3,I3,n3⟩:=q3;obtain⟨m',hm,w3⟩:=hN fP H3 n3;exact⟨m',hm,fP,H3,I3,w3⟩)|brk=>exact q3|ret v=>exact q3)|false=>rw[if_neg ze];exact wpAny_execs_nil ⟨xo,H2,I2,q2⟩
end
structure It where
 go:Nat->Hp->Prop
 R9:Nat->Hp->V->Hp->Prop
 stop:Nat->Hp->Prop
def tH(X:Cx)(pins:List<|Addr×Obj)(H:Hp)(b:Addr):Prop:=H b=none/\b≠X.env.locals/\b∉X.fs/\(b∈X.ex\/X.dm.heap.objs.size<=b)/\(∀x c,X.env.cells.lookup x=some c->c≠b)/\∀p∈X.pn++pins,p.1≠b
theorem Inv.pQ(I:Inv X pins σ H s)(hb:s.heap.objs.size<=b)(hn:H' b=none):tH X pins H' b:=by refine{hn,yx<|zr I.lt hb,I.RV hb,.inr<|zD I.sz hb,λx c e z=>?_,λp hp z=>?_};obtain⟨v,q⟩:=I.cell x c e;exact absurd (zr q.lt<|by rw[z];exact hb)<|yE _;exact absurd (zr (zw (I.pin p hp).1)<|by rw[z];exact hb)<|yE _
structure Turn(P:Program)(w:World)(K:Frag)(tg:Expr)(J:It)(fp:List Addr)(it:Addr)(tn:Nat->Heap->Prop):Prop where
 mem:it∈fp
 obj:∀i h,tn i h->∀b∈fp,∃o,h.get? b=some o/\∀v,o.data≠.cell v
 keep:∀i h h',tn i h->(∀b∈fp,∀o,h.get? b=some o->h'.get? b=some o)->tn i h'
 item:∀(X:Cx),X.prog=P->X.w=w->X.K=K->X.calm=true->∀(i:Nat)(pins:List (Addr×Obj))(s:Shared)(σ:St)(H:Hp)(E:Value->Shared->Prop),Inv X pins σ H s->(∀b∈fp,tH X pins H b)->tn i s.heap->J.go i H ->
  wpAny (model P w) X.A (pyNext<|.ref it) (λr s1=>∃u,r=some u /\
   wpAny (model P w) X.A (letOwnedTupleGo tg (.ref it) u) (λ_ s2=>∃x H',Inv X pins σ H' s2/\RelV x u/\J.R9 i H x H'/\tn (i+1) s2.heap/\∀b∈fp,H' b=none) E s1) E s
 done:∀(X:Cx),X.prog=P->X.w=w->X.K=K->X.calm=true->∀(i:Nat)(pins:List (Addr×Obj))(s:Shared)(σ:St)(H:Hp)(E:Value->Shared->Prop),Inv X pins σ H s->(∀b∈fp,tH X pins H b)->tn i s.heap->J.stop i H ->
  wpAny (model P w) X.A (pyNext<|.ref it) (λr s1=>r=none/\Inv X pins σ H s1) E s
 self:∀(A:Around)(i:Nat)(s:Shared)(Q:Value->Shared->Prop)(E:Value->Shared->Prop),tn i s.heap->Q (.ref it) s->wpAny (model P w) A (pyIter<|.ref it) Q E s
abbrev TI:=St->Hp->(It->Hp->Prop)->Prop
def W_(X:Cx)(pins:List<|Addr×Obj)(σ:St)(tg:Expr)(R:It->Hp->Prop)(VU:Value)(s2:Shared):Prop:=∃(it:Addr)(fp:List Addr)(tn:Nat->Heap->Prop)(J:It)(H':Hp),VU=.ref it/\Inv X pins σ H' s2/\Turn X.prog X.w X.K tg J fp it tn/\tn 0 s2.heap/\(∀b∈fp,tH X pins H' b)/\R J H'
def PI(X:Cx)(tg iter:Expr)(wi:TI):Prop:=∀(pins:List (Addr×Obj))(s:Shared)(σ:St)(H:Hp)(R:It->Hp->Prop),Inv X pins σ H s->wi σ H R->wpAny (model X.prog X.w) X.A (eval iter X.env) (λv s1=>wpAny (model X.prog X.w) X.A (pyIter v) (W_ X pins σ tg R) X.xe s1) X.xe s
theorem uu(ho:s.heap.get? it=some o)(hc:o.cls=.type n)(hd:o.data=.fields vs) (hn:["enumerate","zip","dict_itemiterator","dict_reverseitemiterator","odict_iterator","itertools.zip_longest","itertools.pairwise"].contains n=false) (hQ:Q () s):wpAny M A (letOwnedTupleGo tg (.ref it) u) Q E s:=by
 unfold letOwnedTupleGo
 cases tg<;>first
  |exact zm hQ
  | (cases u<;>first
    |exact zm hQ
    | (refine zc (wpAny_load ho ?_)
       rw[hc,hd]
       show wpAny M A (if (["enumerate","zip","dict_itemiterator","dict_reverseitemiterator","odict_iterator","itertools.zip_longest","itertools.pairwise"].contains n&&vs[0]?==some (rawInt _))=true then _ else _) Q E s
       rw[if_neg<|by intro h;rw[hn,zW]at h;cases h]
       exact zm hQ))
def Itl(K:Frag)(a:Addr):It:={λi H=>∃xs x,jf K H a xs/\xs[i]?=some x,λi H x H'=>H'=H/\∀xs,jf K H a xs->xs[i]?=some x,λi H=>∃xs,jf K H a xs/\xs.length<=i}
def Itt(K:Frag)(a:Addr):It:={λi H=>∃xs x,iM K H a xs/\xs[i]?=some x,λi H x H'=>H'=H/\∀xs,iM K H a xs->xs[i]?=some x,λi H=>∃xs,iM K H a xs/\xs.length<=i}
noncomputable def VV(lo:Int)(n:Nat):It:={λi _=>i<n,λi H x H'=>H'=H/\x=.int (lo+i),λi _=>n<=i}
theorem EK{P:Program}{w:World}{K:Frag}{tg:Expr}(a it:Addr):Turn P w K tg (Itl K a) [it] it (λi h=>h.IsListIter it a i) where
 mem:=by simp
 obj:=λi h st b hb=>by
  have e:b=it:=by simpa using hb
  subst e
  obtain⟨o,e,c,d⟩:=st
  exact{o,e,λv z=>by rw[d]at z;cases z}
 keep:=λi h h' st k=>st.at λo e=>k it (by simp) o e
 item:=by
  intro X hP hw hK hc i pins s σ H E I hf st hg
  subst hP hw hK
  obtain⟨xs,x,hq,hx⟩:=hg
  obtain⟨az,rv,p,hz⟩:=I.list hq
  obtain⟨u,hu,ru⟩:=rv.get hx
  obtain⟨f0,f1,f2,f3,f4,f5⟩:=hf it<|by simp
  refine wpAny_pyNext_list_item st p.isList (x:=u) (by simpa using hu) λh' eN sb=>?_
  have I1:Inv X pins σ H {s with heap:=h'}:=I.turned (t':=s.toks) (λb o hb e=>(sb.2 b hb).trans e) f0 f1 f3 f4 f5
  obtain⟨o,e,c,d⟩:=id eN
  exact{u,rfl,uu (s:={s with heap:=h'}) e c d (by decide) {x,H,I1,ru,{rfl,λys hy=>by rw[I.xA hy hq];exact hx},eN,λb hb=>(hf b hb).1}}
 done:=by
  intro X hP hw hK hc i pins s σ H E I hf st hg
  subst hP hw hK
  obtain⟨xs,hq,hx⟩:=hg
  obtain⟨az,rv,p,hz⟩:=I.list hq
  obtain⟨f0,f1,f2,f3,f4,f5⟩:=hf it<|by simp
  have hl:=rv.length
  exact wpAny_pyNext_list_end (I.ok.hd hc) st p.isList (by simp;lia) λh' eb=>{rfl,I.turned (t':=s.toks) (λb o hb e=>eb b o hb e) f0 f1 f3 f4 f5}
 self:=λ_ _ _ _ _ st h=>wpAny_pyIter_listiter st h
theorem Bj{P:Program}{w:World}{K:Frag}{tg:Expr}(a it:Addr):Turn P w K tg (Itt K a) [it] it (λi h=>h.IsTupleIter it a i) where
 mem:=by simp
 obj:=λi h st b hb=>by
  have e:b=it:=by simpa using hb
  subst e
  obtain⟨o,e,c,d⟩:=st
  exact{o,e,λv z=>by rw[d]at z;cases z}
 keep:=λi h h' st k=>st.at λo e=>k it (by simp) o e
 item:=by
  intro X hP hw hK hc i pins s σ H E I hf st hg
  subst hP hw hK
  obtain⟨xs,x,hq,hx⟩:=hg
  obtain⟨az,rv,p,hz⟩:=I.tuple hq
  obtain⟨u,hu,ru⟩:=rv.get hx
  obtain⟨f0,f1,f2,f3,f4,f5⟩:=hf it<|by simp
  refine wpAny_pyNext_tuple_item st (show s.heap.IsTuple a az.toArray from p) (x:=u) (by simpa using hu) λh' eN sb=>?_
  have I1:Inv X pins σ H {s with heap:=h'}:=I.turned (t':=s.toks) (λb o hb e=>(sb.2 b hb).trans e) f0 f1 f3 f4 f5
  obtain⟨o,e,c,d⟩:=id eN
  exact{u,rfl,uu (s:={s with heap:=h'}) e c d (by decide) {x,H,I1,ru,{rfl,λys hy=>by rw[I.nD hy hq];exact hx},eN,λb hb=>(hf b hb).1}}
 done:=by
  intro X hP hw hK hc i pins s σ H E I hf st hg
  subst hP hw hK
  obtain⟨xs,hq,hx⟩:=hg
  obtain⟨az,rv,p,hz⟩:=I.tuple hq
  obtain⟨f0,f1,f2,f3,f4,f5⟩:=hf it<|by simp
  have hl:=rv.length
  exact wpAny_pyNext_tuple_end (I.ok.hd hc) st (show s.heap.IsTuple a az.toArray from p) (by simp;lia) λh' eb=>{rfl,I.turned (t':=s.toks) (λb o hb e=>eb b o hb e) f0 f1 f3 f4 f5}
 self:=λ_ _ _ _ _ st h=>wpAny_pyIter_tupleiter st h
theorem Bk{P:Program}{w:World}{K:Frag}{tg:Expr}(it:Addr)(lo:Int)(n:Nat):Turn P w K tg (VV lo n) [it] it (λi h=>IsRangeIter h it (lo+(i:Nat)*1) ((n:Int)-(i:Nat)) 1) where
 mem:=by simp
 obj:=λi h st b hb=>by
  have e:b=it:=by simpa using hb
  subst e
  exact⟨_,st,λv z=>by
   have z':Data.fields _=Data.cell v:=z
   cases z'⟩
 keep:=λi h h' st k=>k it (by simp) _ st
 item:=by
  intro X hP hw hK hc i pins s σ H E I hf st hg
  subst hP hw hK
  obtain⟨f0,f1,f2,f3,f4,f5⟩:=hf it<|by simp
  have W:=Walks.range (prog:=X.prog) (w:=X.w) (I.ok.hd hc) it lo 1 n
  refine W.item i s _ _ hg st λv h' tk hv eN kk=>?_
  obtain⟨t,rfl⟩:=hv
  have I1:Inv X pins σ H {s with heap:=h',toks:=tk}:=I.turned (λb o hb e=>kk b o (by simpa using hb) e) f0 f1 f3 f4 f5
  refine{_,rfl,uu (s:={s with heap:=h',toks:=tk}) (n:="range_iterator") eN rfl rfl (by decide) {.int<|lo+i,H,I1,{t,?_},⟨rfl,rfl⟩,eN,λb hb=>(hf b hb).1}}
  rw[Int.mul_one]
 done:=by
  intro X hP hw hK hc i pins s σ H E I hf st hg
  subst hP hw hK
  obtain⟨f0,f1,f2,f3,f4,f5⟩:=hf it<|by simp
  exact wpAny_pyNext_range_end (I.ok.hd hc) st (by have:n<=i:=hg;lia) λh' eb=>{rfl,I.turned (t':=s.toks) (λb o hb e=>eb b o hb e) f0 f1 f3 f4 f5}
 self:=λ_ _ _ _ _ st h=>wpAny_pyIter_rangeiter st h
section
variable{X:Cx}{tg:Expr}
def R_(K:Frag)(tl:TE):TI:=λσ H R=>tl σ H λx H1=>∃a,x=.ref a/\(∃xs,jf K H1 a xs)/\R (Itl K a) H1
def Xa(K:Frag)(tl:TE):TI:=λσ H R=>tl σ H λx H1=>∃a,x=.ref a/\(∃xs,iM K H1 a xs)/\R (Itt K a) H1
theorem Kg{l:Expr}{tl:TE}(hl:PE X l tl):PI X tg l (R_ X.K tl):=by
 intro pins s σ H R I h;refine bz (hl pins s σ H _ I h) λv s1 ⟨x,H1,I1,r1,q1⟩=>?_;obtain⟨a,e,⟨xs,hq⟩,q⟩:=q1;subst e;cases r1;obtain⟨az,rv,p,hz⟩:=I1.list hq;refine wpAny_pyIter_list p.isList ?_;refine{s1.heap.objs.size,[s1.heap.objs.size],_,_,H1,rfl,I1.kept (t':=s1.toks) λb o e=>za _ e,EK a _,{_,zk _ rfl,rfl,rfl},λb hb=>?_,q};have e:b=s1.heap.objs.size:=by simpa using hb
 subst e;exact I1.pQ (zq _)<|I1.aK.fresh<|zq _
theorem Oj{l:Expr}{tl:TE}(hl:PE X l tl):PI X tg l (Xa X.K tl):=by
 intro pins s σ H R I h;refine bz (hl pins s σ H _ I h) λv s1 ⟨x,H1,I1,r1,q1⟩=>?_;obtain⟨a,e,⟨xs,hq⟩,q⟩:=q1;subst e;cases r1;obtain⟨az,rv,p,hz⟩:=I1.tuple hq;refine wpAny_pyIter_tuple (show s1.heap.IsTuple a az.toArray from p) ?_;refine{s1.heap.objs.size,[s1.heap.objs.size],_,_,H1,rfl,I1.kept (t':=s1.toks) λb o e=>za _ e,Bj a _,{_,zk _ rfl,rfl,rfl},λb hb=>?_,q};have e:b=s1.heap.objs.size:=by simpa using hb
 subst e;exact I1.pQ (zq _)<|I1.aK.fresh<|zq _
theorem G4{pins:List<|Addr×Obj}{σ:St}{H:Hp}{s:Shared}{R:It->Hp->Prop}{E:Value->Shared->Prop}{lo hi:Int}{t u v:Tok}{tk:Nat}(I:Inv X pins σ H s)(h1:-(2^62)<=lo)(h2:lo<2^62)(h3:-(2^62)<=hi)(h4:hi<2^62) (q:R (VV lo (hi-lo).toNat) H):wpAny (model X.prog X.w) X.A (pyIter<|.ref s.heap.objs.size) (W_ X pins σ tg R) E {s with heap:=s.heap.push {cls:=.type "range",data:=.fields #[.int lo t,.int hi u,.int 1 v]},toks:=tk}:=by
 refine wpAny_pyIter_range (IsRange.new ..) (small_one h1 h2 h3 h4) ?_;have I1:Inv X pins σ H {s with heap:=s.heap.push {cls:=.type "range",data:=.fields #[.int lo t,.int hi u,.int 1 v]},toks:=tk}:=I.kept λb o e=>za _ e;refine{(s.heap.push {cls:=.type "range",data:=.fields #[.int lo t,.int hi u,.int 1 v]}).objs.size,[(s.heap.push {cls:=.type "range",data:=.fields #[.int lo t,.int hi u,.int 1 v]}).objs.size],_,_,H,rfl,I1.kept (t':=tk) λb o e=>za _ e,Bk _ lo (hi-lo).toNat,?_,λb hb=>?_,q};have e1:lo+((0:Nat):Int)*1=lo:=by simp
 have e2:(((hi-lo).toNat:Nat):Int)-((0:Nat):Int)=Builtin.Range.rangeSize lo hi 1:=by rw[rangeSize_one];split<;>lia
 show IsRangeIter _ _ (lo+((0:Nat):Int)*1) ((((hi-lo).toNat:Nat):Int)-((0:Nat):Int)) 1;rw[e1,e2];exact zk _ rfl;have e:b=(s.heap.push {cls:=.type "range",data:=.fields #[.int lo t,.int hi u,.int 1 v]}).objs.size:=by simpa using hb
 subst e;exact I1.pQ (zq _)<|I1.aK.fresh<|zq _
def Sa(ta:TA):TI:=λσ H R=>ta σ H λvs H1=>∃j:Int,vs=[.int j]/\-(2^62)<=j/\j<2^62/\R (VV 0 j.toNat) H1
theorem EL{a:Expr}{ta:TA}{p pos:Pos}(hg:Gl X "range")(hm:X.mg "range"= none)(ha:PA X [a] ta)(hs:autoParam (starEach [a] X.env=[(false,eval a X.env)]) qQJ):PI X tg (.Call (.Name "range" p) [a] [] pos) (Sa ta):=by intro pins s σ H R I h;refine Call_<|gu I hg hm boot_range<|PyProof.Rows.callWith_type1 (bz (ha pos pins s σ H _ I h) λus s1 ⟨vs,H1,I1,r1,q1⟩=>?_) hs rfl;obtain⟨j,e,q1,q2,q⟩:=q1;subst e;cases r1 with|cons r rr=>cases rr;obtain⟨t,rfl⟩:=r;exact call_range_1<|G4 I1 (by lia) (by lia) q1 q2<|by simpa using q
def Xb(wi:TI)(g:TG)(tb:TS):TS:=λD σ H=>wi σ H λJ H1=>∃W:Nat->Nat->St->Hp->Prop,(∃m,W 0 m σ H1)/\∀i m σ H,W i m σ H->(J.stop i H/\D.nx σ H)\/(J.go i H/\∃N:St->Hp->Prop,(∀aB H',N aB H'->∃m',m'<m/\W (i+1) m' aB H')/\∀x H',J.R9 i H x H'->g x σ H' λqt H2=>tb {D with nx:=N,ct:=N,bk:=D.nx} qt H2)
noncomputable def qN(fp:List Addr)(h:Heap):List (Addr×Obj):=fp.filterMap λb=>(h.get? b).map λo=>(b,o)
theorem ig(hb:b∈fp)(e:h.get? b=some o):(b,o)∈qN fp h:=List.mem_filterMap.mpr {b,hb,by rw[e];rfl}
theorem EM(hp:p∈qN fp h):p.1∈fp/\h.get? p.1=some p.2:=by obtain⟨b,hb,e⟩:=List.mem_filterMap.mp hp;cases q:h.get? b with|none=>(rw[q]at e;cases e)|some o=>rw[q]at e;have e':(b,o)=p:=zU e;subst e';exact⟨hb,q⟩
theorem Inv.pinned(I:Inv X pins σ H s)(hf:∀b∈fp,tH X pins H b)(ho:∀b∈fp,∃o,s.heap.get? b=some o/\∀v,o.data≠.cell v):Inv X (pins++qN fp s.heap) σ H s:=I.lX λp hp=>(zP.mp hp).elim (λz=>I.pin p<|zG _ z) λz=>by obtain⟨hb,e⟩:=EM z;obtain⟨f0,f1,f2,_⟩:=hf p.1 hb;obtain⟨o,e',d⟩:=ho p.1 hb;rw[e]at e';cases e';exact⟨e,f0,f1,f2,d⟩
theorem Inv.qO(I:Inv X (pins++pl) σ H s):Inv X pins σ H s:=I.lX λp hp=>I.pin p<|zG _<|yr _ hp
theorem Ol(hp:PassesOwn (model X.prog X.w) X.A X.env X.xe)(hc:X.calm=true)(hi:PI X tg iter wi)(hg:PG X tg g)(hb:Df X body tb) (hs:autoParam (∀x,foldedSetIterable iter X.env x=pure x) qQ0):PS X (.For tg iter body [] pos) (Xb wi g tb):=by intro pins s σ H D I h;refine wpAny_For (bz (hi pins s σ H _ I h) λv s1 h1=>bz h1 λVU s2 h2=>?_) hs;obtain⟨it,fp,tn,J,H2,e,I2,T,MJ,f2,W,⟨m0,w0⟩,turn⟩:=h2;subst e;have Om:∀{H':Hp},(∀b∈fp,H' b=none)->∀b∈fp,tH X pins H' b:=λhn b hb=>{hn b hb,(f2 b hb).2};refine codeAny_forLoop_any (λn s'=>∃i aB H',Inv X pins aB H' s'/\tn i s'.heap/\(∀b∈fp,H' b=none)/\W i n aB H') ?_ m0 {0,σ,H2,I2,MJ,λb hb=>(f2 b hb).1,w0};rintro n s3 ⟨i,fP,H3,I3,MK,Sb,w3⟩;rcases turn i n fP H3 w3 with⟨stop,qn⟩|⟨go,N,hN,step⟩;refine wpAny_passesOwn hp<|bz (T.done X rfl rfl rfl hc i pins s3 fP H3 X.xe I3 (Om Sb) MK stop) λr s4 ⟨hr,I4⟩=>?_;subst hr;exact wpAny_execs_nil ⟨fP,H3,I4,qn⟩;{refine wpAny_passesOwn hp<|bz (T.item X rfl rfl rfl hc i pins s3 fP H3 X.xe I3 (Om Sb) MK go) λr s4 ⟨u,hr,h4⟩=>?_;subst hr;refine wpAny_passesOwn hp<|bz h4 λ_ s5 ⟨x,H5,I5,r5,y5,JR,fr5⟩=>?_;have Xc:=I5.pinned (Om fr5)<|T.obj _ _ JR;refine wpAny_passesOwn hp<|bz (hg _ s5 fP H5 x u _ Xc r5<|step x H5 y5) λ_ s6 ⟨Sd,H6,I6,q6⟩=>?_;refine wpAny_passesOwn hp<|bz (hb _ s6 Sd H6 _ I6 q6) λf s7 q7=>?_;have again:∀{G5:St}{H7:Hp},Inv X (pins++qN fp s5.heap) G5 H7 s7->N G5 H7->∃m,m<n/\∃i aB H',Inv X pins aB H' s7/\tn i s7.heap/\(∀b∈fp,H' b=none)/\W i m aB H':=λ{G5 H7} I7 n7=>(by obtain⟨m',hm,w7⟩:=hN G5 H7 n7;refine{m',hm,i+1,G5,H7,I7.qO,T.keep _ _ _ JR λb hb o e=>(I7.pin (b,o)<|zG _<|zG _<|ig hb e).1,λb hb=>?_,w7};obtain⟨o,e,d⟩:=T.obj _ _ JR b hb;exact(I7.pin (b,o)<|zG _<|zG _<|ig hb e).2.1);cases f with|next=>(obtain⟨G5,H7,I7,n7⟩:=q7;exact again I7 n7)|cont=>(obtain⟨G5,H7,I7,n7⟩:=q7;exact again I7 n7)|brk=>(obtain⟨G5,H7,I7,q7⟩:=q7;exact⟨G5,H7,I7.qO,q7⟩)|ret v=>obtain⟨x7,G5,H7,I7,r7,q7⟩:=q7;exact⟨x7,G5,H7,I7.qO,r7,q7⟩}
end
abbrev R2:=V->V->Hp->VK->Prop
def ia(X:Cx)(f:Value->Value->Sem Value)(r:R2):Prop:=∀(pins:List (Addr×Obj))(s:Shared)(σ:St)(H:Hp)(x y:V)(v u:Value)(Q:VK),Inv X pins σ H s->RelV x v->RelV y u->r x y H Q->wpAny (model X.prog X.w) X.A (f v u) (EP X pins σ Q) X.xe s
def Xd(X:Cx)(f:Value->Sem Value)(r:V->Hp->VK->Prop):Prop:=∀(pins:List (Addr×Obj))(s:Shared)(σ:St)(H:Hp)(x:V)(v:Value)(Q:VK),Inv X pins σ H s->RelV x v->r x H Q->wpAny (model X.prog X.w) X.A (f v) (EP X pins σ Q) X.xe s
def eF(X:Cx)(f:Value)(r:List V->Hp->VK->Prop):Prop:=∀(pins:List (Addr×Obj))(s:Shared)(σ:St)(H:Hp)(xs:List V)(us:List Value)(Q:VK),Inv X pins σ H s->Vals xs us->r xs H Q->wpAny (model X.prog X.w) X.A (call f us) (EP X pins σ Q) X.xe s
def Q3(r:R2)(ta tb:TE):TE:=λσ H Q=>ta σ H λx H1=>tb σ H1 λy H2=>r x y H2 Q
def tUn(r:V->Hp->VK->Prop)(ta:TE):TE:=λσ H Q=>ta σ H λx H1=>r x H1 Q
def rI(C:Int->Int->Prop)(g:Int->Int->V):R2:=λx y H Q=>∃i j,x=.int i/\y=.int j/\C i j/\Q (g i j) H
def Kh(g:Int->Int->V):R2:=λx y H Q=>∃i j,x=.int i/\y=.int j/\Q (g i j) H
def rU(g:Int->V):V->Hp->VK->Prop:=λx H Q=>∃i,x=.int i/\Q (g i) H
section
variable{X:Cx}{a b:Expr}{ta tb:TE}{pos:Pos}
theorem Oo(ha:PE X a ta)(hb:PE X b tb){pins:List<|Addr×Obj}{s:Shared}{σ:St}{H:Hp}{R:V->V->Hp->Prop}(I:Inv X pins σ H s) (h:ta σ H λx H1=>tb σ H1 λy H2=>R x y H2) {Q:Value->Shared->Prop}{f:Value->Value->Sem Value} (hf:∀v u s2 x y H2,Inv X pins σ H2 s2->RelV x v->RelV y u->R x y H2->wpAny (model X.prog X.w) X.A (f v u) Q X.xe s2): wpAny (model X.prog X.w) X.A (eval a X.env) (λv bf=>wpAny (model X.prog X.w) X.A (eval b X.env) (λu bV=>wpAny (model X.prog X.w) X.A (f v u) Q X.xe bV) X.xe bf) X.xe s:=by refine bz (ha pins s σ H _ I h) λv s1 ⟨x,H1,I1,r1,q1⟩=>?_;refine bz (hb pins s1 σ H1 _ I1 q1) λu s2 ⟨y,H2,I2,r2,q2⟩=>?_;exact hf v u s2 x y H2 I2 r1 r2 q2
theorem Se{op:Operator}{r:R2}(ho:ia X (binaryOp op) r)(ha:PE X a ta)(hb:PE X b tb):PE X (.BinOp a op b pos) (Q3 r ta tb):=by intro pins s σ H Q I h;exact wpAny_BinOp<|Oo ha hb I h λv u s2 x y H2 I2 rx ry q=>ho pins s2 σ H2 x y v u Q I2 rx ry q
theorem Sf(ho:Xd X (unaryOp op) r)(ha:PE X a ta):PE X (.UnaryOp op a pos) (tUn r ta):=by intro pins s σ H Q I h;exact UnaryOp_<|bz (ha pins s σ H _ I h) <| by rintro v s1 ⟨x,H1,I1,r1,q1⟩;exact ho pins s1 σ H1 x v Q I1 r1 q1
theorem VW{f:Value->Value->Sem Value}{C:Int->Int->Prop}{g:Int->Int->Int} (rule:∀(i j:Int)(t u:Tok)(s:Shared)(Q:Value->Shared->Prop)(E:Value->Shared->Prop),C i j->Q (.int (g i j) s.toks) {s with toks:=s.toks+1}->wpAny (model X.prog X.w) X.A (f (.int i t)<|.int j u) Q E s): ia X f (rI C λi j=>.int<|g i j):=by intro pins s σ H x y v u Q I rx ry h;obtain⟨i,j,rfl,rfl,hc,q⟩:=h;obtain⟨t,rfl⟩:=rx;obtain⟨t',rfl⟩:=ry;exact rule i j t t' s _ _ hc {.int<|g i j,H,I.tok _,{_,rfl},q}
theorem Sh{f:Value->Value->Sem Value}{g:Int->Int->Int} (rule:∀(i j:Int)(t u:Tok)(s:Shared)(Q:Value->Shared->Prop)(E:Value->Shared->Prop),Q (.int (g i j) s.toks) {s with toks:=s.toks+1}->wpAny (model X.prog X.w) X.A (f (.int i t)<|.int j u) Q E s): ia X f (Kh λi j=>.int<|g i j):=by intro pins s σ H x y v u Q I rx ry h;obtain⟨i,j,rfl,rfl,q⟩:=h;obtain⟨t,rfl⟩:=rx;obtain⟨t',rfl⟩:=ry;exact rule i j t t' s _ _ {.int<|g i j,H,I.tok _,{_,rfl},q}
theorem Ki{f:Value->Value->Sem Value}{g:Int->Int->Bool} (rule:∀(i j:Int)(t u:Tok)(s:Shared)(Q:Value->Shared->Prop)(E:Value->Shared->Prop),Q (.bool<|g i j) s->wpAny (model X.prog X.w) X.A (f (.int i t)<|.int j u) Q E s): ia X f (Kh λi j=>.bl<|g i j):=by intro pins s σ H x y v u Q I rx ry h;obtain⟨i,j,rfl,rfl,q⟩:=h;obtain⟨t,rfl⟩:=rx;obtain⟨t',rfl⟩:=ry;exact rule i j t t' s _ _ {.bl<|g i j,H,I,rfl,q}
def Si(i j:Int):Prop:=0<=j/\j<=1000000/\i.natAbs<2^64
def Kj(i j:Int):Prop:=(-(2^64)<i/\i<2^64)\/(-(2^64)<j/\j<2^64)
theorem Kj.ok{i j:Int}(h:Kj i j):IntMulOk i j:=by rcases h with⟨h1,h2⟩|⟨h1,h2⟩;exact .of_left<|intBits_le_64 h1 h2;exact .of_right<|intBits_le_64 h1 h2
theorem Oq:ia X (binaryOp .Add) (Kh λi j=>.int<|i+j):=Sh λ_ _ _ _ _ _ _ q=>add_int q
theorem Ot:ia X (binaryOp .Sub) (Kh λi j=>.int<|i-j):=Sh λ_ _ _ _ _ _ _ q=>sub_int q
theorem Ou:ia X (binaryOp .Mult) (rI Kj λi j=>.int<|i*j):=VW λ_ _ _ _ _ _ _ hc q=>mul_int q hc.ok
theorem Ov:ia X (binaryOp .Mod) (rI (λ_ j=>0<j) λi j=>.int<|i%j):=VW λi j _ _ _ _ _ hc q=>by have h1:(0:Int)<j:=hc;exact mod_int' (by lia)<|by rw[Int.fmod_eq_emod_of_nonneg i<|by lia];exact q
theorem Ow:ia X (binaryOp .Pow) (rI Si λi j=>.int<|i^j.toNat):=VW λ_ _ _ _ _ _ _ hc q=>pow_int_small hc.1 hc.2.1 hc.2.2 q
theorem unI{f:Value->Sem Value}{g:Int->Int} (rule:∀(i:Int)(t:Tok)(s:Shared)(Q:Value->Shared->Prop)(E:Value->Shared->Prop),Q (.int (g i) s.toks) {s with toks:=s.toks+1}->wpAny (model X.prog X.w) X.A (f<|.int i t) Q E s): Xd X f (rU λi=>.int<|g i):=by intro pins s σ H x v Q I rx h;obtain⟨i,rfl,q⟩:=h;obtain⟨t,rfl⟩:=rx;exact rule i t s _ _ {.int<|g i,H,I.tok _,{_,rfl},q}
theorem Ox:Xd X (unaryOp .USub) (rU λi=>.int (-i)):=unI λ_ _ _ _ _ q=>neg_int q
end
noncomputable def Sj:V->V->Bool|.au,.au=>true|.au,.int _=>true|.int _,.au=>true|.au,.bl _=>true|.bl _,.au=>true|.au,.str _=>true|.str _,.au=>true|.int _,.int _=>true|.bl _,.bl _=>true|.str _,.str _=>true|.Dd _,.Dd _=>true|.int _,.str _=>true|.str _,.int _=>true|.bl _,.str _=>true|.str _,.bl _=>true|_,_=>false
def rEq:R2:=λx y H Q=>Sj x y=true/\Q (.bl<|decide<|x=y) H
def rNe:R2:=λx y H Q=>Sj x y=true/\Q (.bl<|!decide (x=y)) H
theorem Dj:decide (V.int i=V.int j)=(i==j):=by rw[yu];simp
theorem G6:decide (V.bl i=V.bl j)=(i==j):=by rw[yu];simp
theorem Dk:decide (V.str i=V.str j)=(i==j):=by rw[yu];simp
theorem Dm:decide (V.Dd i=V.Dd j)=(i.toList==j.toList):=by rw[yu];cases i;cases j;simp
section
variable{X:Cx}{a b c:Expr}{ta tb tc:TE}{pos:Pos}
theorem aG(I:Inv X pins σ H s)(q:Q (.bl k) H)(e:k=k'):EP X pins σ Q (.bool k') s:=by subst e;exact{.bl k,H,I,rfl,q}
theorem ML:ia X (compareOp .Eq) rEq:=by intro pins s σ H x y v u Q I rx ry h;obtain⟨hs,q⟩:=h;cases x with|au=>(cases rx;cases y with|au=>(cases ry;exact PySem.EqNone.eq_none_none<|aG I q<|by simp)|bl j=>(cases ry;exact PySem.EqNone.eq_none_bool<|aG I q<|by simp)|int j=>(obtain⟨t',rfl⟩:=ry;exact PySem.EqNone.eq_none_int<|aG I q<|by simp)|str j=>(obtain⟨t',rfl⟩:=ry;exact PySem.EqNone.eq_none_str<|aG I q<|by simp)|_=>exact absurd (show false=true from hs) ze)|bl i=>(cases rx;cases y with|au=>(cases ry;exact PySem.EqNone.eq_bool_none<|aG I q<|by simp)|bl j=>(cases ry;exact eq_bool<|aG I q G6)|str j=>(obtain⟨t',rfl⟩:=ry;exact PySem.EqMixed.eq_bool_str<|aG I q<|by simp)|_=>exact absurd (show false=true from hs) ze)|int i=>(obtain⟨t,rfl⟩:=rx;cases y with|au=>(cases ry;exact PySem.EqNone.eq_int_none<|aG I q<|by simp)|int j=>(obtain⟨t',rfl⟩:=ry;exact eq_int<|aG I q Dj)|str j=>(obtain⟨t',rfl⟩:=ry;exact PySem.EqMixed.eq_int_str<|aG I q<|by simp)|_=>exact absurd (show false=true from hs) ze)|str i=>(obtain⟨t,rfl⟩:=rx;cases y with|au=>(cases ry;exact PySem.EqNone.eq_str_none<|aG I q<|by simp)|bl j=>(cases ry;exact PySem.EqMixed.eq_str_bool<|aG I q<|by simp)|int j=>(obtain⟨t',rfl⟩:=ry;exact PySem.EqMixed.eq_str_int<|aG I q<|by simp)|str j=>(obtain⟨t',rfl⟩:=ry;exact eq_str<|aG I q Dk)|_=>exact absurd (show false=true from hs) ze)|Dd i=>(obtain⟨t,rfl⟩:=rx;cases y with|Dd j=>(obtain⟨t',rfl⟩:=ry;exact PySem.W.eq_bytes<|aG I q Dm)|_=>exact absurd (show false=true from hs) ze)|_=>cases y<;>exact absurd (show false=true from hs) ze
theorem MM:ia X (compareOp .NotEq) rNe:=by intro pins s σ H x y v u Q I rx ry h;obtain⟨hs,q⟩:=h;cases x with|au=>(cases rx;cases y with|au=>(cases ry;exact PySem.EqNone.ne_none_none<|aG I q<|by simp)|bl j=>(cases ry;exact PySem.EqNone.ne_none_bool<|aG I q<|by simp)|int j=>(obtain⟨t',rfl⟩:=ry;exact PySem.EqNone.ne_none_int<|aG I q<|by simp)|str j=>(obtain⟨t',rfl⟩:=ry;exact PySem.EqNone.ne_none_str<|aG I q<|by simp)|_=>exact absurd (show false=true from hs) ze)|bl i=>(cases rx;cases y with|au=>(cases ry;exact PySem.EqNone.ne_bool_none<|aG I q<|by simp)|bl j=>(cases ry;exact ne_bool<|aG I q<|congrArg not G6)|str j=>(obtain⟨t',rfl⟩:=ry;exact PySem.EqMixed.ne_bool_str<|aG I q<|by simp)|_=>exact absurd (show false=true from hs) ze)|int i=>(obtain⟨t,rfl⟩:=rx;cases y with|au=>(cases ry;exact PySem.EqNone.ne_int_none<|aG I q<|by simp)|int j=>(obtain⟨t',rfl⟩:=ry;exact ne_int<|aG I q<|congrArg not Dj)|str j=>(obtain⟨t',rfl⟩:=ry;exact PySem.EqMixed.ne_int_str<|aG I q<|by simp)|_=>exact absurd (show false=true from hs) ze)|str i=>(obtain⟨t,rfl⟩:=rx;cases y with|au=>(cases ry;exact PySem.EqNone.ne_str_none<|aG I q<|by simp)|bl j=>(cases ry;exact PySem.EqMixed.ne_str_bool<|aG I q<|by simp)|int j=>(obtain⟨t',rfl⟩:=ry;exact PySem.EqMixed.ne_str_int<|aG I q<|by simp)|str j=>(obtain⟨t',rfl⟩:=ry;exact ne_str<|aG I q<|congrArg not Dk)|_=>exact absurd (show false=true from hs) ze)|Dd i=>(obtain⟨t,rfl⟩:=rx;cases y with|Dd j=>(obtain⟨t',rfl⟩:=ry;exact PySem.W.ne_bytes<|aG I q<|congrArg not Dm)|_=>exact absurd (show false=true from hs) ze)|_=>cases y<;>exact absurd (show false=true from hs) ze
theorem Sk:ia X (compareOp .Lt) (Kh λi j=>.bl<|decide<|i<j):=Ki λ_ _ _ _ _ _ _ q=>lt_int q
theorem Sl:ia X (compareOp .LtE) (Kh λi j=>.bl<|decide<|i<=j):=Ki λ_ _ _ _ _ _ _ q=>le_int q
theorem Sm:ia X (compareOp .Gt) (Kh λi j=>.bl<|decide<|j<i):=Ki λ_ _ _ _ _ _ _ q=>gt_int q
theorem Sn:ia X (compareOp .GtE) (Kh λi j=>.bl<|decide<|j<=i):=Ki λ_ _ _ _ _ _ _ q=>ge_int q
theorem EN:ia X (compareOp .Lt) (λx y H Q=>∃i j,x=.str i/\y=.str j/\Q (.bl<|decide<|i.cps.toList<j.cps.toList) H):=by intro pins s σ H x y v u Q I rx ry h;obtain⟨i,j,rfl,rfl,q⟩:=h;obtain⟨t,rfl⟩:=rx;obtain⟨t',rfl⟩:=ry;exact lt_str<|aG I q rfl
theorem EO:ia X (compareOp .In) (λx y H Q=>∃i j,x=.str i/\y=.str j/\Q (.bl<|!(Builtin.Str.occurrences j i 0 j.length 1).isEmpty) H):=by intro pins s σ H x y v u Q I rx ry h;obtain⟨i,j,rfl,rfl,q⟩:=h;obtain⟨t,rfl⟩:=rx;obtain⟨t',rfl⟩:=ry;exact in_str<|aG I q rfl
theorem Oy:ia X (compareOp .Is) (λx y H Q=>y=.au/\Q (.bl<|decide<|x=.au) H):=by intro pins s σ H x y v u Q I rx ry h;obtain⟨rfl,q⟩:=h;cases ry;refine is_none_gen<|aG I q ?_;cases x<;>first| (cases rx;rfl)| (obtain⟨t,rfl⟩:=rx;rfl)
theorem Kk:ia X (compareOp .IsNot) (λx y H Q=>y=.au/\Q (.bl<|!decide (x=.au)) H):=by intro pins s σ H x y v u Q I rx ry h;obtain⟨rfl,q⟩:=h;cases ry;refine isnot_none_gen<|aG I q ?_;cases x<;>first| (cases rx;rfl)| (obtain⟨t,rfl⟩:=rx;rfl)
theorem Xe(b:Expr)(h:autoParam (op≠.In) qQZ)(h2:autoParam (op≠.NotIn) qQZ):behindInMarks op b=false:=by
 have e1:(op==CmpOp.In)=false:=by cases op<;>first|rfl|exact absurd rfl h
 have e2:(op==CmpOp.NotIn)=false:=by cases op<;>first|rfl|exact absurd rfl h2
 cases b<;>simp[behindInMarks,e1,e2]
theorem Dn{op:CmpOp}{r:R2}(ho:ia X (compareOp op) r)(ha:PE X a ta)(hb:PE X b tb)(hm:behindInMarks op b=false):PE X (.Compare a [op] [b] pos) (Q3 r ta tb):=by intro pins s σ H Q I h;exact wpAny_Compare1 (Oo ha hb I h λv u s2 x y H2 I2 rx ry q=>ho pins s2 σ H2 x y v u Q I2 rx ry q) hm
def G7(t:TE):TT:=λσ H Q=>t σ H λx H'=>∃k,x=.bl k/\Q k H'
theorem Kl{op:CmpOp}{r:R2}(ho:ia X (compareOp op) r)(ha:PE X a ta)(hb:PE X b tb)(hm:behindInMarks op b=false):PT X (.Compare a [op] [b] pos) (G7<|Q3 r ta tb):=by intro pins s σ H Q I h;refine wpAny_isTrue_Compare1 (bz (ha pins s σ H _ I h) λv s1 ⟨x,H1,I1,r1,q1⟩=>bz (hb pins s1 σ H1 _ I1 q1) λu s2 ⟨y,H2,I2,r2,q2⟩=>bz (ho pins s2 σ H2 x y v u _ I2 r1 r2 q2) λc s3 ⟨z,H3,I3,r3,k,e,q3⟩=>?_) hm;subst e;cases r3;exact yA ⟨H3,I3,q3⟩
def Bl(r r':R2)(ta tb tc:TE):TE:=λσ H Q=>ta σ H λx H1=>tb σ H1 λy H2=>r x y H2 λz H3=>∃k,z=.bl k/\(if k=true then tc σ H3 λw' H4=>r' y w' H4 Q else Q (.bl false) H3)
theorem G8{op ER:CmpOp}{r r':R2}(ho:ia X (compareOp op) r)(Bf:ia X (compareOp ER) r')(ha:PE X a ta)(hb:PE X b tb)(hc:PE X c tc) (hm:autoParam (lastMarks [op,ER] [b,c]=false) qQ2):PE X (.Compare a [op,ER] [b,c] pos) (Bl r r' ta tb tc):=by intro pins s σ H Q I h;refine Compare_chain (bz (ha pins s σ H _ I h) λv s1 ⟨x,H1,I1,r1,q1⟩=>chain_link<|bz (hb pins s1 σ H1 _ I1 q1) λu s2 ⟨y,H2,I2,r2,q2⟩=>bz (ho pins s2 σ H2 x y v u _ I2 r1 r2 q2) λd s3 ⟨z,H3,I3,r3,k,e,q3⟩=>?_) hm;subst e;cases r3;refine yA ?_;cases k with|false=>exact ite_ff {.bl false,H3,I3,rfl,q3}|true=>exact ite_tt<|chain_last<|bz (hc pins s3 σ H3 _ I3 q3) λw' s4 ⟨z',H4,I4,r4,q4⟩=>Bf pins s4 σ H4 y z' u w' Q I4 r2 r4 q4
theorem G9{op ER:CmpOp}{r r':R2}(ho:ia X (compareOp op) r)(Bf:ia X (compareOp ER) r')(ha:PE X a ta)(hb:PE X b tb)(hc:PE X c tc) (hm:autoParam (lastMarks [op,ER] [b,c]=false) qQ2):PT X (.Compare a [op,ER] [b,c] pos) (G7<|Bl r r' ta tb tc):=by intro pins s σ H Q I h;refine isTrue_chain (bz (ha pins s σ H _ I h) λv s1 ⟨x,H1,I1,r1,q1⟩=>test_link<|bz (hb pins s1 σ H1 _ I1 q1) λu s2 ⟨y,H2,I2,r2,q2⟩=>bz (ho pins s2 σ H2 x y v u _ I2 r1 r2 q2) λd s3 ⟨z,H3,I3,r3,k,e,q3⟩=>?_) hm;subst e;cases r3;refine yA ?_;cases k with|false=>(obtain⟨k',e',q'⟩:=q3;cases e';exact ite_ff ⟨H3,I3,q'⟩)|true=>refine ite_tt<|test_last<|bz (hc pins s3 σ H3 _ I3 q3) λw' s4 ⟨z',H4,I4,r4,q4⟩=>bz (Bf pins s4 σ H4 y z' u w' _ I4 r2 r4 q4) λd' s5 ⟨z2,H5,I5,r5,k2,e2,q5⟩=>?_;subst e2;cases r5;exact yA ⟨H5,I5,q5⟩
theorem qP:(sizeLine:Nat)<2^63:=by rw[yg];decide
theorem Bn:ia X (binaryOp .Add) (λx y H Q=>∃i j,x=.str i/\y=.str j/\i.length+j.length<=sizeLine/\Q (.str<|i++j) H):=by intro pins s σ H x y v u Q I rx ry h;obtain⟨i,j,rfl,rfl,hz,q⟩:=h;obtain⟨t,rfl⟩:=rx;obtain⟨t',rfl⟩:=ry;exact add_str (λt' tk=>{.str<|i++j,H,I.tok _,{_,rfl},q}) hz
theorem vals1(r:Vals [x] us):∃u,us=[u]/\RelV x u:=by cases r with|cons r1 r2=>cases r2;exact{_,rfl,r1}
theorem vals2(r:Vals [x,y] us):∃u w',us=[u,w']/\RelV x u/\RelV y w':=by cases r with|cons r1 r2=>cases r2 with|cons r3 r4=>cases r4;exact{_,_,rfl,r1,r3}
theorem ES(hc:X.calm=true):eF X (.builtin "max") (λxs H Q=>∃i j,xs=[.int i,.int j]/\Q (.int<|if j>i then j else i) H):=by intro pins s σ H xs us Q I r h;obtain⟨i,j,rfl,q⟩:=h;obtain⟨u,w',rfl,⟨t,rfl⟩,⟨t',rfl⟩⟩:=vals2 r;refine max_two_ints (I.ok.hd hc) λh' tk k=>{_,H,I.kept k,?_,q};by_cases hj:j>i;rw[if_pos hj,if_pos hj];exact{_,rfl};rw[if_neg hj,if_neg hj];exact{_,rfl}
theorem ET(hc:X.calm=true):eF X (.builtin "min") (λxs H Q=>∃i j,xs=[.int i,.int j]/\Q (.int<|if j<i then j else i) H):=by intro pins s σ H xs us Q I r h;obtain⟨i,j,rfl,q⟩:=h;obtain⟨u,w',rfl,⟨t,rfl⟩,⟨t',rfl⟩⟩:=vals2 r;refine min_two_ints (I.ok.hd hc) λh' tk k=>{_,H,I.kept k,?_,q};by_cases hj:j<i;rw[if_pos hj,if_pos hj];exact{_,rfl};rw[if_neg hj,if_neg hj];exact{_,rfl}
theorem uv:eF X (.type "int") (λxs H Q=>(∃i,xs=[.int i]/\Q (.int i) H)\/∃k,xs=[.bl k]/\Q (.int<|if k then 1 else 0) H):=by intro pins s σ H xs us Q I r h;rcases h with⟨i,rfl,q⟩|⟨k,rfl,q⟩;obtain⟨u,rfl,t,rfl⟩:=vals1 r;exact call_int_int {.int i,H,I,{_,rfl},q};obtain⟨u,rfl,r1⟩:=vals1 r;cases r1;exact call_int_bool {.int<|if k then 1 else 0,H,I.tok _,{_,rfl},q}
def Xf(K:Frag)(x:V)(H:Hp)(n:Nat):Prop:=match x with|.str y=>y.length<=sizeLine/\n=y.length|.Dd y=>y.size<=sizeLine/\n=y.size|.ref p=>(∃xs,jf K H p xs/\n=xs.length)\/∃xs,iM K H p xs/\n=xs.length|_=>False
theorem jh:eF X (.builtin "len") (λxs H Q=>∃x n,xs=[x]/\Xf X.K x H n/\Q (.int n) H):=by intro pins s σ H xs us Q I r h;obtain⟨x,n,rfl,e,q⟩:=h;obtain⟨u,rfl,rx⟩:=vals1 r;have hl:=qP;have hs:sizeLine=16777216:=yg;cases x with|str y=>(obtain⟨t,rfl⟩:=rx;obtain⟨hy,e'⟩:y.length<=sizeLine/\n=y.length:=e;subst e';exact len_str (by lia) {.int _,H,I.tok _,{_,rfl},q})|Dd y=>(obtain⟨t,rfl⟩:=rx;obtain⟨hy,e'⟩:y.size<=sizeLine/\n=y.size:=e;subst e';exact PySem.W.len_bytes (by lia) {.int _,H,I.tok _,{_,rfl},q})|ref p=>(cases rx;have e':(∃xs,jf X.K H p xs/\n=xs.length)\/∃xs,iM X.K H p xs/\n=xs.length:=e;rcases e' with⟨xs,hx,e'⟩|⟨xs,hx,e'⟩;subst e';obtain⟨az,r',pl,hz⟩:=I.list hx;have hlen:=r'.length;exact Calls.call_len_list pl.isList (by simp only[zo];lia) {.int xs.length,H,I.tok _,{_,by simp only[zo];rw[hlen]},q};subst e';obtain⟨az,r',pl,hz⟩:=I.tuple hx;have hlen:=r'.length;exact len_tuple pl (by simp only[zo];lia) {.int xs.length,H,I.tok _,{_,by simp only[zo];rw[hlen]},q})|_=>exact(show False from e).elim
end
structure Bo(h:Heap)(x dx C:Addr)(mA:Str->Option Value):Prop where
 obj:h.get? x=some (instObj C dx)
 ns:h.Ns1 dx mA
 ne:dx≠x
theorem EU{h:Heap}{dx:Addr}{mA:Str->Option Value}(n:h.Ns1 dx mA):∃od,h.get? dx=some od/\∀name,lookIn name od=some (mA name):=by
 obtain⟨o,es,ep,ho,hd,hk,_,hm⟩:=n;refine{o,ho,λname=>?_};have e:=hm name;unfold nsFind findBy at e;rw[<-Array.find?_toList]at e;unfold lookIn;rw[hd];dsimp only;split;rename_i y q;rw[q]at e;exact congrArg some e;rename_i q;rw[q]at e;have a:es.toList.any (·.refKey)=false:=by rw[List.any_eq_false];intro y hy;obtain⟨z,t,Oz⟩:=hk y<|Array.mem_toList_iff.mp hy;simp[DictEntry.refKey,Oz]
 have a':¬es.toList.any (·.refKey)=true:=by rw[a];exact ze
 rw[if_neg a'];exact congrArg some e
theorem Bo.look(I:Bo h x dx C mA):∃od,PySem.W.InstAt h x (instObj C dx) C (some od)/\∀name,lookIn name od=some (mA name):=
 let ⟨od,ho,hl⟩:=EU I.ns
 ⟨od,⟨I.obj,rfl,rfl,ho⟩,hl⟩
section
variable{prog:Program}{w:World}{A:Around}{E:Value->Shared->Prop}{s:Shared}{K:Frag}{x dx C f:Addr}{mA:Str->Option Value}{name:Str}{v:Value}
theorem get_map(X:K.In s.heap)(I:Bo s.heap x dx C mA)(hg:plainGet K C name=true)(hh:hasDictIn K C=true) (ha:findIn K (.ref C) name=some none) (hv:mA name=some v) (MN:handedIn v=true) (h:Q v {s with toks:=s.toks+1}): wpAny (model prog w) A (getAttr (.ref x) name expr) Q E s:=by obtain⟨od,J,hl⟩:=I.look;exact PySem.W.get_value X J (plainGet_of hg).1 (PySem.W.findObj_own hh ha rfl<|by rw[hl,hv]) MN h
theorem G_(X:K.In s.heap)(I:Bo s.heap x dx C mA)(hg:plainGet K C name=true) (hf:findIn K (.ref C) name=some (some<|.ref f)) (ht:isFn K (.ref f)=true) (hv:mA name=none) (h:Q (.ref f,[.ref x]) s): wpAny (model prog w) A (getMethod (.ref x) name pl) Q E s:=by obtain⟨od,J,hl⟩:=I.look;exact PySem.W.method_fn X J (plainGet_of hg).1 (plainGet_of hg).2 hf (beq_iff_eq.mp ht) (by show(lookIn name od).map (·.isSome)=some false;rw[hl,hv];rfl) h
theorem Km(X:K.In s.heap)(I:Bo s.heap x dx C mA) (hs:findIn K (.ref C) "__setattr__"= some (some<|.builtin "object.__setattr__")) (hp:plainOver K C=true) (ht:takerIn K C name=some none) (hh:hasDictIn K C=true) (hw:PySem.Within mA ns) (hsz:ns.length<=sizeLine) (h:∀h',Bo h' x dx C (λy=>if y=name then some v else mA y)->Heap.SameBut dx s.heap h'->Q () {s with heap:=h',toks:=s.toks+2}): wpAny (model prog w) A (setAttr (.ref x) name v) Q E s:=by obtain⟨od,J,hl⟩:=I.look;refine PySem.W.set_plain X J hs<|PySem.W.osa_open (s:={s with toks:=s.toks+1}) (r:=none) X J hp ht λb=>?_;obtain⟨cd,hc,Bh⟩:=PySem.W.any_some hh;have hx:s.heap.get? x=some {.ref C,some dx,.plain,#[]}:=I.obj;refine zc<|zm<|zc<|zc<|wpAny_loadPart hx<|zc<|PySem.W.Looks.here (s:={s with toks:=s.toks+1}) (PySem.W.looks_clsIn X hc) ?_;rw[Bh];refine zm (a:=some dx)<|zc<|zm<|zc ?_;refine wpAny_nsSet1 (s:={s with toks:=s.toks+1}) I.ns λh' MO vj=>?_;obtain⟨oD,esD,epD,hoD,hdD,hcD⟩:=MO.count<|PySem.Within.cons name v hw;refine zc<|wpAny_lookBehind hoD (by rw[hdD];exact pastItsLine_dict<|zD hcD<|by rw[zQ];lia) ?_;exact zm<|h _ {(vj.2 _<|Ne.symm I.ne).trans I.obj,MO,I.ne} vj
theorem Ha(X:K.In s.heap)(hm:makesIn K C=true) (hi:findIn K (.ref C) "__init__"= some (some<|.ref f)) (hf:PySem.W.typeIn K (.ref f)=some (.type "function")) (h:codeAny (model prog w) (A.under<|.builtin "type.__call__" {.ref C::vs,kw}) (.call (.ref f) {.ref (s.heap.objs.size+1)::vs,kw}) (PySem.W.InitBack (s.heap.objs.size+1) R) {s with heap:=(s.heap.push emptyDict).push<|instObj C s.heap.objs.size}): codeAny (model prog w) A (.call (.ref C) ⟨vs,kw⟩) R s:=by obtain⟨hh,g,d,t,os⟩:=s;exact PySem.W.make_core (PySem.W.makes_of X hm) (PySem.W.looks_findIn X hi) (λself=>PySem.W.bind_fn X self hf) (.inl rfl) h
end
noncomputable def putF(f:Str)(v:V):List (Str×V)->List (Str×V)|[]=>[(f,v)]| (g,x)::r=>if g=f then (g,v)::r else (g,x)::putF f v r
theorem oP(f g:Str)(v:V):∀fs:List (Str×V),(putF f v fs).lookup g=if g=f then some v else fs.lookup g|[]=>by show List.lookup g [(f,v)]=_;by_cases h:g=f;have hb:(g==f)=true:=beq_iff_eq.mpr h;simp only[List.lookup,hb,if_pos h];have hb:(g==f)=false:=beq_eq_false_iff_ne.mpr h;simp only[List.lookup,hb,if_neg h]| (k,x)::r=>by have ih:=oP f g v r;rw[show putF f v ((k,x)::r)=(if k=f then (k,v)::r else (k,x)::putF f v r) from rfl];by_cases hk:k=f;rw[if_pos hk];by_cases h:g=k;have hb:(g==k)=true:=beq_iff_eq.mpr h;simp only[List.lookup,hb,if_pos<|h.trans hk];have hb:(g==k)=false:=beq_eq_false_iff_ne.mpr h;simp only[List.lookup,hb,if_neg (λe:g=f=>h<|e.trans hk.symm)];rw[if_neg hk];by_cases h:g=k;have hb:(g==k)=true:=beq_iff_eq.mpr h;simp only[List.lookup,hb,if_neg (λe:g=f=>hk<|h.symm.trans e)];have hb:(g==k)=false:=beq_eq_false_iff_ne.mpr h;simp only[List.lookup,hb];exact ih
theorem nF(f:Str)(v:V):∀fs:List (Str×V),f∈(putF f v fs).map (·.1)/\∀g,g∈fs.map (·.1)->g∈(putF f v fs).map (·.1)|[]=>{by simp[putF],λg h=>by simp at h}| (k,x)::r=>by obtain⟨i1,i2⟩:=nF f v r;rw[show putF f v ((k,x)::r)=(if k=f then (k,v)::r else (k,x)::putF f v r) from rfl];by_cases hk:k=f;rw[if_pos hk];subst hk;exact{by simp,λg h=>by simpa using h};rw[if_neg hk];refine{?_,λg h=>?_};rw[zA];exact zh _ i1;rw[zA]at h⊢;rcases zj.mp h with e|e;exact zj.mpr<|.inl e;exact zh _<|i2 g e
theorem oQ(f:Str)(v:V):∀fs:List (Str×V),(putF f v fs).length<=fs.length+1|[]=>by simp[putF]| (k,x)::r=>by have ih:=oQ f v r;rw[show putF f v ((k,x)::r)=(if k=f then (k,v)::r else (k,x)::putF f v r) from rfl];by_cases hk:k=f;rw[if_pos hk,zQ,zQ];lia;rw[if_neg hk,zQ,zQ];lia
theorem fO.some_of(r:fO (some v) o):∃u,o=some u/\RelV v u:=by cases o with|none=>exact(show False from r).elim|some u=>exact⟨u,rfl,r⟩
theorem fO.none_of(r:fO none o):o=none:=by cases o with|none=>rfl|some u=>exact(show False from r).elim
theorem EV(r:RelV v u):handedIn u=true:=by cases v with|au=>(cases (show u=Value.none from r);rfl)|bl b=>(cases (show u=Value.bool b from r);rfl)|int i=>(obtain⟨t,e⟩:=(show ∃t,u=Value.int i t from r);cases e;rfl)|str x=>(obtain⟨t,e⟩:=(show ∃t,u=Value.str x t from r);cases e;rfl)|Dd b=>(obtain⟨t,e⟩:=(show ∃t,u=Value.bytes b t from r);cases e;rfl)|GG b=>(obtain⟨t,e⟩:=(show ∃t,u=Value.float b t from r);cases e;rfl)|ref a=>(cases (show u=Value.ref a from r);rfl)|ty n=>cases (show u=Value.type n from r);rfl
section
variable{P:Program}{w:World}{H:Hp}{h:Heap}{a C dx:Addr}{fs:List (Str×V)}
theorem qu(aK:lg P w H h)(e:H a=some (.ins C dx fs)):∃mA,Bo h a dx C mA/\(∀f,fO (fs.lookup f)<|mA f)/\PySem.Within mA (fs.map (·.1))/\fs.length<=1000/\H dx=some (.own a):=by obtain⟨d,z,ne,ob,mA,n,r,q⟩:=(show bt P w H h a (.ins C dx fs) from aK a _ e);exact{mA,⟨ob,n,ne⟩,r,q,z,d}
end
structure qQ(K:Frag)(C:Addr):Prop where
 pg:plainGet K C Str.empty=true
 hd:hasDictIn K C=true
 po:plainOver K C=true
 sa:findIn K (.ref C) "__setattr__"= some (some<|.builtin "object.__setattr__")
theorem qQ.get{K:Frag}{C:Addr}(c:qQ K C)(f:Str):plainGet K C f=true:=c.pg
def ji(K:Frag)(C:Addr)(f:Str):Prop:=findIn K (.ref C) f=some none
theorem ji.So{K:Frag}{C:Addr}{f:Str}(n:ji K C f):takerIn K C f=some none:=by unfold takerIn;rw[show findIn K (.ref C) f=some none from n];rfl
structure Con(K:Frag)(C:Addr)(f:Str)(v:V)(u:Value):Prop where
 at_:findIn K (.ref C) f=some (some u)
 rel:RelV v u
 get:specialIn K u "__get__"= some none
 cp:PySem.W.copiedNames.contains f=false
structure Meth(K:Frag)(C:Addr)(m:Str)(f:Addr):Prop where
 at_:findIn K (.ref C) m=some (some<|.ref f)
 fn:isFn K (.ref f)=true
 kp:keepIn K (.ref f)=true
section
variable{X:Cx}{pins:List (Addr×Obj)}{σ:St}{H:Hp}{s:Shared}{a C dx:Addr}{fs:List (Str×V)}{f:Str}{v:V}{A:Around}{E:Value->Shared->Prop}
theorem Bp(I:Inv X pins σ H s)(e:H a=some (.ins C dx fs))(c:qQ X.K C)(n:ji X.K C f)(l:fs.lookup f=some v) (h:∀u s',Inv X pins σ H s'->RelV v u->Q u s'):wpAny (model X.prog X.w) A (getAttr (.ref a) f b) Q E s:=by obtain⟨mA,O,r,_,_,_⟩:=qu I.aK e;obtain⟨u,hu,ru⟩:=fO.some_of (v:=v) (o:=mA f) (by rw[<-l];exact r f);exact get_map I.oO O (c.get f) c.hd n hu (EV ru)<|h u _ (I.tok _) ru
theorem qR(I:Inv X pins σ H s)(e:H a=some (.ins C dx fs))(c:qQ X.K C)(k:Meth X.K C m g)(l:fs.lookup m=none) (h:Q (.ref g,[.ref a]) s):wpAny (model X.prog X.w) A (getMethod (.ref a) m pl) Q E s:=by obtain⟨mA,O,r,_,_,_⟩:=qu I.aK e;have hn:mA m=none:=fO.none_of (by rw[<-l];exact r m);exact G_ I.oO O (c.get m) k.at_ k.fn hn h
theorem Bq(I:Inv X pins σ H s)(e:H a=some (.ins C dx fs))(c:qQ X.K C)(n:ji X.K C f)(hl:fs.length<1000)(ry:RelV y u) (h:∀s',Inv X pins σ (upd H a<|.ins C dx<|putF f y fs) s'->Q () s'):wpAny (model X.prog X.w) A (setAttr (.ref a) f u) Q E s:=by
 obtain⟨mA,O,r,wi,_,ho⟩:=qu I.aK e;have hz:(fs.map (·.1)).length<=sizeLine:=by rw[zb,yg];lia
 refine Km I.oO O c.sa c.po n.So c.hd wi hz λh' O' sb=>h _ ?_;have hd:∃o,h'.get? dx=some o:=by obtain⟨o,_,_,e',_⟩:=O'.ns;exact⟨o,e'⟩
 refine I.write (x:=a) (e:=dx) (by rw[e];exact True.intro) (.inr ho) (λb q hb z=>(sb.2 b hb).trans z) hd ?_;refine{by rw[ax O.ne];exact ho,?_,O.ne,O'.obj,_,O'.ns,λg=>?_,λg hg=>?_};have:=oQ f y fs;lia;show fO ((putF f y fs).lookup g) (if g=f then some u else mA g);rw[oP];by_cases q:g=f;rw[if_pos q,if_pos q];exact ry;rw[if_neg q,if_neg q];exact r g;by_cases q:g=f;rw[q];exact(nF f y fs).1;refine(nF f y fs).2 g<|wi g λz=>hg ?_;show(if g=f then some u else mA g)=none;rw[if_neg q];exact z
theorem Inv.made(I:Inv X pins σ H s):Inv X pins σ (upd (upd H s.heap.objs.size<|.own<|s.heap.objs.size+1) (s.heap.objs.size+1)<|.ins C s.heap.objs.size []) {s with heap:=(s.heap.push emptyDict).push<|instObj C s.heap.objs.size}:=by
 have e1:(s.heap.push emptyDict).get? s.heap.objs.size=some emptyDict:=zk s.heap rfl;have e2:((s.heap.push emptyDict).push<|instObj C s.heap.objs.size).get? (s.heap.objs.size+1)=some (instObj C s.heap.objs.size):=by have:=zk (s.heap.push emptyDict) (o:=instObj C s.heap.objs.size) rfl;rwa [yd]at this
 have e3:(s.heap.push emptyDict).Ns s.heap.objs.size (λ_=>none):={emptyDict,#[],_,e1,rfl,(λe he=>absurd he<|by simp),λ_=>rfl};have I1:=I.laid (a:=s.heap.objs.size) (o:=.own<|s.heap.objs.size+1) (h':=s.heap.push emptyDict) (t':=s.toks) (λb u q=>za _ q) (zq _) {_,e1};refine I1.laid (a:=s.heap.objs.size+1) (o:=.ins C s.heap.objs.size []) (t':=s.toks) (λb u q=>za _ q) (Nat.le_of_eq<|yd _ _) ?_;have ne:s.heap.objs.size≠s.heap.objs.size+1:=zB<|Nat.lt_succ_self _;refine{by rw[ax ne,aD],zT _,ne,e2,λ_=>none,(Heap.Ns1.of_empty e3).at λo q=>za _ q,λ_=>True.intro,λy hy=>absurd rfl hy}
theorem Ko(hb:attributeBase e f env (eval e env)=eval e env) (h:wpAny (model prog w) A (eval e env) (λo bf=>wpAny (model prog w) A (getAttr o f true) Q E bf) E s):wpAny (model prog w) A (eval (.Attribute e f pos) env) Q E s:=Attribute_any_ h<|by rw[arm_eval_Attribute,hb]
end
def Xg(K:Frag)(ta:TE)(f:Str):TE:=λσ H Q=>ta σ H λx H1=>∃a C dx fs v,x=.ref a/\H1 a=some (.ins C dx fs)/\qQ K C/\ji K C f/\fs.lookup f=some v/\Q v H1
def Xh(K:Frag)(ta tv:TE)(f:Str):TS:=λD σ H=>tv σ H λy H1=>ta σ H1 λx H2=>∃a C dx fs,x=.ref a/\H2 a=some (.ins C dx fs)/\qQ K C/\ji K C f/\fs.length<1000/\D.nx σ (upd H2 a<|.ins C dx<|putF f y fs)
section
variable{X:Cx}{o e value:Expr}{f:Str}{pos pos':Pos}{ta tv:TE}
theorem OA(he:PE X e ta)(hb:attributeBase e f X.env (eval e X.env)=eval e X.env):PE X (.Attribute e f pos) (Xg X.K ta f):=by intro pins s σ H Q I h;refine Ko hb<|bz (he pins s σ H _ I h) λu s1 ⟨x,H1,I1,rx,a,C,dx,fs,v,ex,ea,c,n,l,q⟩=>?_;subst ex;obtain rfl:u=Value.ref a:=rx;exact Bp I1 ea c n l λu' s2 I2 ru=>⟨v,H1,I2,ru,q⟩
theorem OB(ha:PE X o ta)(hv:PE X value tv)(hs:swapsWith value (some<|.Attribute o f pos') pos.line X.env=pure false):PS X (.Assign [.Attribute o f pos'] value pos) (Xh X.K ta tv f):=by intro pins s σ H D I h;refine plainObj_wpAny_Assign_Attribute (bz (hv pins s σ H _ I h) λu s1 ⟨y,H1,I1,ry,q⟩=>bz (ha pins s1 σ H1 _ I1 q) λov s2 ⟨x,H2,I2,rx,a,C,dx,fs,ex,ea,c,n,l,q2⟩=>?_) hs;subst ex;obtain rfl:ov=Value.ref a:=rx;exact Bq I2 ea c n l ry λs3 I3=>{σ,_,I3,q2}
end
section
variable{X:Cx}{pins:List (Addr×Obj)}{σ:St}{H:Hp}{s:Shared}{A:Around}{E Q:Value->Shared->Prop}{c:Value}{b:Bool}
inductive nG (K:Frag) (H:Hp):V->Value->Prop where
 |au:nG K H .au (.type "NoneType")
 |bl (x:Bool):nG K H (.bl x) (.type "bool")
 |int (i:Int):nG K H (.int i) (.type "int")
 |str (x:Str):nG K H (.str x) (.type "str")
 |GG (x:UInt64):nG K H (.GG x) (.type "float")
 |lst {a:Addr}{xs:List V} (e:H a=some (.lst xs)):nG K H (.ref a) (.type "list")
 |k_ {a:Addr}{o:Obj}{xs:List V} (e:H a=some (.k_ o<|.lst xs)):nG K H (.ref a) (.type "list")
 |tup {a:Addr}{xs:List V} (e:H a=some (.tup xs)):nG K H (.ref a) (.type "tuple")
 |dK {a:Addr}{kvs:List<|Key×V} (e:H a=some (.dK kvs)):nG K H (.ref a) (.type "dict")
 |dT {a:Addr}{kvs:List<|List Key×V} (e:H a=some (.dT kvs)):nG K H (.ref a) (.type "dict")
 |ins {a C dx:Addr}{fs:List<|Str×V} (e:H a=some (.ins C dx fs)) (cl:qQ K C) (ha:findIn K (.ref C) "__class__"= some (some<|.builtin "object.__class__"))
   (hn:specialIn K (.builtin "object.__class__") "__get__"= some (some<|.builtin "getset_descriptor.__get__")) (htk:PySem.W.takesIn K (.builtin "object.__class__")=some true)
   (hm:mroIn K C (.type "object")=some true):nG K H (.ref a) (.ref C)
theorem EW{u t:Value}(I:Inv X pins σ H s)(rx:RelV x u)(ty:nG X.K H x t)(e:kitOne X.K t c=some b)(h:∀tk,Q (.bool b) {s with toks:=tk}): wpAny (model X.prog X.w) A (call (.builtin "isinstance") [u,c]) Q E s:=by cases ty with|au=>(cases (show u=Value.none from rx);exact kia_one PySem.W.kitx_none I.oO True.intro e (λz=>nomatch z) h)|bl y=>(cases (show u=Value.bool y from rx);exact kia_one PySem.W.kitx_bool I.oO True.intro e (λz=>nomatch z) h)|int i=>(obtain⟨t,q⟩:=(show ∃t,u=Value.int i t from rx);cases q;exact kia_one PySem.W.kitx_int I.oO True.intro e (λz=>nomatch z) h)|str y=>(obtain⟨t,q⟩:=(show ∃t,u=Value.str y t from rx);cases q;exact kia_one PySem.W.kitx_str I.oO True.intro e (λz=>nomatch z) h)|GG y=>(obtain⟨t,q⟩:=(show ∃t,u=Value.float y t from rx);cases q;exact kia_one PySem.W.kitx_float I.oO True.intro e (λz=>nomatch z) h)|@lst a xs ea=>(cases (show u=Value.ref a from rx);obtain⟨_,_,n,_,h1⟩:=(show bt X.prog X.w H s.heap a (.lst xs) from I.aK a _ ea);exact kia_one kitx_list I.oO {_,h1,rfl} e (λz=>nomatch z) h)|@k_ a ob xs ea=>(cases (show u=Value.ref a from rx);obtain⟨_,_,_,n,_,h1⟩:=(show bt X.prog X.w H s.heap a (.k_ ob<|.lst xs) from I.aK a _ ea);exact kia_one kitx_list I.oO {_,h1,rfl} e (λz=>nomatch z) h)|@tup a xs ea=>(cases (show u=Value.ref a from rx);obtain⟨_,_,_,p⟩:=(show bt X.prog X.w H s.heap a (.tup xs) from I.aK a _ ea);obtain⟨o,h1,h2,_⟩:=p;exact kia_one PySem.W.kitx_tuple I.oO ⟨o,h1,h2⟩ e (λz=>nomatch z) h)|@dK a kvs ea=>(cases (show u=Value.ref a from rx);obtain⟨_,_,vs,_,p⟩:=(show bt X.prog X.w H s.heap a (.dK kvs) from I.aK a _ ea);obtain⟨o,es,ep,h1,h2,_⟩:=p;exact kia_one PySem.W.kitx_dict I.oO ⟨o,h1,h2.1⟩ e (λz=>nomatch z) h)|@dT a kvs ea=>exact False.elim (show bt X.prog X.w H s.heap a (.dT kvs) from I.aK a _ ea)|@ins a C dx fs ea cl ha hn htk hm=>cases (show u=Value.ref a from rx);obtain⟨mA,O,_⟩:=qu I.aK ea;obtain⟨od,J,_⟩:=O.look;exact kia_one (PySem.W.kitx_own (cl.get _) cl.hd ha hn htk hm) I.oO J e (λz=>nomatch z) h
end
structure bW(k:Nat)(A:Around):Prop where
 hd:A.handled=none
 dp:A.depth+3*k+5<recursionLimit
 un:A.units+16*k+200<cLine
theorem bW.mono(r:bW k A)(h:j<=k):bW j A:={r.hd,by have:=r.dp;lia,by have:=r.un;lia}
theorem bW.deeper(r:bW (k+1) A)(env:Env):bW k (A.deeper env):={r.hd,by have:=r.dp;show A.depth+1+3*k+5<_;lia,by have:=r.un;show A.units+3+16*k+200<_;lia}
theorem bW.in1(r:bW (k+1) A):bW k A.in1:={r.hd,by have:=r.dp;show A.depth+3*k+5<_;lia,by have:=r.un;show A.units+1+16*k+200<_;lia}
theorem Br{A:Around}{C:Addr}{us:List Value}{kw:List<|Str×Value} : (A.under<|.builtin "type.__call__" {.ref C::us,kw}).depth=A.depth+1:=by first|rfl|simp[Around.under,Code.weight,Code.isCreation,Code.isGuard,Code.isCaller,Code.frames,Code.isFrame,guardIds]
theorem Bs{A:Around}{C:Addr}{us:List Value}{kw:List<|Str×Value} : (A.under<|.builtin "type.__call__" {.ref C::us,kw}).units=A.units+1:=by first|rfl|simp[Around.under,Code.cUnits,Code.frames,Code.isFrame]
theorem bW.make(r:bW (k+1) A)(C:Addr)(us:List Value)(kw:List<|Str×Value):bW k (A.under<|.builtin "type.__call__" {.ref C::us,kw}):={r.hd,by have:=r.dp;rw[Br];lia,by have:=r.un;rw[Bs];lia}
theorem bW.depth(r:bW k A):A.depth<recursionLimit:=by have:=r.dp;lia
theorem bW.units(r:bW k A):A.units+64<cLine:=by have:=r.un;lia
def Xj:TA:=λ_ H Q=>Q [] H
def MP(ta:TE)(tr:TA):TA:=λσ H Q=>ta σ H λx H1=>tr σ H1 λxs H2=>Q (x::xs) H2
section
variable{X:Cx}{e:Expr}{es:List Expr}{te:TE}{t:TA}{pos:Pos}
theorem Bu:PA X [] Xj:=λ_ _ _ _ H Q I h=>Calls.spliced_nil {[],H,I,.nil,h}
theorem Kq(ha:PE X e te)(hr:PA X es t)(hs:autoParam (starEach (e::es) X.env=(false,eval e X.env)::starEach es X.env) qQJ):PA X (e::es) (MP te t):=by intro pos pins s σ H Q I h;rw[hs];show wpAny _ _ (spliced<|(false,eval e X.env)::backTo pos (starEach es X.env)) _ _ s;refine yI<|bz (ha pins s σ H _ I h) λu s1 ⟨x,H1,I1,r1,q1⟩=>?_;exact bz (hr pos pins s1 σ H1 _ I1 q1) <| by rintro us s2 ⟨xs,H2,I2,r2,q2⟩;exact{x::xs,H2,I2,.cons r1 r2,q2}
def Xk(t:TA):TE:=λσ H Q=>t σ H λxs H1=>xs.length<=sizeLine/\∀p,H1 p=none->Q (.ref p) (upd H1 p<|.tup xs)
def Xl(t:TA):TE:=λσ H Q=>t σ H λxs H1=>xs.length<=sizeLine/\∀p,H1 p=none->Q (.ref p) (upd H1 p<|.lst xs)
theorem OC{x1}(h:PA X es t):PE X (.Tuple es x1 pos) (Xk t):=by intro pins s σ H Q I hq;refine wpAny_Tuple_spliced<|bz (h pos pins s σ H _ I hq) λus s1 ⟨xs,H1,I1,r,z,q⟩=>{by rw[<-r.length];exact z,?_};have hf:H1 s1.heap.objs.size=none:=I1.aK.fresh<|zq _;refine{.ref s1.heap.objs.size,upd H1 s1.heap.objs.size<|.tup xs,I1.laid (t':=s1.toks) (λb u e=>za _ e) (zq _) ?_,rfl,q _ hf};exact{z,us,r,{_,zk _ rfl,rfl,rfl,_,rfl}}
theorem OD(h:PA X es t):PE X (.List es pos) (Xl t):=by intro pins s σ H Q I hq;refine wpAny_List_spliced<|bz (h pos pins s σ H _ I hq) λus s1 ⟨xs,H1,I1,r,z,q⟩=>{by rw[<-r.length];exact z,?_};have hf:H1 s1.heap.objs.size=none:=I1.aK.fresh<|zq _;refine{.ref s1.heap.objs.size,upd H1 s1.heap.objs.size<|.lst xs,I1.laid (t':=s1.toks) (λb u e=>za _ e) (zq _) ?_,rfl,q _ hf};exact{z,us,0,r,zk _ rfl}
end
abbrev Sp:=List V->Hp->VK->XK->Prop
abbrev Bv:=List Env->Hp->Shared->XK->Value->Shared->Prop
structure xC(P:Program)(w:World)(K:Frag)(mg:Str->Option Value)(base:Heap)(A:Around)(outer:List Env)(s:Shared)(H:Hp):Prop where
 frames:A.frames=some outer
 mod:Mod K mg base
 bs:∀b o,base.get? b=some o->s.heap.get? b=some o/\H b=none
 J5:base.objs.size<=s.heap.objs.size
 pP:s.heap.FunFrames base outer
 NX:∀b∈nB outer,H b=none
 aK:lg P w H s.heap
 bare:AllBare s.gens
def CE(outer:List Env)(P:Program)(w:World)(H:Hp)(s:Shared)(Q:VK)(u:Value)(s':Shared):Prop:=∃v H',s'.os=s.os/\AllBare s'.gens/\Un (nB outer) [] H H' s.heap s'.heap/\lg P w H' s'.heap/\RelV v u/\Q v H'
def CR(CX:Bv)(outer:List Env)(P:Program)(w:World)(H:Hp)(s:Shared)(Q:VK)(E:XK)(r:Result)(s':Shared):Prop:=match r with|.ok (.ret u)=>CE outer P w H s Q u s'|.ok _=>False|.error e=>CX outer H s E e s'
structure bI(P:Program)(w:World)(K:Frag)(mg:Str->Option Value)(base:Heap)(CX:Bv)(k:Nat)(f:Addr)(fd:FuncData)(ps:List Str)(sp:Sp):Prop where
 len:∀vs H Q E,sp vs H Q E->vs.length=ps.length
 run:∀(A:Around)(outer:List Env)(s:Shared)(H:Hp)(args:Args)(us:List Value)(vs:List V)(Q:VK)(E:XK),bW k A->xC P w K mg base A outer s H->BindsTo s fd args (ps.zip us)->Vals vs us->sp vs H Q E ->
  codeAny (model P w) A (.call (.ref f) args) (CR CX outer P w H s Q E) s
theorem bI.mono{P:Program}{w:World}{K:Frag}{mg:Str->Option Value}{base:Heap}{CX:Bv}{j k:Nat}{f:Addr}{fd:FuncData}{ps:List Str}{sp:Sp}(F:bI P w K mg base CX j f fd ps sp)(h:j<=k): bI P w K mg base CX k f fd ps sp:={F.len,λA outer s H args us vs Q E hr=>F.run A outer s H args us vs Q E<|hr.mono h}
theorem bI.imp{P:Program}{w:World}{K:Frag}{mg:Str->Option Value}{base:Heap}{CX:Bv}{k:Nat}{f:Addr}{fd:FuncData}{ps:List Str}{sp VX:Sp}(F:bI P w K mg base CX k f fd ps sp) (h:∀vs H Q E,VX vs H Q E->sp vs H Q E):bI P w K mg base CX k f fd ps VX:={λvs H Q E q=>F.len vs H Q E<|h _ _ _ _ q,λA outer s H args us vs Q E hr he hb hv hs=>F.run A outer s H args us vs Q E hr he hb hv<|h _ _ _ _ hs}
theorem xC.make{P:Program}{w:World}{K:Frag}{mg:Str->Option Value}{base:Heap}{A:Around}{outer:List Env}{s:Shared}{H:Hp}(e:xC P w K mg base A outer s H)(C:Addr)(us:List Value)(kw:List<|Str×Value): xC P w K mg base (A.under<|.builtin "type.__call__" {.ref C::us,kw}) outer s H:={by first|exact e.frames|(simpa [Around.under,Code.envs,Code.isFrame,pushEnvs]using e.frames),e.mod,e.bs,e.J5,e.pP,e.NX,e.aK,e.bare}
section
variable{X:Cx}{pins:List (Addr×Obj)}{σ:St}{H:Hp}{s s':Shared}
theorem Inv.Sr(I:Inv X pins σ H s):xC X.prog X.w X.K X.mg X.base X.A X.stack s H:={I.ok.frames,I.ok.mod,I.bs,zD I.ok.J5 I.sz,I.stack,I.qp,I.aK,I.bare}
theorem Inv.after(I:Inv X pins σ H s)(h:CE X.stack X.prog X.w H s Q u s'):EP X pins σ Q u s':=by obtain⟨v,H',os,bare,un,aK,r,q⟩:=h;obtain⟨hh,g,d,t,Ss⟩:=s';obtain rfl:Ss=s.os:=os;exact{v,H',I.call (h':=hh) (g':=g) (d':=d) (t':=t) (ch:=[]) un aK bare λb z=>absurd z<|by simp,r,q}
end
def Binds(K:Frag)(fd:FuncData)(ps:List Str)(ds:List Value):Prop:=∀(s:Shared)(us:List Value),K.In s.heap->(us++ds).length=ps.length->BindsTo s fd {us,[]} (ps.zip<|us++ds)
theorem Binds.all{K:Frag}{fd:FuncData}{ps:List Str}(h:∀us:List Value,us.length=ps.length->bindArgs fd {us,[]}=pure (ps.zip us)):Binds K fd ps []:=λs us _ hl=>by rw[List.append_nil]at hl⊢;exact .of_eq<|h us hl
def Passes(CX:Bv)(X:Cx)(E:XK):Prop:=∀(pins:List (Addr×Obj))(σ:St)(H:Hp)(s:Shared)(e:Value)(s':Shared),Inv X pins σ H s->CX X.stack H s E e s'->X.xe e s'
section
variable{f C:Addr}
structure Mk(K:Frag)(C f:Addr):Prop where
 makes:makesIn K C=true
 init:findIn K (.ref C) "__init__"= some (some<|.ref f)
 fn:isFn K (.ref f)=true
 kp:keepIn K (.ref C)=true
end
section
variable{fd:FuncData}{ps ks:List Str}
structure Xm(K:Frag)(fd:FuncData)(ps ks:List Str)(g:List Value->List Value->List Value)(gV:List V->List V->List V):Prop where
 to:∀(s:Shared)(us ws:List Value),K.In s.heap->(g us ws).length=ps.length->BindsTo s fd {us,ks.zip ws} (ps.zip<|g us ws)
 rel:∀{vs:List V}{us:List Value}{zs:List V}{ws:List Value},Vals vs us->Vals zs ws->Vals (gV vs zs) (g us ws)
variable{g:List Value->List Value->List Value}{gV:List V->List V->List V}
end
structure fS(N P:List Str)(sc:Scope):Prop where
 kind:sc.kind=.function
 co:sc.isCoroutine=false
 gen:sc.isGenerator=false
 nd:N.Nodup
 pre:N.take P.length=P
 par:∀x∈P,sc.names.lookup x=some .local\/sc.names.lookup x=some .cell
 OE:∀y∈sc.names,y.2≠.free
theorem uw{kindOf:Str->Option NameKind}{x:Str} : ∀{binds:List (Str×Value)}{m:Str->Option Value},(∀v,(x,v)∉binds)->bindL kindOf binds m x=m x
 |[],_,_=>rfl
 | (n,v)::r,m,h=>by
  unfold bindL;rw[uw λw hw=>h w<|zh _ hw];split;have:x≠n:=by rintro rfl;exact h v zp
  simp[this];rfl
theorem ux{kindOf:Str->Option NameKind}{x:Str} : ∀{binds:List (Str×Value)}{m:Str->Option Value},(∀v,(x,v)∉binds)->bindC kindOf binds m x=m x
 |[],_,_=>rfl
 | (n,v)::r,m,h=>by
  unfold bindC;rw[ux λw hw=>h w<|zh _ hw];split;rfl;have:x≠n:=by rintro rfl;exact h v zp
  simp[this]
theorem uy{kindOf:Str->Option NameKind}{x:Str}{v:Value} : ∀{P:List Str}{vs:List Value}{i:Nat}{m:Str->Option Value},P.Nodup->P[i]?=some x->vs[i]?=some v->kindOf x=some .local->bindL kindOf (P.zip vs) m x=some v|[],_,_,_,_,h,_,_=>by simp at h|_::_,[],_,_,_,_,h,_=>by simp at h|p::P,w::vs,0,m,nd,h1,h2,hk=>by simp at h1 h2;subst h1;subst h2;show bindL kindOf ((p,w)::P.zip vs) m p=_;unfold bindL;rw[uw λv hv=>(yk.mp nd).1 (List.of_mem_zip hv).1,if_pos hk];simp|p::P,w::vs,i+1,m,nd,h1,h2,hk=>by show bindL kindOf ((p,w)::P.zip vs) m x=_;unfold bindL;exact uy (i:=i) (yk.mp nd).2 (by simpa using h1) (by simpa using h2) hk
theorem uz{kindOf:Str->Option NameKind}{x:Str}{v:Value} : ∀{P:List Str}{vs:List Value}{i:Nat}{m:Str->Option Value},P.Nodup->P[i]?=some x->vs[i]?=some v->kindOf x≠some .local->bindC kindOf (P.zip vs) m x=some v|[],_,_,_,_,h,_,_=>by simp at h|_::_,[],_,_,_,_,h,_=>by simp at h|p::P,w::vs,0,m,nd,h1,h2,hk=>by simp at h1 h2;subst h1;subst h2;show bindC kindOf ((p,w)::P.zip vs) m p=_;unfold bindC;rw[ux λv hv=>(yk.mp nd).1 (List.of_mem_zip hv).1,if_neg hk];simp|p::P,w::vs,i+1,m,nd,h1,h2,hk=>by show bindC kindOf ((p,w)::P.zip vs) m x=_;unfold bindC;exact uz (i:=i) (yk.mp nd).2 (by simpa using h1) (by simpa using h2) hk
noncomputable def start(N:List Str)(vs:List V):St:=vs.map some++List.replicate (N.length-vs.length) none
def kx(CX:Bv)(P:Program)(w:World)(K:Frag)(mg:Str->Option Value)(base:Heap)(N:List Str)(qual:Str)(scope:Scope)(f:Addr)(cd:Value)(A:Around)(outer:List Env)(s:Shared)(H:Hp)(E:XK):Cx where
 prog:=P
 w:=w
 K:=K
 mg:=mg
 base:=base
 A:=A.deeper<|envOfC qual scope s.heap.objs.size f cd
 N:=N
 dm:=s
 vi:=H
 env:=envOfC qual scope s.heap.objs.size f cd
 outer:=outer
 stack:=envOfC qual scope s.heap.objs.size f cd::outer
 ex:=[]
 calm:=true
 fn:=λ_=>true
 pn:=[]
 xe:=λe s'=>wpAny (model P w) (A.deeper<|envOfC qual scope s.heap.objs.size f cd) (leaving (envOfC qual scope s.heap.objs.size f cd) e) (λ_ Bw=>CX outer H s E e Bw) (λe' Bw=>CX outer H s E e' Bw) s'
theorem xD{sc:Scope}{n:Nat}{x:Str}(h:sc.names.lookup x=some .cell):∃c,(cellsFrom n sc.names []).lookup x=some c:=by have q:=PySem.W.cellsFrom_some sc.names n []<|.inl h;exact Option.isSome_iff_exists.mp q
theorem EX{CX:Bv}{P:Program}{w:World}{K:Frag}{mg:Str->Option Value}{base:Heap}{N ps:List Str}{qual:Str}{scope:Scope}{f:Addr}{cd:Value}{A:Around}{outer:List Env}{s s1:Shared}{H:Hp}{E:XK}{us:List Value}{vs:List V} (S:fS N ps scope) (hd:A.handled=none) (e0:xC P w K mg base A outer s H) (hl:vs.length=ps.length) (r:Vals vs us) (x:InCallC s s.heap.objs.size (bindL (envOfC qual scope s.heap.objs.size f cd).kindOf (ps.zip us) λ_=>none) (cellsFrom (s.heap.objs.size+1) scope.names []) (bindC (envOfC qual scope s.heap.objs.size f cd).kindOf (ps.zip us) λ_=>none) s1): Inv (kx CX P w K mg base N qual scope f cd A outer s H E) [] (start N vs) H s1:=by
 have cU:ps.length<=N.length:=by have:=congrArg List.length S.pre;rw[yp]at this;lia
 obtain⟨h1,tk,rfl,hk⟩:=x.done;have Kr:∀b:Addr,b∉(kx CX P w K mg base N qual scope f cd A outer s H E).ex:=λb z=>absurd (show b∈([]:List Addr) from z) (by simp);refine{{e0.mod,S.kind,rfl,rfl,zq _,λy z c h1 h2=>?_,λy hy=>?_,λy c _ h=>?_,λ_=>hd,Around.frames_deeper e0.frames,.inr ⟨rfl,rfl⟩,λb z=>absurd z<|Kr b,e0.bs,e0.J5,λb _ _=>Kr b,λb z=>absurd z<|Kr b,e0.pP,e0.NX},rfl,e0.bare,Un.kept hk,{_,x.toInCall.ns,λi y v h1 h2 h3=>?_},λy c h=>{_,x.cell y c h},e0.aK.fresh<|zq _,λy c h=>?_,λp hp=>absurd (show p∈([]:List (Addr×Obj)) from hp)<|by simp,e0.aK.kept hk,?_};exact name_of_addr x.apart (yn h1)<|yn h2;have hy:scope.names.lookup y=some .cell\/scope.names.lookup y=some .free:=hy;rcases hy with hy|hy;exact xD hy;exact absurd rfl<|S.OE _<|yn hy;exact yH<|x.above y c<|yn h;have hi:i<vs.length:=by unfold start at h2;by_cases hi:i<vs.length;exact hi;rw[List.getElem?_append_right<|by simpa using hi]at h2;rw[List.getElem?_replicate]at h2;split at h2<;>cases h2
 have ha:vs[i]?=some v:=by unfold start at h2;rw[List.getElem?_append_left<|by simpa using hi,zg]at h2;cases e:vs[i]? with|none=>(rw[e]at h2;cases h2)|some a=>rw[e]at h2;cases h2;rfl
 obtain⟨u,hu,rv⟩:=r.get ha;have hp:ps[i]?=some y:=by rw[<-S.pre,List.getElem?_take_of_lt<|by lia];exact h1
 have ndP:ps.Nodup:=by rw[<-S.pre];exact S.nd.sublist<|List.take_sublist _ _
 refine{u,rv,?_};rcases S.par y (zx hp) with k|k;exact .inl {k,uy ndP hp hu k};obtain⟨c,e⟩:=xD (n:=s.heap.objs.size+1) k;refine .inr {.inl k,c,e,?_};have q:=x.cell y c e;rw[uz ndP hp hu<|by show scope.names.lookup y≠_;rw[k];decide]at q;exact q;exact e0.aK.fresh<|yH<|x.above y c<|yn h;unfold start;show _=N.length;rw[zE,zb,List.length_replicate];lia
theorem MQ{CX:Bv}{P:Program}{w:World}{K:Frag}{mg:Str->Option Value}{base:Heap}{k:Nat}{f:Addr}{name qual:Str}{params:Arguments}{body:List Stmt}{scope:Scope}{dV kV doc pm fT ct oc:Value}{an od:Option Addr} {OF:Array<|Option Value}{N ps:List Str}{sp:Sp} (lk:K.lookup f=some {oc,od,.func<|fnOf name qual params body scope dV kV doc pm an fT ct,OF}) (s_:codeIn K fT qual=true) (S:fS N ps scope) (len:∀vs H Q E,sp vs H Q E->vs.length=ps.length) (lY:∀(A:Around)(outer:List Env)(s:Shared)(H:Hp)(vs:List V)(Q:VK)(E:XK),bW k (A.deeper<|envOfC qual scope s.heap.objs.size f fT)->sp vs H Q E->∃t,Df (kx CX P w K mg base N qual scope f fT A outer s H E) body t/\t {nx:=λ_ H'=>Q .au H',rt:=Q} (start N vs) H): bI P w K mg base CX (k+1) f (fnOf name qual params body scope dV kV doc pm an fT ct) ps sp:=by
 refine{len,λA outer s H args us vs Q E hr e0 hb r Q4=>?_};have hl:=len _ _ _ _ Q4;have KX:K.In s.heap:=e0.mod.Q2.keeps λb o e=>(e0.bs b o e).1;have lim:s.heap.NoLimit:=e0.mod.nolimit.keeps λb o e=>(e0.bs b o e).1;have Su:∀y∈ps.zip us,scope.names.lookup y.1=some .local\/(scope.names.lookup y.1=some .cell/\((cellsFrom (s.heap.objs.size+1) scope.names []).lookup y.1).isSome=true):=by rintro⟨n,v⟩ hy;rcases S.par n (List.of_mem_zip hy).1 with q|q;exact .inl q;exact .inr {q,PySem.W.cellsFrom_some _ _ _<|.inl q}
 refine codeAny_call_function hr.depth (KX _ _ lk) rfl S.co S.gen rfl (PySem.W.codeRec_of KX s_)<|hb _ _ _ _ ?_;refine wpAny_newFunctionEnv_cells S.kind Su λenv he s1 x=>?_;subst he;refine{lim.keeps x.toInCall.keep,codeAny_func ?_};obtain⟨t,ht,hq⟩:=lY A outer s H vs Q E (hr.deeper _) Q4;have I:Inv (kx CX P w K mg base N qual scope f fT A outer s H E) [] (start N vs) H s1:=EX S hr.hd e0 hl r x;refine yL (ht [] s1 (start N vs) H _ I hq) (λfl s' hs=>?_) λe s' hs=>hs;have fin:∀{aB:St}{H':Hp}{v:V}{u:Value},Inv (kx CX P w K mg base N qual scope f fT A outer s H E) [] aB H' s'->RelV v u->Q v H'->CE outer P w H s Q u s':=λ{aB H' v u} J rv q=>⟨v,H',J.os,J.bare,J.base,J.aK,rv,q⟩;cases fl with|ret u=>(obtain⟨v,aB,H',J,rv,q⟩:=hs;exact fin J rv q)|next=>(obtain⟨aB,H',J,q⟩:=hs;exact fin (v:=V.au) (u:=Value.none) J rfl q)|brk=>(obtain⟨_,_,_,q⟩:=hs;exact False.elim q)|cont=>obtain⟨_,_,_,q⟩:=hs;exact False.elim q
section
variable{X:Cx}{x:Str}{p pos:Pos}{e:Expr}{es:List Expr}{t:TA}{id T:String}{r:List V->Hp->VK->Prop}
def Xn(r:List V->Hp->VK->Prop)(t:TA):TE:=λσ H Q=>t σ H λvs H1=>r vs H1 Q
theorem xE(hc:eF X (.builtin id) r)(hg:Gl X x)(hm:X.mg x=none)(hv:bootBuiltins x=some (.builtin id))(ha:PA X (e::es) t)(hn:autoParam (x≠"__name__") qQZ)(pS:autoParam ((x==("__debug__": Str))=false) qQZ) (he:autoParam (starEach (e::es) X.env=(false,eval e X.env)::starEach es X.env) qQJ) (cU:autoParam ((backTo pos<|starEach es X.env).any (·.1)=false) qQJ):PE X (.Call (.Name x p) (e::es) [] pos) (Xn r t):=by intro pins s σ H Q I h;refine wpAny_Call_Name_kw<|gu I hg hm hv ?_ hn pS;exact PyProof.Rows.callWith_builtin1 (bz (ha pos pins s σ H _ I h) <| by rintro us s1 ⟨vs,H1,I1,r1,q1⟩;exact hc pins s1 σ H1 vs us Q I1 r1 q1) he cU
theorem uA(hc:eF X (.type T) r)(hg:Gl X x)(hm:X.mg x=none)(hv:bootBuiltins x=some (.type T))(ha:PA X (e::es) t)(hn:autoParam (x≠"__name__") qQZ)(pS:autoParam ((x==("__debug__": Str))=false) qQZ) (he:autoParam (starEach (e::es) X.env=(false,eval e X.env)::starEach es X.env) qQJ) (cU:autoParam ((backTo pos<|starEach es X.env).any (·.1)=false) qQJ):PE X (.Call (.Name x p) (e::es) [] pos) (Xn r t):=by intro pins s σ H Q I h;refine wpAny_Call_Name_kw<|gu I hg hm hv ?_ hn pS;exact PyProof.Rows.callWith_type1 (bz (ha pos pins s σ H _ I h) <| by rintro us s1 ⟨vs,H1,I1,r1,q1⟩;exact hc pins s1 σ H1 vs us Q I1 r1 q1) he cU
end
end L2
namespace HT
open PySem PyProof.Rows
section
variable{prog:Program}{w:World}{A:Around}{E:Value->Shared->Prop}{s:Shared}
noncomputable def sIx(n d:Nat):Option Int->Nat|none=>d|some v=>if v<0 then (v+(n:Int)).toNat else min v.toNat n
theorem sIx_none(n d:Nat):sIx n d none=d:=rfl
theorem sIx_nat(n d k:Nat):sIx n d (some (k:Int))=min k n:=by show(if (k:Int)<0 then ((k:Int)+(n:Int)).toNat else min (k:Int).toNat n)=min k n;rw[if_neg<|by lia,Int.toNat_natCast]
theorem sIx_le(n d:Nat)(hd:d<=n)(o:Option Int):sIx n d o<=n:=by cases o with|none=>exact hd|some v=>show(if v<0 then (v+(n:Int)).toNat else min v.toNat n)<=n;by_cases hv:v<0;rw[if_pos hv];lia;rw[if_neg hv];exact Nat.min_le_right _ _
theorem clip_eq(v:Int)(n d:Nat):(if v<0 then max (v+(n:Int)) 0 else min v (n:Int))=((sIx n d (some v):Nat):Int):=by show(if v<0 then max (v+(n:Int)) 0 else min v (n:Int))=(((if v<0 then (v+(n:Int)).toNat else min v.toNat n):Nat):Int);by_cases hv:v<0;simp only[if_pos hv];lia;simp only[if_neg hv];lia
theorem adjust_gen(lo hi:Option Int)(n:Nat):Builtin.Slice.sliceAdjust lo hi 1 (n:Int)=(((sIx n 0 lo:Nat):Int),((sIx n n hi:Nat):Int)):=by
 have h1:¬((1:Int)<0):=by lia
 unfold Builtin.Slice.sliceAdjust;simp only[h1,if_false];refine Prod.ext ?_ ?_;cases lo with|none=>rfl|some v=>exact clip_eq v n 0
 cases hi with|none=>rfl|some v=>exact clip_eq v n n
theorem places_gen(i j:Nat):Builtin.Slice.slicePlaces (i:Int) (j:Int) 1=j-i:=by
 unfold Builtin.Slice.slicePlaces;have h1:(1:Int)>0:=by lia
 simp only[h1,if_true,Int.ediv_one];split<;>lia
theorem slicePart_(p:IsPart v o)(h:Q o s):wpAny (model prog w) A (Builtin.Slice.slicePartIndex v) Q E s:=by cases p with|none=>exact slicePart_none h|int i t=>exact slicePart_int h
theorem sliceApplied_gen{sl:Addr}{vl vu:Value}{lo hi:Option Int}{n:Nat}{Q:Int×Int×Nat->Shared->Prop}(hs:s.heap.IsSliceOf sl vl vu .none)(pl:IsPart vl lo)(pu:IsPart vu hi) (h:Q (((sIx n 0 lo:Nat):Int),1,sIx n n hi-sIx n 0 lo) s):wpAny (model prog w) A (Builtin.Slice.sliceApplied (.ref sl)<|pure (n:Int)) Q E s:=by obtain⟨os,Sv,hcs,Q5⟩:=id hs;unfold Builtin.Slice.sliceApplied Builtin.Slice.sliceFields;refine zc<|zc<|ya Sv Q5 (x:=vl) rfl<|zc<|ya Sv Q5 (x:=vu) rfl<|zc<|ya Sv Q5 (x:=.none) rfl<|zm ?_;refine zc<|slicePart_none ?_;show wpAny _ _ (if ((1:Int)==0)=true then _ else _) _ _ s;rw[if_neg<|by decide];refine zc<|slicePart_ pl<|zc<|slicePart_ pu<|zc<|zm ?_;show wpAny _ _ (match Builtin.Slice.sliceAdjust lo hi 1 (n:Int) with|(lo,hi)=>pure (lo,(1:Int),Builtin.Slice.slicePlaces lo hi 1)) _ _ s;rw[adjust_gen lo hi n];show wpAny _ _ (pure (((sIx n 0 lo:Nat):Int),(1:Int),Builtin.Slice.slicePlaces ((sIx n 0 lo:Nat):Int) ((sIx n n hi:Nat):Int) 1)) _ _ s;rw[places_gen];exact zm h
theorem pick_gen(xs:Array Value)(i k:Nat):((List.range k).filterMap λ(m:Nat)=>xs[((i:Int)+(m:Int)*1).toNat]?).toArray=((xs.toList.drop i).take k).toArray:=by
 have e:(λ(m:Nat)=>xs[((i:Int)+(m:Int)*1).toNat]?)=λm=>xs[i+m]?:=by funext m;have:((i:Int)+(m:Int)*1).toNat=i+m:=(by lia);rw[this]
 rw[e];have:=pick_run xs i k;rw[List.filterMap_map]at this;have e2:((λx=>xs[x]?) ∘ λx=>i+x)=λm=>xs[i+m]?:=rfl;rw[e2]at this;rw[this]
theorem getItem_tuple_cut{t sl:Addr}{items:Array Value}{vl vu:Value}{lo hi:Option Int}{Q:Value->Shared->Prop}(ht:IsTup s.heap t items)(hs:s.heap.IsSliceOf sl vl vu .none)(pl:IsPart vl lo)(pu:IsPart vu hi) (hw:¬(sIx items.size 0 lo=0/\sIx items.size items.size hi=items.size)) (h:Q (.ref s.heap.objs.size) {s with heap:=s.heap.push {cls:=.type "tuple",data:=.seq ((items.toList.drop<|sIx items.size 0 lo).take<|sIx items.size items.size hi-sIx items.size 0 lo).toArray}}) (hsz:items.size<=sizeLine):wpAny (model prog w) A (getItem (.ref t)<|.ref sl) Q E s:=by
 have Dq:sizeOk (.seq ((items.toList.drop<|sIx items.size 0 lo).take<|sIx items.size items.size hi-sIx items.size 0 lo).toArray):=by show((items.toList.drop<|sIx items.size 0 lo).take<|sIx items.size items.size hi-sIx items.size 0 lo).toArray.size<=sizeLine;rw[zo,yp,List.length_drop,z0];lia
 have hj:sIx items.size items.size hi<=items.size:=sIx_le _ _ (zq _) hi;obtain⟨os,Sv,hcs,Q5⟩:=id hs;have hTs:s.TypeIs (.ref sl) "slice":=⟨os,Sv,hcs⟩;unfold getItem;try with_reducible refine yK ?_
 first|refine zc (zm ?_)|skip
 refine zc<|wpAny_sequenceKey ht.typeIs (by decide) ?_;refine zc<|wpAny_callSpecial?_slot (name:=Str.ofString "__getitem__") ht.typeIs PyProof.Rows.slot_tuple_getitem<|yJ PyProof.Rows.slot_tuple_getitem ht.typeIs entry_tuple_getitem ?_<|args_tuple_getitem _ _;show wpAny _ _ (Builtin.Tuple.tupleItemsOf (.ref t) >>=_) _ _ s;refine zc<|tupleItemsOf_ ht ?_;refine zc<|wpAny_typeOf hTs ?_;rw[if_pos<|by decide];refine zc<|sliceApplied_gen hs pl pu ?_;have Ks:¬((((sIx items.size 0 lo:Nat):Int)==0&&(1:Int)==1&&(sIx items.size items.size hi-sIx items.size 0 lo)==items.size)=true):=by intro q;rw[zI,zI]at q;have q1:((sIx items.size 0 lo:Nat):Int)=0:=eq_of_beq q.1.1;have q2:sIx items.size items.size hi-sIx items.size 0 lo=items.size:=eq_of_beq q.2;exact hw {by lia,by lia}
 show wpAny _ _ (if (((sIx items.size 0 lo:Nat):Int)==0&&(1:Int)==1&&(sIx items.size items.size hi-sIx items.size 0 lo)==items.size)=true then _ else _) _ _ s;rw[if_neg Ks,pick_gen];first|exact zc (m:=Builtin.Tuple.tupleExact _) (yj (zm !⟨zm h⟩) Dq)|exact zc (m:=Builtin.Tuple.tupleExact _) (yj (zc<|zm<|zm !⟨zm h⟩) Dq)|exact zc (zc (m:=Builtin.Tuple.tupleExact _)<|yj (zm<|zm !⟨zm h⟩) Dq)|exact zc (zc (m:=Builtin.Tuple.tupleExact _)<|yj (zm !⟨zm h⟩) Dq)
end
end HT
namespace L2
open PySem PySem.Spec PyProof.Rows
abbrev TO:=St->Hp->(Option Int->Hp->Prop)->Prop
def PO(X:Cx)(e:Option Expr)(t:TO):Prop:=∀(pins:List (Addr×Obj))(s:Shared)(σ:St)(H:Hp)(Q:Option Int->Hp->Prop),Inv X pins σ H s->t σ H Q->wpAny (model X.prog X.w) X.A (evalPart e X.env) (λu s'=>∃o H',Inv X pins σ H' s'/\IsPart u o/\Q o H') X.xe s
def Kt:TO:=λ_ H Q=>Q none H
def Sw(t:TE):TO:=λσ H Q=>t σ H λx H1=>∃i,x=.int i/\Q (some i) H1
section
variable{X:Cx}{e:Expr}{te:TE}{lo hi:Option Expr}{tl th:TO}{pos p2:Pos}
theorem Ku:PO X none Kt:=by intro pins s σ H Q I h;rw[evalPart_none];exact zm {none,H,I,.none,h}
theorem Kv(h:PE X e te):PO X (some e) (Sw te):=by intro pins s σ H Q I hw;rw[evalPart_some];refine bz (h pins s σ H _ I hw) λu s1 ⟨x,H1,I1,r1,q1⟩=>?_;obtain⟨i,rfl,q⟩:=q1;obtain⟨t,rfl⟩:=r1;exact{some i,H1,I1,.int i t,q}
def Q6(X:Cx)(r:V->Option Int->Option Int->Hp->VK->Prop):Prop:=∀(pins:List (Addr×Obj))(s:Shared)(σ:St)(H:Hp)(x:V)(v vl vu:Value)(lo hi:Option Int)(sl:Addr)(Q:VK),Inv X pins σ H s->RelV x v->s.heap.IsSliceOf sl vl vu .none->IsPart vl lo->IsPart vu hi->r x lo hi H Q->∃T id,typeLookup (.type T) "__getitem__"= pure (some<|.builtin id)/\s.TypeIs v T/\wpAny (model X.prog X.w) X.A (getItem v<|.ref sl) (EP X pins σ Q) X.xe s
def tSl(r:V->Option Int->Option Int->Hp->VK->Prop)(te:TE)(tl th:TO):TE:=λσ H Q=>te σ H λx H1=>tl σ H1 λl H2=>th σ H2 λu H3=>r x l u H3 Q
theorem xG{r:V->Option Int->Option Int->Hp->VK->Prop}(hr:Q6 X r)(he:PE X e te)(hl:PO X lo tl)(hu:PO X hi th):PE X (.Subscript e (.Slice lo hi none p2) pos) (tSl r te tl th):=by intro pins s σ H Q I h;refine Subscript_<|bz (he pins s σ H _ I h) λv s1 ⟨x,H1,I1,r1,q1⟩=>?_;refine wpAny_Slice<|bz (hl pins s1 σ H1 _ I1 q1) λvl s2 ⟨l,H2,I2,pl,q2⟩=>bz (hu pins s2 σ H2 _ I2 q2) λvu s3 ⟨u,H3,I3,pu,q3⟩=>?_;rw[evalPart_none];refine zm ?_;have I4:Inv X pins σ H3 {s3 with heap:=s3.heap.push {cls:=.type "slice",data:=.fields #[vl,vu,.none]}}:=I3.kept (t':=s3.toks) λb ob q=>za _ q;obtain⟨T,id,hT,ht,hg⟩:=hr pins {s3 with heap:=s3.heap.push {cls:=.type "slice",data:=.fields #[vl,vu,.none]}} σ H3 x v vl vu l u s3.heap.objs.size Q I4 r1 (Heap.IsSliceOf.new ..) pl pu q3;show wpAny (model X.prog X.w) X.A (subscriptTail e (.Slice lo hi none p2) v<|.ref s3.heap.objs.size) (EP X pins σ Q) X.xe {s3 with heap:=s3.heap.push {cls:=.type "slice",data:=.fields #[vl,vu,.none]}};exact tail_any (ops:=[.ref s3.heap.objs.size,v]) ht hT hg<|by with_unfolding_all rfl
noncomputable def xH(xs:List V)(lo hi:Option Int):List V:=(xs.drop<|HT.sIx xs.length 0 lo).take<|HT.sIx xs.length xs.length hi-HT.sIx xs.length 0 lo
theorem oR(xs:List V)(lo hi:Option Int):(xH xs lo hi).length<=xs.length:=by unfold xH;rw[yp,List.length_drop];lia
def Xo(K:Frag):V->Option Int->Option Int->Hp->VK->Prop:=λx lo hi H Q=>∃a xs,x=.ref a/\iM K H a xs/\¬(HT.sIx xs.length 0 lo=0/\HT.sIx xs.length xs.length hi=xs.length)/\∀p,H p=none->Q (.ref p) (upd H p<|.tup<|xH xs lo hi)
theorem OG:Q6 X (Xo X.K):=by
 intro pins s σ H x v vl vu lo hi sl Q I rx hs pl pu h;obtain⟨a,xs,rfl,hx,hw,q⟩:=h;cases rx;obtain⟨az,r,ht,hz⟩:=I.tuple hx;have hlen:az.toArray.size=xs.length:=by rw[zo];exact r.length.symm
 refine{"tuple",_,PyProof.Rows.slot_tuple_getitem.lookup,ht.typeIs,?_};refine HT.getItem_tuple_cut ht hs pl pu (by rw[hlen];exact hw) ?_ (by rw[hlen];exact hz);rw[hlen];refine{.ref s.heap.objs.size,_,I.laid (t':=s.toks) (o:=.tup<|xH xs lo hi) (λb ob q=>za _ q) (zq _) ?_,rfl,q _<|I.aK.fresh<|zq _};exact{zD (oR xs lo hi) hz,_,(r.drop<|HT.sIx xs.length 0 lo).take<|HT.sIx xs.length xs.length hi-HT.sIx xs.length 0 lo,ie.new _ _}
end
noncomputable def Ds(n:Nat)(i:Int):Option Nat:=if 0<=i then (if i<n then some i.toNat else none) else if -(n:Int)<=i then some (i+n).toNat else none
noncomputable def gE{α:Type}(xs:List α)(i:Int):Option α:=(Ds xs.length i).bind λj=>xs[j]?
theorem Du(h:Ds n i=some j):seqIndex? i n=some j/\j<n/\-(n:Int)<=i/\i<n:=by unfold Ds at h;by_cases h0:0<=i;rw[if_pos h0]at h;by_cases h1:i<n;rw[if_pos h1]at h;have e:i.toNat=j:=zU h;exact{by rw[seqIndex_of h0 h1,e],by lia,by lia,h1};rw[if_neg h1]at h;cases h;rw[if_neg h0]at h;by_cases h1:-(n:Int)<=i;rw[if_pos h1]at h;have e:(i+n).toNat=j:=zU h;exact{by rw[seqIndex_neg (by lia) h1,e],by lia,h1,by lia};rw[if_neg h1]at h;cases h
theorem vk(h:gE xs i=some v):∃j,seqIndex? i xs.length=some j/\xs[j]?=some v/\j<xs.length/\-(xs.length:Int)<=i/\i<xs.length:=by unfold gE at h;cases e:Ds xs.length i with|none=>(rw[e]at h;cases h)|some j=>rw[e]at h;obtain⟨h1,h2,h3,h4⟩:=Du e;exact⟨j,h1,h,h2,h3,h4⟩
theorem bG{α:Type}{xs:List α}{j:Nat}{v:α}(h:xs[j]?=some v):gE xs (j:Int)=some v:=by
 have hj:j<xs.length:=(zd.mp h).1;have e:Ds xs.length (j:Int)=some j:=by unfold Ds;rw[if_pos<|by lia,if_pos<|by lia];simp
 unfold gE;rw[e];exact h
def Dw(b:Expr):Prop:=∀o i,subscripted b false o i=operate [o,i] (getItem o i)
def Sy(X:Cx)(r:R2):Prop:=∀(value slice:Expr)(pins:List (Addr×Obj))(s:Shared)(σ:St)(H:Hp)(x y:V)(v u:Value)(Q:VK),Inv X pins σ H s->RelV x v->RelV y u->r x y H Q->subscripted slice false v u=operate [v,u] (getItem v u)->wpAny (model X.prog X.w) X.A (subscriptTail value slice v u) (EP X pins σ Q) X.xe s
def Q7(X:Cx)(id:String)(r:V->List V->Hp->VK->Prop):Prop:=∀(pins:List (Addr×Obj))(s:Shared)(σ:St)(H:Hp)(x:V)(xs:List V)(v:Value)(us:List Value)(Q:VK),Inv X pins σ H s->RelV x v->Vals xs us->r x xs H Q->wpAny (model X.prog X.w) X.A (call (.builtin id)<|v::us) (EP X pins σ Q) X.xe s
section
variable{X:Cx}{a b:Expr}{ta tb:TE}{pos:Pos}
theorem Sz(hr:Sy X r)(ha:PE X a ta)(hb:PE X b tb)(hs:Dw b):PE X (.Subscript a b pos) (Q3 r ta tb):=by intro pins s σ H Q I h;exact Subscript_<|Oo ha hb I h λv u s2 x y H2 I2 rx ry q=>hr a b pins s2 σ H2 x y v u Q I2 rx ry q<|hs _ _
def Xp(K:Frag):R2:=λx y H Q=>∃p xs i v,x=.ref p/\y=.int i/\jf K H p xs/\gE xs i=some v/\Q v H
def Xq(K:Frag):R2:=λx y H Q=>∃p xs i v,x=.ref p/\y=.int i/\iM K H p xs/\gE xs i=some v/\Q v H
def Xr:R2:=λx y H Q=>∃z i c,x=.str z/\y=.int i/\z.length<=sizeLine/\gE z.cps.toList i=some c/\Q (.str ⟨#[c]⟩) H
theorem Dx:Sy X (Xp X.K):=by
 intro value slice pins s σ H x y v u Q I rx ry h hs;obtain⟨p,xs,i,z,rfl,rfl,hq,he,q⟩:=h;cases rx;obtain⟨t,rfl⟩:=ry;obtain⟨az,r,pl,hz⟩:=I.list hq;obtain⟨j,h1,h2,h3,h4,h5⟩:=vk he;obtain⟨w,ew,nE⟩:=r.get h2;have hl:=r.length;have hn:=qP;have fin:EP X pins σ Q w s:=⟨z,H,I,nE,q⟩;by_cases h0:0<=i;have hj:i.toNat=j:=by rw[seqIndex_of h0 h5]at h1;exact zU h1
 exact item_listR pl.isList h0 (by lia) (by rw[hj];simpa using ew) fin hs;have hj:(i+(az.toArray.size:Int)).toNat=j:=by rw[seqIndex_neg (by lia) h4]at h1;rw[zo,<-hl];exact zU h1
 exact subscriptTail_builtinR (x:=w) pl.isList.typeIs slot_list_getitem.lookup (wpAny_getItem_list_neg (Q:=λr s'=>r=w/\EP X pins σ Q r s') pl.isList (by lia) (by rw[zo]<;>lia) (by lia) (by rw[hj];simpa using ew) ⟨rfl,fin⟩) hs
theorem Hb:Sy X (Xq X.K):=by intro value slice pins s σ H x y v u Q I rx ry h hs;obtain⟨p,xs,i,z,rfl,rfl,hq,he,q⟩:=h;cases rx;obtain⟨t,rfl⟩:=ry;obtain⟨az,r,pl,hz⟩:=I.tuple hq;obtain⟨j,h1,h2,h3,h4,h5⟩:=vk he;obtain⟨w,ew,nE⟩:=r.get h2;have hl:=r.length;have hn:=qP;have fin:EP X pins σ Q w s:=⟨z,H,I,nE,q⟩;exact subscriptTail_builtinR (x:=w) pl.typeIs slot_tuple_getitem.lookup (getItem_tuple (j:=j) (Q:=λr s'=>r=w/\EP X pins σ Q r s') pl (by lia) (by lia) (by rw[zo,<-hl];exact h1) (by simpa using ew) ⟨rfl,fin⟩) hs
theorem OH:Sy X Xr:=by
 intro value slice pins s σ H x y v u Q I rx ry h hs;obtain⟨z,i,c,rfl,rfl,hz,he,q⟩:=h;obtain⟨t,rfl⟩:=rx;obtain⟨t',rfl⟩:=ry;obtain⟨j,h1,h2,h3,h4,h5⟩:=vk he;have hl:z.cps.toList.length=z.length:=by simp[Str.length]
 rw[hl]at h1 h4 h5;have hn:=qP;exact tail_any (typeIs_str s z t) slot_str_getitem.lookup (getItem_str (c:=c) (by have e1:decide (i < -(2^63:Int))=false:=zt (by lia);have e2:decide (i>=2^63)=false:=zt (by lia);rw[e1,e2,Bool.or_false]) (by rw[h1];simpa using h2) {.str ⟨#[c]⟩,H,I.tok _,{_,rfl},q}) hs
theorem Bx(az:List Value)(n j:Nat)(u:Value):Obj.mapSeq (·.setIfInBounds j u) {cls:=.type "list",data:=.seq az.toArray n}={cls:=.type "list",data:=.seq (az.set j u).toArray n}:=by simp[Obj.mapSeq]
theorem Inv.lst(I:Inv X pins σ H s)(h:H p=some (.lst xs)): ∃(az:List Value)(n:Nat),Vals xs az/\s.heap.get? p=some {cls:=.type "list",data:=.seq az.toArray n}/\xs.length<=sizeLine:=by obtain⟨z,az,n,r,e⟩:=I.aK p _ h;exact⟨az,n,r,e,z⟩
theorem Inv.OI{pins:List<|Addr×Obj}{σ:St}{H:Hp}{s:Shared}{p:Addr}{xs ys:List V}{az its':List Value}{n n':Nat}{f:Obj->Obj}(I:Inv X pins σ H s)(h:H p=some (.lst xs)) (ho:s.heap.get? p=some {cls:=.type "list",data:=.seq az.toArray n}) (hf:f {cls:=.type "list",data:=.seq az.toArray n}={cls:=.type "list",data:=.seq its'.toArray n'}) (r:Vals ys its') (hz:ys.length<=sizeLine) (t:Nat): Inv X pins σ (upd H p<|.lst ys) {s with heap:=s.heap.update p f,toks:=t}:=by
 have e:(s.heap.update p f).get? p=some {cls:=.type "list",data:=.seq its'.toArray n'}:=by rw[yB f ho<|by rw[hf]<;>rfl,hf]
 refine I.write (x:=p) (e:=p) (by rw[h];trivial) (.inl rfl) (λb u hb q=>(yy _ _<|Ne.symm hb).trans q) {_,e} ?_;exact⟨hz,its',n',r,e⟩
def SE:V->V->V->Hp->(Hp->Prop)->Prop:=λo i v H Q=>∃p xs k j,o=.ref p/\i=.int k/\H p=some (.lst xs)/\Ds xs.length k=some j/\Q (upd H p<|.lst<|xs.set j v)
theorem set_list:R8 X SE:=by
 intro pins s σ H o i v ov iv u Q I ro ri rv h;obtain⟨p,xs,k,j,rfl,rfl,hp,hj,q⟩:=h;cases ro;obtain⟨t,rfl⟩:=ri;obtain⟨az,n,r,ho,hz⟩:=I.lst hp;obtain⟨h1,h2,h3,h4⟩:=Du hj;have hl:=r.length;have hn:=qP;have I':Inv X pins σ (upd H p<|.lst<|xs.set j v) {s with heap:=s.heap.update p (Obj.mapSeq (·.setIfInBounds j u))}:=I.OI hp ho (Bx az n j u) (r.set rv j) (by rw[List.length_set];exact hz) s.toks;by_cases h0:0<=k;have hk:k.toNat=j:=by rw[seqIndex_of h0 h4]at h1;exact zU h1
 exact PySem.W.ki_setAt ho h0 (by lia) (by rw[zo,<-hl];exact h4) (by rw[hk];exact{_,I',q});have hk:(k+(az.toArray.size:Int)).toNat=j:=by rw[seqIndex_neg (by lia) h3]at h1;rw[zo,<-hl];exact zU h1
 exact PySem.W.ki_setBack ho (by lia) (by rw[zo,<-hl];exact h3) (by lia)<|by rw[hk];exact{_,I',q}
theorem vm(lo hi:Option Int)(n:Nat):(sliceBounds lo hi none n).1=((HT.sIx n 0 lo:Nat):Int)/\(sliceBounds lo hi none n).2.1=((HT.sIx n n hi:Nat):Int)/\(sliceBounds lo hi none n).2.2=1:=by
 refine{?_,?_,rfl};cases lo with|none=>simp[sliceBounds,HT.sIx]|some i=>simp only[sliceBounds,HT.sIx,Option.getD_none,show(1:Int)>0 by decide,if_true];by_cases h:i<0;simp only[h,if_true]<;>lia;simp only[h,if_false]<;>lia
 cases hi with|none=>simp[sliceBounds,HT.sIx]|some i=>simp only[sliceBounds,HT.sIx,Option.getD_none,show(1:Int)>0 by decide,if_true];by_cases h:i<0;simp only[h,if_true]<;>lia;simp only[h,if_false]<;>lia
theorem tI(az:List Value)(lo hi:Option Int):slicePick az.toArray lo hi none=((az.drop<|HT.sIx az.length 0 lo).take<|HT.sIx az.length az.length hi-HT.sIx az.length 0 lo).toArray:=by obtain⟨h1,h2,h3⟩:=vm lo hi az.toArray.size;unfold slicePick;rw[h1,h2,h3];simp only[sliceRange_one,pick_run,zo]<;>rfl
def Xs(K:Frag):V->Option Int->Option Int->Hp->VK->Prop:=λx lo hi H Q=>∃a xs,x=.ref a/\jf K H a xs/\∀p,H p=none->Q (.ref p) (upd H p<|.lst<|xH xs lo hi)
theorem qv:Q6 X (Xs X.K):=by intro pins s σ H x v vl vu lo hi sl Q I rx hs pl pu h;obtain⟨a,xs,rfl,hx,q⟩:=h;cases rx;obtain⟨az,r,ht,hz⟩:=I.list hx;have hlen:=r.length;refine{"list",_,slot_list_getitem.lookup,ht.isList.typeIs,?_};refine wpAny_getItem_list_slice ht.isList hs pl pu .none (by simp) ?_ (by rw[zo]<;>lia);rw[tI,<-hlen];refine{.ref s.heap.objs.size,_,I.laid (t':=s.toks) (o:=.lst<|xH xs lo hi) (λb ob q=>za _ q) (zq _) ?_,rfl,q _<|I.aK.fresh<|zq _};exact{zD (oR xs lo hi) hz,_,0,(r.drop<|HT.sIx xs.length 0 lo).take<|HT.sIx xs.length xs.length hi-HT.sIx xs.length 0 lo,zk _ rfl}
noncomputable def gF:V->Bool|.au=>true|.bl _=>true|.int _=>true|.str _=>true|_=>false
noncomputable def eqV:V->V->Bool|.au,.au=>true|.bl a,.bl b=>a==b|.bl a,.int b=>((if a then 1 else 0)==b)|.int a,.bl b=>(a==(if b then 1 else 0))|.int a,.int b=>a==b|.str a,.str b=>a==b|_,_=>false
theorem OJ(ry:RelV y u)(rx:RelV x v)(fy:gF y=true)(fx:gF x=true):SeqAt.EqAt A s u v (eqV y x):=by cases y with|au=>(cases ry;cases x with|au=>(cases rx;exact SeqAt.EqAt.same _)|bl b=>(cases rx;exact SeqAt.EqAt.none_bool b)|int b=>(obtain⟨t,rfl⟩:=rx;exact SeqAt.EqAt.none_int b t)|str b=>(obtain⟨t,rfl⟩:=rx;exact SeqAt.EqAt.none_str b t)|_=>exact absurd (show false=true from fx) ze)|bl a=>(cases ry;cases x with|au=>(cases rx;exact SeqAt.EqAt.bool_none a)|bl b=>(cases rx;exact SeqAt.EqAt.bool_bool a b)|int b=>(obtain⟨t,rfl⟩:=rx;exact SeqAt.EqAt.bool_int a b t)|str b=>(obtain⟨t,rfl⟩:=rx;exact SeqAt.EqAt.bool_str a b t)|_=>exact absurd (show false=true from fx) ze)|int a=>(obtain⟨t',rfl⟩:=ry;cases x with|au=>(cases rx;exact SeqAt.EqAt.int_none a t')|bl b=>(cases rx;exact SeqAt.EqAt.int_bool a t' b)|int b=>(obtain⟨t,rfl⟩:=rx;exact SeqAt.EqAt.int_int a t' b t)|str b=>(obtain⟨t,rfl⟩:=rx;exact SeqAt.EqAt.int_str a t' b t)|_=>exact absurd (show false=true from fx) ze)|str a=>(obtain⟨t',rfl⟩:=ry;cases x with|au=>(cases rx;exact SeqAt.EqAt.str_none a t')|bl b=>(cases rx;exact SeqAt.EqAt.str_bool a t' b)|int b=>(obtain⟨t,rfl⟩:=rx;exact SeqAt.EqAt.str_int a t' b t)|str b=>(obtain⟨t,rfl⟩:=rx;exact SeqAt.EqAt.str_str a t' b t)|_=>exact absurd (show false=true from fx) ze)|_=>exact absurd (show false=true from fy) ze
noncomputable def Hc(x:V)(u:Value):Bool:=match u with|.none=>eqV .au x|.bool b=>eqV (.bl b) x|.int i _=>eqV (.int i) x|.str z _=>eqV (.str z) x|_=>false
theorem By(r:RelV y u)(f:gF y=true):Hc x u=eqV y x:=by cases y with|au=>(cases r;rfl)|bl b=>(cases r;rfl)|int i=>(obtain⟨t,rfl⟩:=r;rfl)|str z=>(obtain⟨t,rfl⟩:=r;rfl)|_=>exact absurd (show false=true from f) ze
theorem vo:∀{xs:List V}{us:List Value},Vals xs us->xs.all gF=true->us.any (Hc x)=xs.any λy=>eqV y x|_,_,.nil,_=>rfl|y::xs,u::us,.cons r t,f=>by rw[List.all_cons,zI]at f;rw[yR,yR,By r f.1,vo t f.2]
theorem lZ(rx:RelV x v)(fx:gF x=true):∀{xs:List V}{us:List Value},Vals xs us->xs.all gF=true->∀u∈us,SeqAt.EqAt A s u v (Hc x u)|_,_,.nil,_=>(λu hu=>by cases hu)|y::xs,u::us,.cons r t,f=>λu' hu=>by rw[List.all_cons,zI]at f;rcases zj.mp hu with rfl|hu;rw[By r f.1];exact OJ r rx f.1 fx;exact lZ rx fx t f.2 u' hu
noncomputable def Bz(x:V)(xs:List V):Bool:=xs.any λy=>eqV y x
def rIn(K:Frag)(neg:Bool):R2:=λx y H Q=>∃p xs,y=.ref p/\(jf K H p xs\/iM K H p xs)/\gF x=true/\xs.all gF=true/\Q (.bl<|if neg then !Bz x xs else Bz x xs) H
theorem nH:ia X (compareOp .In) (rIn X.K false):=by intro pins s σ H x y v u Q I rx ry h;obtain⟨p,xs,rfl,hq,fx,fs,q⟩:=h;cases ry;rcases hq with hq|hq;obtain⟨az,r,pl,hz⟩:=I.list hq;refine SeqAt.in_listAt (Hc x) pl.isList (λw hw=>lZ rx fx r fs w<|by simpa using hw) {.bl _,H,I,rfl,?_};rw[show az.toArray.any (Hc x)=az.any (Hc x) by simp,vo r fs];exact q;obtain⟨az,r,pl,hz⟩:=I.tuple hq;refine SeqAt.in_tupleAt (Hc x) pl (λw hw=>lZ rx fx r fs w<|by simpa using hw) {.bl _,H,I,rfl,?_};rw[show az.toArray.any (Hc x)=az.any (Hc x) by simp,vo r fs];exact q
theorem kO:eF X (.type "tuple") (λxs H Q=>∃p ys,xs=[.ref p]/\((jf X.K H p ys/\∀l,H l=none->Q (.ref l) (upd H l<|.tup ys))\/(iM X.K H p ys/\Q (.ref p) H))):=by intro pins s σ H xs us Q I r h;obtain⟨p,ys,rfl,h⟩:=h;obtain⟨u,rfl,rx⟩:=vals1 r;cases rx;rcases h with⟨hq,q⟩|⟨hq,q⟩;obtain⟨az,r',pl,hz⟩:=I.list hq;have hlen:=r'.length;refine call_tuple_list pl.isList (λh' kp=>?_) (by simp only[zo]<;>lia);have I1:Inv X pins σ H {s with heap:=h'}:=I.kept (t':=s.toks) kp;have I2:Inv X pins σ (upd H h'.objs.size<|.tup ys) {s with heap:=h'.push {cls:=.type "tuple",data:=.seq az.toArray}}:=I1.laid (t':=s.toks) (λb o e=>za _ e) (zq _)<|show bt X.prog X.w _ _ _ (.tup ys) from{hz,az,r',ie.new _ _};exact{.ref h'.objs.size,_,I2,rfl,q _<|I1.aK.fresh<|zq _};obtain⟨az,r',pl,hz⟩:=I.tuple hq;exact call_tuple_same pl {.ref p,H,I,rfl,q}
def VY(K:Frag)(T:String)(x:V)(H:Hp):Prop:=match x with|.str _=>T ="str"|.int _=>T ="int"|.ref p=>(T ="list"/\∃xs,jf K H p xs)\/(T ="tuple"/\∃o,K.lookup p=some o/\o.cls=.type "tuple"/\o.dict=none)\/(T ="dict"/\((∃kvs,H p=some (.dK kvs))\/∃kvs,H p=some (.dT kvs)))\/(T ="set"/\∃S n,H p=some (.set S n))|_=>False
theorem Hd{T:String}(I:Inv X pins σ H s)(r:RelV x v)(ty:VY X.K T x H): s.TypeIs v T/\∀a,v=.ref a->∃ob,s.heap.get? a=some ob/\ob.dict=none:=by cases x with|str z=>(obtain⟨t,rfl⟩:=r;cases (show T ="str" from ty);exact{typeIs_str s z t,λ_ e=>nomatch e})|int i=>(obtain⟨t,rfl⟩:=r;cases (show T ="int" from ty);exact{typeIs_int s i t,λ_ e=>nomatch e})|ref p=>(cases r;rcases ty with⟨rfl,xs,hq⟩|⟨rfl,o,hk,hc,hd⟩|⟨rfl,hk⟩|⟨rfl,S,n,hk⟩;obtain⟨az,_,pl,_⟩:=I.list hq;refine{pl.isList.typeIs,λa e=>?_};cases e;obtain⟨o,n,e,c,hd,_⟩:=pl;exact⟨o,e,hd⟩;refine{{o,I.oO p o hk,hc},λa e=>?_};cases e;exact{o,I.oO _ o hk,hd};have z:∃o,s.heap.get? p=some o/\o.ExactDict:=(by rcases hk with⟨kvs,hk⟩|⟨kvs,hk⟩;obtain⟨_,_,_,_,o,_,_,e,ex,_⟩:=I.aK p _ hk;exact⟨o,e,ex⟩;exact False.elim<|I.aK p _ hk);obtain⟨o,e,ex⟩:=z;refine{⟨o,e,ex.1⟩,λa e2=>?_};cases e2;exact⟨o,e,ex.2.1⟩;obtain⟨o,_,_,_,e,ex,_⟩:=I.aK p _ hk;refine{⟨o,e,ex.1⟩,λa e2=>?_};cases e2;exact⟨o,e,ex.2.1⟩)|_=>exact False.elim ty
def Xt(K:Frag)(T:String)(r:V->List V->Hp->VK->Prop)(to:TE):TE:=λσ H Q=>to σ H λx H1=>VY K T x H1/\r x [] H1 Q
def tBM(K:Frag)(T:String)(r:V->List V->Hp->VK->Prop)(to:TE)(t:TA):TE:=λσ H Q=>to σ H λx H1=>VY K T x H1/\t σ H1 λxs H2=>r x xs H2 Q
variable{o e:Expr}{es:List Expr}{to:TE}{t:TA}{name:Str}{apos aN:Pos}{T id:String}{r:V->List V->Hp->VK->Prop}
theorem OL(pa:PlainAttrs T)(slot:Slot T name id)(OM:typeOf (.builtin id)=pure (.type "method_descriptor"))(hm:Q7 X id r)(ho:PE X o to) (l4:autoParam (attributeBase o name X.env (eval o X.env)=eval o X.env) qQJ) (qS:autoParam ((apos.endLine==aN.line)=true) qQJ):PE X (.Call (.Attribute o name apos) [] [] aN) (Xt X.K T r to):=by intro pins s σ H Q I h;refine wpAny_Call_method0_late l4 qS<|bz (ho pins s σ H _ I h) λv s1 ⟨x,H1,I1,r1,ty,q1⟩=>?_;obtain⟨h1,h2⟩:=Hd I1 r1 ty;exact{T,id,pa,slot,OM,h1,h2,Calls.callWith_builtin rfl<|PySem.evalArgs_none<|hm pins s1 σ H1 x [] v [] Q I1 r1 .nil q1}
theorem SF(pa:PlainAttrs T)(slot:Slot T name id)(OM:typeOf (.builtin id)=pure (.type "method_descriptor"))(hm:Q7 X id r)(ho:PE X o to)(ha:PA X (e::es) t) (l4:autoParam (attributeBase o name X.env (eval o X.env)=eval o X.env) qQJ) (ON:autoParam (((backTo aN<|starEach (e::es) X.env).all (λx=>!x.1)&&(backToKw aN<|keywordEach [] X.env).all (λx=>x.1.isSome)&&decide ((e::es).length+([]:List Keyword).length+(if ([]:List Keyword).isEmpty then 0 else 1)<30))=true) qQJ) (qS:autoParam ((apos.endLine==aN.line)=true) qQJ) (hs:autoParam (starEach (e::es) X.env=(false,eval e X.env)::starEach es X.env) qQJ) (BA:autoParam ((backTo aN<|starEach es X.env).any (·.1)=false) qQJ): PE X (.Call (.Attribute o name apos) (e::es) [] aN) (tBM X.K T r to t):=by intro pins s σ H Q I h;refine wpAny_Call_method_late l4 ON qS rfl<|bz (ho pins s σ H _ I h) λv s1 ⟨x,H1,I1,r1,ty,q1⟩=>?_;obtain⟨h1,h2⟩:=Hd I1 r1 ty;refine{T,id,pa,slot,OM,h1,h2,?_};have hA:=ha aN pins s1 σ H1 _ I1 q1;rw[hs]at hA⊢;refine Calls.callWith_builtin (by show(false||(backTo aN<|starEach es X.env).any (·.1))=false;rw[BA]<;>rfl)<|Calls.evalArgs_plain ?_;exact bz hA <| by rintro us s2 ⟨vs,H2,I2,r2,q2⟩;exact hm pins s2 σ H2 x vs v us Q I2 r1 r2 q2
end
def SG(X:Cx)(id:String)(r:V->List V->Hp->VK->Prop):Prop:=∀(pins:List (Addr×Obj))(s:Shared)(σ:St)(H:Hp)(x:V)(xs:List V)(v:Value)(us:List Value)(Q:VK),Inv X pins σ H s->RelV x v->Vals xs us->r x xs H Q->wpAny (model X.prog X.w) X.A (call (.builtin id)<|v::us) (EP X pins σ Q) X.xe s
theorem Vals.one:∀{x:V}{us:List Value},Vals [x] us->∃u,us=[u]/\RelV x u:=by intro x us h;cases h with|cons r t=>cases t;exact{_,rfl,r}
theorem Vals.two:∀{x y:V}{us:List Value},Vals [x,y] us->∃u v,us=[u,v]/\RelV x u/\RelV y v:=by intro x y us h;cases h with|cons r t=>obtain⟨_,rfl,q⟩:=Vals.one t;exact{_,_,rfl,r,q}
theorem Vals.zero:∀{us:List Value},Vals [] us->us=[]|_,.nil=>rfl
theorem Vals.dropLast{xs:List V}{us:List Value}(h:Vals xs us):Vals xs.dropLast us.dropLast:=by induction h with|nil=>exact .nil|cons r t ih=>cases t with|nil=>exact .nil|cons q t'=>exact .cons r ih
theorem Vals.eraseIdx:∀{xs:List V}{us:List Value}(i:Nat),Vals xs us->Vals (xs.eraseIdx i) (us.eraseIdx i)|_,_,_,.nil=>.nil|_,_,0,.cons _ t=>t|_,_,i+1,.cons r t=>.cons r<|Vals.eraseIdx i t
theorem BB{α:Type}(l:List α):l.eraseIdx (l.length-1)=l.dropLast:=by induction l with|nil=>rfl|cons a r ih=>cases r with|nil=>rfl|cons b r=>have e:(a::b::r).length-1=((b::r).length-1)+1:=(by have h1:(a::b::r).length=r.length+2:=rfl;have h2:(b::r).length=r.length+1:=rfl;lia);rw[e,List.eraseIdx_cons_succ,ih];all_goals rfl
theorem uB{α:Type} : ∀(l:List α)(i:Nat),(l.eraseIdx i).length<=l.length|[],_=>zq _|_::_,0=>yT _|_::r,i+1=>Nat.succ_le_succ<|uB r i
section
variable{X:Cx}{pins:List (Addr×Obj)}{σ:St}{H:Hp}{s:Shared}{l:Addr}{xs ys:List V}
theorem Inv.He{az its':List Value}{n:Nat}{f:Array Value->Array Value}{t':Nat}(I:Inv X pins σ H s)(hH:H l=some (.lst xs)) (e:s.heap.get? l=some {cls:=.type "list",data:=.seq az.toArray n}) (hf:f az.toArray=its'.toArray) (hv:Vals ys its') (hz:ys.length<=sizeLine): Inv X pins σ (upd H l<|.lst ys) {s with heap:=s.heap.update l<|Obj.mapSeq f,toks:=t'}:=by have q:=PySem.IsL.update e f;rw[hf]at q;refine I.write (x:=l) (e:=l) (by rw[hH];exact trivial) (.inl rfl) (λb' u hb hu=>(yy s.heap (Obj.mapSeq f)<|Ne.symm hb).trans hu) {_,q} ?_;exact{hz,its',_,hv,q}
theorem Inv.Xu(I:Inv X pins σ H s)(hv:Vals ys az)(hz:ys.length<=sizeLine): Inv X pins σ (upd H s.heap.objs.size<|.lst ys) {s with heap:=s.heap.push {cls:=.type "list",data:=.seq az.toArray},toks:=t'}:=I.laid (λ_ _ q=>za _ q) (zq _) {hz,az,0,hv,zk _ rfl}
theorem Inv.fresh(I:Inv X pins σ H s):H s.heap.objs.size=none:=I.aK.fresh<|zq _
theorem Inv.xI(I:Inv X pins σ H s)(hH:H l=some (.lst xs)):xs.length<=sizeLine/\∃(az:List Value)(n:Nat),Vals xs az/\xs.length=az.length/\s.heap.get? l=some {cls:=.type "list",data:=.seq az.toArray n}:=by obtain⟨z,az,n,r,e⟩:=I.aK l _ hH;exact⟨z,az,n,r,r.length,e⟩
theorem Hf{n:Nat}(h:n<=sizeLine):Builtin.List.listTooLong n=false:=by unfold Builtin.List.listTooLong;exact zt<|by lia
end
section
variable{X:Cx}
def Kw:V->List V->Hp->VK->Prop:=λx vs H Q=>∃l xs y,x=.ref l/\vs=[y]/\H l=some (.lst xs)/\xs.length<sizeLine/\Q .au (upd H l<|.lst<|xs++[y])
theorem EY:SG X "list.append" Kw:=by intro pins s σ H x vs v us Q I rx rv h;obtain⟨l,xs,y,rfl,rfl,hH,hz,q⟩:=h;cases rx;obtain⟨u,rfl,ru⟩:=rv.one;obtain⟨z,az,n,r,hl,e⟩:=I.xI hH;refine call_meets F.slot_list_append {_,e,rfl} F.entry_list_append (F.args_list_append_2 _ _) (PySem.list_append l az.toArray n u<|by rw[zo];lia) {e,?_};refine{.au,_,I.He (its':=az++[u]) hH e (by simp) (r.append<|.cons ru .nil) ?_,rfl,q};rw[zE,List.length_singleton];lia
def Xv:V->List V->Hp->VK->Prop:=λx vs H Q=>∃l xs y,x=.ref l/\vs=[]/\H l=some (.lst xs)/\xs[xs.length-1]?=some y/\Q y (upd H l<|.lst xs.dropLast)
theorem OO:SG X "list.pop" Xv:=by
 intro pins s σ H x vs v us Q I rx rv h;obtain⟨l,xs,y,rfl,rfl,hH,hy,q⟩:=h;cases rx;have Xw:=rv.zero;subst Xw;obtain⟨z,az,n,r,hl,e⟩:=I.xI hH;obtain⟨u,hu,ru⟩:=r.get hy;have SH:az.toArray[az.toArray.size-1]?=some u:=by show az.toArray[az.length-1]?=some u;rw[<-Array.getElem?_toList,<-hl];exact hu
 refine call_meets F.slot_list_pop {_,e,rfl} F.entry_list_pop (F.args_list_pop_1 _) (MeetsSeq.list_pop_last l az.toArray n u SH<|by rw[zo];lia) {e,?_};refine{y,_,I.He (its':=az.dropLast) hH e ?_ r.dropLast ?_,ru,q};show az.toArray.eraseIdxIfInBounds (az.toArray.size-1)=az.dropLast.toArray;rw[zo,List.eraseIdxIfInBounds_toArray,BB];rw[List.length_dropLast];lia
def OP:V->List V->Hp->VK->Prop:=λx vs H Q=>∃l xs i k y,x=.ref l/\vs=[.int i]/\H l=some (.lst xs)/\-(2^63)<=i/\i<2^63/\seqIndex? i xs.length=some k/\xs[k]?=some y/\Q y (upd H l<|.lst<|xs.eraseIdx k)
theorem Hg:SG X "list.pop" OP:=by intro pins s σ H x vs v us Q I rx rv h;obtain⟨l,xs,i,k,y,rfl,rfl,hH,h1,h2,hk,hy,q⟩:=h;cases rx;obtain⟨u,rfl,ru⟩:=rv.one;obtain⟨t,rfl⟩:=ru;obtain⟨z,az,n,r,hl,e⟩:=I.xI hH;obtain⟨w,hw,nE⟩:=r.get hy;refine call_meets F.slot_list_pop {_,e,rfl} F.entry_list_pop (F.args_list_pop_2 _ _) (MeetsSeq.list_pop_at l az.toArray n i t k w (fitsIndex_both h1 h2) (by rw[zo,<-hl];exact hk) (by rw[<-Array.getElem?_toList];exact hw)<|by rw[zo];lia) {e,?_};refine{y,_,I.He (its':=az.eraseIdx k) hH e ?_ (r.eraseIdx k) ?_,nE,q};show az.toArray.eraseIdxIfInBounds k=(az.eraseIdx k).toArray;rw[List.eraseIdxIfInBounds_toArray];have:=uB xs k;lia
def OQ:V->List V->Hp->VK->Prop:=λx vs H Q=>∃l xs,x=.ref l/\vs=[]/\H l=some (.lst xs)/\Q .au (upd H l<|.lst [])
theorem Hh:SG X "list.clear" OQ:=by intro pins s σ H x vs v us Q I rx rv h;obtain⟨l,xs,rfl,rfl,hH,q⟩:=h;cases rx;have Xw:=rv.zero;subst Xw;obtain⟨z,az,n,r,hl,e⟩:=I.xI hH;refine call_meets F.slot_list_clear {_,e,rfl} F.entry_list_clear (F.args_list_clear_1 _) (AutoSeq1.list_clear_list_0 l az.toArray n<|by rw[zo];lia) {e,?_};exact{.au,_,I.He (its':=[]) (ys:=[]) hH e rfl .nil<|zT _,rfl,q}
def Xx:R2:=λx y H Q=>∃l b xs zs,x=.ref l/\y=.ref b/\H l=some (.lst xs)/\H b=some (.lst zs)/\xs.length+zs.length<=sizeLine/\∀p,H p=none->Q (.ref p) (upd H p<|.lst<|xs++zs)
theorem OR:ia X (binaryOp .Add) Xx:=by
 intro pins s σ H x y v u Q I rx ry h;obtain⟨l,b,xs,zs,rfl,rfl,hH,hB,hz,q⟩:=h;cases rx;cases ry;obtain⟨z,az,n,r,hl,e⟩:=I.xI hH;obtain⟨z2,tJ,n2,r2,GI,e2⟩:=I.xI hB;refine PySem.P.add_list e e2 ?_ (by rw[zo,zo];lia);have ea:az.toArray++tJ.toArray=(az++tJ).toArray:=by simp
 rw[ea];exact{.ref _,_,I.Xu (t':=s.toks) (r.append r2)<|by rw[zE];lia,rfl,q _ I.fresh}
end
section
variable{κ:Type}[DecidableEq κ]
noncomputable def fQ(kvs:List<|κ×V)(k:κ):Option V:=(kvs.find? λkv=>decide<|kv.1=k).map (·.2)
noncomputable def putK(kvs:List<|κ×V)(k:κ)(v:V):List (κ×V):=if (kvs.any λkv=>decide<|kv.1=k)=true then kvs.map (λkv=>if kv.1=k then (kv.1,v) else kv) else kvs++[(k,v)]
noncomputable def oS(kvs:List<|κ×V)(k:κ):List (κ×V):=kvs.filter λkv=>decide<|kv.1≠k
theorem qU{p:κ×V}{r:List<|κ×V}{k:κ}(e:p.1=k):fQ (p::r) k=some p.2:=by simp[fQ,yc,e]
theorem qW{p:κ×V}{r:List<|κ×V}{k:κ}(e:¬p.1=k):fQ (p::r) k=fQ r k:=by simp[fQ,yc,e]
theorem oU(kvs:List<|κ×V)(k:κ)(v:V):(putK kvs k v).length<=kvs.length+1:=by unfold putK;split;rw[zb];lia;rw[zE,zQ,List.length_nil];lia
theorem fO.nI(r:fO o u):o.isSome=u.isSome:=by cases o with|none=>(cases u with|none=>rfl|some _=>exact(show False from r).elim)|some _=>cases u with|none=>exact(show False from r).elim|some _=>rfl
theorem fO.getD{o:Option V}{u:Option Value}{d:V}{d':Value}(r:fO o u)(rd:RelV d d'):RelV (o.getD d) (u.getD d'):=by cases o with|none=>(cases u with|none=>exact rd|some _=>exact(show False from r).elim)|some _=>cases u with|none=>exact(show False from r).elim|some _=>exact r
theorem KV.val{kvs:List<|κ×V}{vs:List<|κ×Value}(r:KV kvs vs)(k:κ):fO (fQ kvs k) (valueAt vs k):=by unfold KV at r;induction r with|nil=>exact True.intro|@cons p q ps qs h t ih=>obtain⟨h1,h2⟩:=h;by_cases e:p.1=k;have e':q.1=k:=h1.symm.trans e;have b:valueAt (q::qs) k=some q.2:=(by simp[valueAt,yc,e']);rw[qU e,b];exact h2;have e':¬q.1=k:=λz=>e<|h1.trans z;have b:valueAt (q::qs) k=valueAt qs k:=(by simp[valueAt,yc,e']);rw[qW e,b];exact ih
theorem KV.any{kvs:List<|κ×V}{vs:List<|κ×Value}(r:KV kvs vs)(k:κ):(kvs.any λkv=>decide<|kv.1=k)=vs.any λkv=>decide (kv.1=k):=by unfold KV at r;induction r with|nil=>rfl|cons h t ih=>rw[yR,yR,ih,h.1]
theorem KV.OS(r:KV kvs vs)(k:κ)(ry:RelV y u): KV (kvs.map λkv=>if kv.1=k then (kv.1,y) else kv) (vs.map λkv=>if kv.1=k then (kv.1,u) else kv):=by unfold KV at r⊢;induction r with|nil=>exact .nil|@cons p q ps qs h t ih=>rw[zA,zA];refine .cons ?_ ih;obtain⟨h1,h2⟩:=h;by_cases e:p.1=k;rw[if_pos e,if_pos<|h1.symm.trans e];exact⟨h1,ry⟩;rw[if_neg e,if_neg λz=>e<|h1.trans z];exact⟨h1,h2⟩
theorem KV.put(r:KV kvs vs)(k:κ)(ry:RelV y u):KV (putK kvs k y) (stored vs k u):=by unfold putK stored;rw[r.any k];by_cases e:(vs.any λkv=>decide<|kv.1=k)=true;rw[if_pos e,if_pos e];exact r.OS k ry;rw[if_neg e,if_neg e];exact Paired.snoc r ⟨rfl,ry⟩
theorem KV.drop(r:KV kvs vs)(k:κ):KV (oS kvs k) (without vs k):=by unfold KV at r⊢;unfold oS without;induction r with|nil=>exact .nil|@cons p q ps qs h t ih=>obtain⟨h1,h2⟩:=h;rw[yq,yq];by_cases e:p.1=k;have a:¬decide (p.1≠k)=true:=(by simp[e]);have b:¬decide (q.1≠k)=true:=(by simp[h1.symm.trans e]);rw[if_neg a,if_neg b];exact ih;have e':¬q.1=k:=λz=>e<|h1.trans z;have a:decide (p.1≠k)=true:=(by simp[e]);have b:decide (q.1≠k)=true:=(by simp[e']);rw[if_pos a,if_pos b];exact .cons ⟨h1,h2⟩ ih
theorem KV.length{kvs:List<|κ×V}{vs:List<|κ×Value}(r:KV kvs vs):kvs.length=vs.length:=yN r
theorem Hi(kvs:List<|κ×V)(k:κ):(oS kvs k).length<=kvs.length:=ym _ _
end
theorem kP(r:RelV (kV k) u):(aE P w).is k u=true:=by cases k with|inl i=>(obtain⟨t,e⟩:=(show ∃t,u=Value.int i t from r);subst e;exact xx P w i t)|inr x=>obtain⟨t,e⟩:=(show ∃t,u=Value.str x t from r);subst e;exact jd P w x t
theorem uC:∀{ks:List Key}{us:List Value},Vals (ks.map kV) us->ItemsAre (aE P w) ks us|[],_,r=>(by rw[yU]at r;cases r;exact .nil)|k::ks,_,r=>by rw[zA]at r;cases r with|cons h t=>exact .cons (kP h)<|uC t
abbrev KT(H:Hp):List (List Key×V)->List (List Key×Addr×Value)->Prop:=Paired λp q=>p.1=q.1/\H q.2.1=some (.tup<|p.1.map kV)/\RelV p.2 q.2.2
theorem KT.val{H:Hp}{kvs:List<|List Key×V}{xs:List<|List Key×Addr×Value}(r:KT H kvs xs)(k:List Key):fO (fQ kvs k) ((atKey xs k).map (·.2)):=by induction r with|nil=>exact True.intro|@cons p q ps qs h t ih=>obtain⟨h1,_,h2⟩:=h;by_cases e:p.1=k;have e':q.1=k:=h1.symm.trans e;have b:atKey (q::qs) k=some q.2:=(by simp[atKey,yc,e']);rw[qU e,b];exact h2;have e':¬q.1=k:=λz=>e<|h1.trans z;have b:atKey (q::qs) k=atKey qs k:=(by simp[atKey,yc,e']);rw[qW e,b];exact ih
section
variable{P:Program}{w:World}{H:Hp}{h:Heap}{a:Addr}
theorem MR(ok:lg P w H h)(e:Rd H a u):bt P w H h a u:=e.ok ok
theorem oV(ok:lg P w H h)(e:Rd H a<|.dK kvs):kvs.length<=sizeLine/\(a==sysModules)=false/\∃vs,KV kvs vs/\h.DictOf (aE P w) a vs:=show bt P w H h a (.dK kvs) from MR ok e
theorem Dy(ok:lg P w H h)(e:H a=some (.dK kvs)):kvs.length<=sizeLine/\(a==sysModules)=false/\∃vs,KV kvs vs/\h.DictOf (aE P w) a vs:=oV ok<|.inl e
theorem vp(ok:lg P w H h)(e:H a=some (.tup<|ks.map kV)):(tupleKind<|aE P w).is h ks a:=by obtain⟨_,az,r,o,h1,h2,_,n,h3⟩:=(show bt P w H h a (.tup<|ks.map kV) from ok a _ e);exact{o,az.toArray,n,h1,h2,h3,by simpa using uC r}
theorem uD(ok:lg P w H h)(e:Rd H a<|.dT kvs):kvs.length<=sizeLine/\(a==sysModules)=false/\∃xs,KT H kvs xs/\h.DictOfH (tupleKind<|aE P w) a xs:=by exact False.elim<|show bt P w H h a (.dT kvs) from MR ok e
end
def pT(H:Hp)(a:Addr)(y:V)(r:Option V):Prop:=(∃kvs k,Rd H a (.dK kvs)/\y=kV k/\r=fQ kvs k)\/∃kvs k b,Rd H a (.dT kvs)/\y=.ref b/\H b=some (.tup<|k.map kV)/\r=fQ kvs k
def Hj(H:Hp)(a:Addr)(y v:V)(H':Hp):Prop:=(∃kvs k,H a=some (.dK kvs)/\y=kV k/\kvs.length<sizeLine/\H'=upd H a (.dK<|putK kvs k v))\/∃kvs k b,H a=some (.dT kvs)/\y=.ref b/\H b=some (.tup<|k.map kV)/\kvs.length<sizeLine/\H'=upd H a (.dT<|putK kvs k v)
theorem pT.k{H:Hp}{a:Addr}{kvs:List<|Key×V}{k:Key}(e:H a=some (.dK kvs)):pT H a (kV k) (fQ kvs k):=.inl {kvs,k,.inl e,rfl,rfl}
theorem Hj.k{H:Hp}{a:Addr}{kvs:List<|Key×V}{k:Key}{v:V}(e:H a=some (.dK kvs))(hl:kvs.length<sizeLine):Hj H a (kV k) v (upd H a<|.dK<|putK kvs k v):=.inl ⟨kvs,k,e,rfl,hl,rfl⟩
section
variable{X:Cx}{pins:List (Addr×Obj)}{σ:St}{H:Hp}{s:Shared}{a:Addr}{y v:V}{u r:Value}{o:Option V}{A:Around}{E:Value->Shared->Prop}
theorem Inv.big(I:Inv X pins σ H s):sysModules<s.heap.objs.size:=by have h:mainGlobals<s.heap.objs.size:=(I.mod.glob.keeps I.bk).lt;exact Nat.lt_trans (by decide) h
theorem EZ(hu:A.units+1<cLine)(I:Inv X pins σ H s)(g:pT H a y<|some v)(ry:RelV y u)(h:∀w' s',Inv X pins σ H s'->RelV v w'->Q w' s'): wpAny (model X.prog X.w) A (getItem (.ref a) u) Q E s:=by rcases g with⟨kvs,k,e,ey,l⟩|⟨kvs,k,b,e,ey,eb,l⟩;subst ey;obtain⟨z,hd,vs,rel,dd⟩:=oV I.aK e;obtain⟨w',hw,nE⟩:=fO.some_of (v:=v) (o:=valueAt vs k) (by rw[l];exact rel.val k);exact wpAny_getItem_of (kP ry) dd.mapOf hw<|h w' _ (I.tok _) nE;subst ey;cases (show u=Value.ref b from ry);obtain⟨z,hd,xs,rel,dd⟩:=uD I.aK e;obtain⟨w',hw,nE⟩:=fO.some_of (v:=v) (o:=(atKey xs k).map (·.2)) (by rw[l];exact rel.val k);obtain⟨p,hp,eS⟩:=Option.map_eq_some_iff.mp hw;refine wpAny_getItem_heap (tupleKind_room_in1 hu) (vp I.aK eb) dd hp ?_;rw[eS];exact h w' _ (I.tok _) nE
theorem Xy(hu:A.units+1<cLine)(I:Inv X pins σ H s)(g:pT H a y o)(ry:RelV y u)(h:∀s',Inv X pins σ H s'->Q (.bool o.isSome) s'): wpAny (model X.prog X.w) A (compareOp .In u<|.ref a) Q E s:=by rcases g with⟨kvs,k,e,ey,l⟩|⟨kvs,k,b,e,ey,eb,l⟩;subst ey;obtain⟨z,hd,vs,rel,dd⟩:=oV I.aK e;refine wpAny_in_of (kP ry) hd dd.mapOf ?_;rw[<-(rel.val k).nI,<-l];exact h _<|I.tok _;subst ey;cases (show u=Value.ref b from ry);obtain⟨z,hd,xs,rel,dd⟩:=uD I.aK e;refine wpAny_in_heap (tupleKind_room_in1 hu) (vp I.aK eb) hd dd ?_;have q:=(rel.val k).nI;rw[Option.isSome_map]at q;rw[<-q,<-l];exact h _<|I.tok _
theorem vq(I:Inv X pins σ H s)(mu:RS<|H a)(hs:Heap.SameBut a s.heap h')(he:∃q,h'.get? a=some q)(new:bt X.prog X.w (upd H a ob) h' a ob): Inv X pins σ (upd H a ob) {s with heap:=h',toks:=t'}:=I.write (x:=a) (e:=a) mu (.inl rfl) (λb q hb z=>(hs.2 b hb).trans z) he new
theorem BC(z:kvs.length<=sizeLine)(hd:(a==sysModules)=false)(rel:KV kvs vs)(dd:h'.DictOf (aE P w) a vs): bt P w H' h' a (.dK kvs):=⟨z,hd,vs,rel,dd⟩
theorem E1(hu:A.units+1<cLine)(I:Inv X pins σ H s)(g:Hj H a y v H')(ry:RelV y u)(rv:RelV v r)(h:∀s',Inv X pins σ H' s'->Q () s'): wpAny (model X.prog X.w) A (setItem (.ref a) u r) Q E s:=by
 rcases g with⟨kvs,k,e,ey,l,eH⟩|⟨kvs,k,b,e,ey,eb,l,eH⟩;subst ey eH;obtain⟨z,hd,vs,rel,dd⟩:=Dy I.aK e;have hz:vs.length<=sizeLine:=by rw[<-rel.length];exact z
 have hl:(putK kvs k v).length<=sizeLine:=by have:=oU kvs k v;lia
 refine wpAny_setItem_pairs (hsz:=hz) (kP ry) dd λh' MS hs=>h _ ?_;have he:∃q,h'.get? a=some q:=by obtain⟨q,_,_,hq,_⟩:=MS;exact⟨q,hq⟩
 exact vq I (by rw[e];exact True.intro) hs he<|BC hl hd (rel.put k rv) MS;exact False.elim<|I.aK _ _ e
end
section
variable{X:Cx}{pins:List (Addr×Obj)}{σ:St}{H:Hp}{s:Shared}{a:Addr}{kvs:List (Key×V)}{k:Key}{u:Value}{A:Around}{E:Value->Shared->Prop}
theorem SI(I:Inv X pins σ H s)(e:H a=some (.dK kvs))(ry:RelV (kV k) u)(l:fQ kvs k=some v)(hm:more=[]\/∃x,more=[x]) (h:∀w' s',Inv X pins σ (upd H a<|.dK<|oS kvs k) s'->RelV v w'->Q w' s'):wpAny (model X.prog X.w) A (call (.builtin "dict.pop")<|.ref a::u::more) Q E s:=by
 obtain⟨z,hd,vs,rel,dd⟩:=Dy I.aK e;obtain⟨w',hw,nE⟩:=fO.some_of (v:=v) (o:=valueAt vs k) (by rw[<-l];exact rel.val k);have hp:(keyPart u).isSome=true:=by cases k with|inl i=>(obtain⟨t,q⟩:=(show ∃t,u=Value.int i t from ry);subst q;rfl)|inr x=>obtain⟨t,q⟩:=(show ∃t,u=Value.str x t from ry);subst q;rfl
 have ha:argsOk "dict.pop" {.ref a::u::more,[]}:=by rcases hm with q|⟨x,q⟩;subst q;exact PySem.F.args_dict_pop_2 _ _;subst q;exact PySem.F.args_dict_pop_3 _ _ _
 refine call_meetsIn PySem.F.slot_dict_pop dd.typeIs PySem.F.entry_dict_pop ha (meets_dict_pop_there (aE X.prog X.w) a (kP ry) more hm hp) {vs,w',dd,by rw[<-rel.length];exact z,hw,λh' MS hs=>h w' _ ?_ nE};have he:∃q,h'.get? a=some q:=by obtain⟨q,_,_,hq,_⟩:=MS;exact⟨q,hq⟩
 exact vq I (by rw[e];exact True.intro) hs he<|BC (zD (Hi kvs k) z) hd (rel.drop k) MS
theorem SJ(I:Inv X pins σ H s)(e:Rd H a<|.dK kvs)(h:∀t s',Inv X pins σ H s'->Q (.int kvs.length t) s'):wpAny (model X.prog X.w) A (call (.builtin "len") [.ref a]) Q E s:=by obtain⟨z,hd,vs,rel,dd⟩:=oV I.aK e;refine call_len_dict hd dd (by rw[<-rel.length];rw[yg]at z;lia) ?_;rw[<-rel.length];exact h _ _<|I.tok _
end
theorem xJ(I:Inv X pins σ H s)(g:pT H a y o):s.TypeIs (.ref a) "dict":=by rcases g with⟨kvs,k,e,_,_⟩|⟨kvs,k,b,e,_,_,_⟩;obtain⟨_,_,vs,_,dd⟩:=oV I.aK e;exact dd.typeIs;obtain⟨_,_,xs,_,dd⟩:=uD I.aK e;exact dd.typeIs
def SK(td ty tv:TE):TS:=λD σ H=>tv σ H λv H1=>td σ H1 λx H2=>ty σ H2 λy H3=>∃a H4,x=.ref a/\Hj H3 a y v H4/\D.nx σ H4
section
variable{X:Cx}{o i value:Expr}{pos pos':Pos}{td ty tv:TE}
theorem Kx(hu:X.A.units+1<cLine)(ho:PE X o td)(hi:PE X i ty)(hv:PE X value tv)(hs:swapsWith value (some<|.Subscript o i pos') pos.line X.env=pure false): PS X (.Assign [.Subscript o i pos'] value pos) (SK td ty tv):=by intro pins s σ H D I h;refine wpAny_Assign_Subscript (bz (hv pins s σ H _ I h) λr s1 ⟨v,H1,I1,rv,q1⟩=>bz (ho pins s1 σ H1 _ I1 q1) λu s2 ⟨x,H2,I2,rx,q2⟩=>bz (hi pins s2 σ H2 _ I2 q2) λiv s3 ⟨y,H3,I3,ry,a,H4,ex,g,q3⟩=>?_) hs;subst ex;obtain rfl:u=Value.ref a:=rx;exact E1 hu I3 g ry rv λs4 I4=>⟨σ,H4,I4,q3⟩
end
theorem Hk(h:Heap)(hb:sysModules<h.objs.size):bt P w H (h.push {cls:=.type "dict",data:=.dict #[]}) h.objs.size (.dK []):={zT _,beq_eq_false_iff_ne.mpr<|Ne.symm<|zB hb,[],.nil,Heap.DictOf.new h}
def OT:TE:=λ_ H Q=>∀p,H p=none->Q (.ref p) (upd H p<|.dK [])
section
variable{X:Cx}{pos:Pos}
theorem Hl:PE X (.Dict [] [] pos) OT:=λpins s σ H Q I h=>wpAny_Dict_empty {.ref s.heap.objs.size,_,I.laid (a:=s.heap.objs.size) (o:=.dK []) (t':=s.toks) (λ_ _ q=>za _ q) (zq _)<|Hk s.heap I.big,rfl,h _<|I.aK.fresh<|zq _}
end
structure M1(X:Cx)(o:Expr)(m:Str)(apos:Pos)(e:Expr)(aN:Pos):Prop where
 base:attributeBase o m X.env (eval o X.env)=eval o X.env
 GJ:((backTo aN<|starEach [e] X.env).all (λx=>!x.1)&&(backToKw aN<|keywordEach [] X.env).all (λx=>x.1.isSome)
  && decide (([e]:List Expr).length+([]:List Keyword).length+(if ([]:List Keyword).isEmpty then 0 else 1)<30))=true
 line:(apos.endLine==aN.line)=true
 trees:backTo aN (starEach [e] X.env)=[(false,eval e X.env)]
structure M2(X:Cx)(o:Expr)(m:Str)(apos:Pos)(e f:Expr)(aN:Pos):Prop where
 base:attributeBase o m X.env (eval o X.env)=eval o X.env
 GJ:((backTo aN<|starEach [e,f] X.env).all (λx=>!x.1)&&(backToKw aN<|keywordEach [] X.env).all (λx=>x.1.isSome)
  && decide (([e,f]:List Expr).length+([]:List Keyword).length+(if ([]:List Keyword).isEmpty then 0 else 1)<30))=true
 line:(apos.endLine==aN.line)=true
 trees:backTo aN (starEach [e,f] X.env)=[(false,eval e X.env),(false,eval f X.env)]
def Q8(H:Hp)(a:Addr):Prop:=(∃kvs,Rd H a<|.dK kvs)\/∃kvs,Rd H a<|.dT kvs
theorem vt(I:Inv X pins σ H s)(d:Q8 H a): s.TypeIs (.ref a) "dict"/\(∀b,Value.ref a=.ref b->∃ob,s.heap.get? b=some ob/\ob.dict=none)/\(a==sysModules)=false:=by rcases d with⟨kvs,e⟩|⟨kvs,e⟩;obtain⟨_,hd,vs,_,dd⟩:=oV I.aK e;refine{dd.typeIs,λb q=>?_,hd};cases q;obtain⟨ob,_,_,h1,h2,_⟩:=dd;exact⟨ob,h1,h2.2.1⟩;obtain⟨_,hd,xs,_,dd⟩:=uD I.aK e;refine{dd.typeIs,λb q=>?_,hd};cases q;obtain⟨ob,_,_,h1,h2,_⟩:=dd;exact⟨ob,h1,h2.2.1⟩
section
variable{X:Cx}{pins:List (Addr×Obj)}{σ:St}{H:Hp}{s:Shared}{a:Addr}{y d:V}{u r:Value}{o:Option V}{A:Around}{E:Value->Shared->Prop}
theorem OU(hu:A.units+1<cLine)(I:Inv X pins σ H s)(g:pT H a y o)(ry:RelV y u)(h:∀w' s',Inv X pins σ H s'->RelV (o.getD .au) w'->Q w' s'): wpAny (model X.prog X.w) A (call (.builtin "dict.get") [.ref a,u]) Q E s:=by rcases g with⟨kvs,k,e,ey,l⟩|⟨kvs,k,b,e,ey,eb,l⟩;subst ey;obtain⟨z,hd,vs,rel,dd⟩:=oV I.aK e;refine call_meetsIn yC dd.typeIs PySem.F.entry_dict_get (PySem.F.args_dict_get_2 _ _) (meets_dict_get (aE X.prog X.w) a (kP ry) hd) {_,dd.mapOf,h _ _ (I.tok _) ?_};rw[l];exact(rel.val k).getD rfl;subst ey;cases (show u=Value.ref b from ry);obtain⟨z,hd,xs,rel,dd⟩:=uD I.aK e;refine call_meetsIn yC dd.typeIs PySem.F.entry_dict_get (PySem.F.args_dict_get_2 _ _) (meetsH_dict_get (tupleKind<|aE X.prog X.w) a b hd) {tupleKind_room_in1 hu,k,xs,vp I.aK eb,dd,h _ _ (I.tok _) ?_};rw[l];exact(rel.val k).getD rfl
theorem OV(hu:A.units+1<cLine)(I:Inv X pins σ H s)(g:pT H a y o)(ry:RelV y u)(rd:RelV d r)(h:∀w' s',Inv X pins σ H s'->RelV (o.getD d) w'->Q w' s'): wpAny (model X.prog X.w) A (call (.builtin "dict.get") [.ref a,u,r]) Q E s:=by rcases g with⟨kvs,k,e,ey,l⟩|⟨kvs,k,b,e,ey,eb,l⟩;subst ey;obtain⟨z,hd,vs,rel,dd⟩:=oV I.aK e;refine call_meetsIn yC dd.typeIs PySem.F.entry_dict_get (PySem.F.args_dict_get_3 _ _ _) (meets_dict_get_default (aE X.prog X.w) a (kP ry) hd r) {_,dd.mapOf,h _ _ (I.tok _) ?_};rw[l];exact(rel.val k).getD rd;subst ey;cases (show u=Value.ref b from ry);obtain⟨z,hd,xs,rel,dd⟩:=uD I.aK e;refine call_meetsIn yC dd.typeIs PySem.F.entry_dict_get (PySem.F.args_dict_get_3 _ _ _) (meetsH_dict_get_default (tupleKind<|aE X.prog X.w) a b hd r) {tupleKind_room_in1 hu,k,xs,vp I.aK eb,dd,h _ _ (I.tok _) ?_};rw[l];exact(rel.val k).getD rd
end
def OW(td ty:TE):TE:=λσ H Q=>td σ H λx H1=>∃a,x=.ref a/\Q8 H1 a/\ty σ H1 λy H2=>∃o,pT H2 a y o/\Q (o.getD .au) H2
def OX(td ty tx:TE):TE:=λσ H Q=>td σ H λx H1=>∃a,x=.ref a/\Q8 H1 a/\ty σ H1 λy H2=>tx σ H2 λz H3=>∃o,pT H3 a y o/\Q (o.getD z) H3
def OY(td ty:TE):TE:=λσ H Q=>td σ H λx H1=>∃a,x=.ref a/\Q8 H1 a/\ty σ H1 λy H2=>∃kvs k v,H2 a=some (.dK kvs)/\y=kV k/\fQ kvs k=some v/\Q v (upd H2 a<|.dK<|oS kvs k)
section
variable{X:Cx}{o e f:Expr}{apos aN:Pos}{td ty tx:TE}
theorem Hm(hu:X.A.units+1<cLine)(ho:PE X o td)(he:PE X e ty)(m:M1 X o "get" apos e aN):PE X (.Call (.Attribute o "get" apos) [e] [] aN) (OW td ty):=by intro pins s σ H Q I h;refine wpAny_Call_method m.base m.GJ m.line PySem.F.plainAttrs_dict yC PySem.F.type_dict_get<|bz (ho pins s σ H _ I h) λu s1 ⟨x,H1,I1,rx,a,ex,d,q1⟩=>?_;subst ex;obtain rfl:u=Value.ref a:=rx;obtain⟨t1,t2,_⟩:=vt I1 d;refine{t1,t2,?_};rw[m.trees];refine Calls.callWith_builtin rfl<|Calls.evalArgs_plain<|yI<|bz (he pins s1 σ H1 _ I1 q1) λiv s2 ⟨y,H2,I2,ry,ov,g,q2⟩=>Calls.spliced_nil ?_;exact OU hu I2 g ry λw' s3 I3 nE=>{_,H2,I3,nE,q2}
theorem Hn(hu:X.A.units+1<cLine)(ho:PE X o td)(he:PE X e ty)(hf:PE X f tx)(m:M2 X o "get" apos e f aN):PE X (.Call (.Attribute o "get" apos) [e,f] [] aN) (OX td ty tx):=by intro pins s σ H Q I h;refine wpAny_Call_method m.base m.GJ m.line PySem.F.plainAttrs_dict yC PySem.F.type_dict_get<|bz (ho pins s σ H _ I h) λu s1 ⟨x,H1,I1,rx,a,ex,d,q1⟩=>?_;subst ex;obtain rfl:u=Value.ref a:=rx;obtain⟨t1,t2,_⟩:=vt I1 d;refine{t1,t2,?_};rw[m.trees];refine Calls.callWith_builtin rfl<|Calls.evalArgs_plain<|yI<|bz (he pins s1 σ H1 _ I1 q1) λiv s2 ⟨y,H2,I2,ry,q2⟩=>yI<|bz (hf pins s2 σ H2 _ I2 q2) λfv s3 ⟨z,H3,I3,rz,ov,g,q3⟩=>Calls.spliced_nil ?_;exact OV hu I3 g ry rz λw' s4 I4 nE=>{_,H3,I4,nE,q3}
theorem Ho(ho:PE X o td)(he:PE X e ty)(m:M1 X o "pop" apos e aN):PE X (.Call (.Attribute o "pop" apos) [e] [] aN) (OY td ty):=by intro pins s σ H Q I h;refine wpAny_Call_method m.base m.GJ m.line PySem.F.plainAttrs_dict PySem.F.slot_dict_pop PySem.F.type_dict_pop<|bz (ho pins s σ H _ I h) λu s1 ⟨x,H1,I1,rx,a,ex,d,q1⟩=>?_;subst ex;obtain rfl:u=Value.ref a:=rx;obtain⟨t1,t2,_⟩:=vt I1 d;refine{t1,t2,?_};rw[m.trees];refine Calls.callWith_builtin rfl<|Calls.evalArgs_plain<|yI<|bz (he pins s1 σ H1 _ I1 q1) λiv s2 ⟨y,H2,I2,ry,kvs,k,v,ea,ey,l,q2⟩=>Calls.spliced_nil ?_;subst ey;exact SI I2 ea ry l (.inl rfl) λw' s3 I3 nE=>{v,_,I3,nE,q2}
end
end L2
namespace Att
open PySem PySem.W PySem.Calls PyProof.Rows
theorem pU{P:Params} : ∀(ns:List Int)(vs:List Value),WellAll P h vs (ns.map WData.int)->IntsAre vs ns:=by intro ns;induction ns with|nil=>(intro vs w;rw[yU]at w;cases w;exact .nil)|cons n ns ih=>intro vs w;rw[zA]at w;cases w with|cons a b=>cases a;exact .cons _ _<|ih _ b
theorem E3{l:OpenLaw}{n:Nat}(hn:l.most=some n){P:Params}{h:Heap}{args:List WData}{vals:List Value} (Ky:l.row.toRowW.claim.pre args=true) (Xz:WellAll P h vals args): ∃a vs ns,vals=[Value.ref a]/\args=[WData.list<|ns.map WData.int]/\h.get? a=some {cls:=.type "list",data:=.seq vs.toArray}/\IntsAre vs ns/\ns.length<=n:=by
 have hsh:WShape.hasAll [] args [.list .int]=true:=(pre_splitW Ky).1;have hc:l.pre.holds [] {args:=args}=true:=(pre_splitW Ky).2;obtain⟨d,r,rfl,h1,h2⟩:=hasAllW_cons hsh;obtain rfl:=hasAllW_nil h2;obtain⟨xs,rfl,h3⟩:=hasW_list h1;obtain⟨ns,rfl⟩:=items_int h3;have hlen:ns.length<=n:=by unfold OpenLaw.pre at hc;have h4:(WTm.not<|.lt (.lit<|.int (n:Int))<|.len<|.arg 0).holds [] {args:=[.list<|ns.map .int]}=true:=(by have h4:=(holds_andW hc).1;rw[hn]at h4;exact h4);have h5:=condW_of h4<|w_not<|w_lt w_lit<|w_len_list<|w_arg rfl;rw[zb]at h5;refine Nat.le_of_not_lt λq=>?_;have q':(n:Int)<((ns.length:Nat):Int):=(by lia);first| (rw[zu q']at h5;exact absurd h5<|by decide)| (simp at h5;lia)
 cases Xz with|cons w1 w2=>cases w2;cases w1 with|list ho XB=>exact{_,_,ns,rfl,rfl,ho,pU ns _ XB,hlen}
theorem E6(l:OpenLaw)(args:List WData):l.row.toRowW.claim.post args (.bool true) args=true:=postW_of (r:=l.row.toRowW) (X:=(true==true)) (show WShape.has [] (.bool true) .bool=true by first|rfl|decide|simp[WShape.has,WShape.arms,WShape.armsAll]) (show(WTm.eq .res<|.lit<|.bool true).value [] {args:=args,res:=some<|.bool true,after:=args}=some (.bool<|true==true) from w_eq_bool (w_res rfl) w_lit) rfl
theorem xK{l:OpenLaw}{n:Nat}{q:Program}{loose:List Str}{XP:(Str->Option Value)->Heap->Prop}{YP:World->Heap->Prop}{d:DefRec} (hn:l.most=some n) (XD:d.params.defaults=[]) (call:∀(w:World)(dm bf:Shared)(mg mb:Str->Option Value)(fa:Addr)(o:Obj)(pm cd doc:Value)(a:Addr)(vs:List Value)(ns:List Int),Ground q loose [] XP w dm mg mb bf.heap->YP w bf.heap->bf.heap.get? fa=some o->o.data=.func (docDef d.name d.params d.body d.scope pm cd doc)->bf.heap.CodeRec cd d.name->mg d.name=some (.ref fa)->bf.heap.get? a=some {cls:=.type "list",data:=.seq vs.toArray}->IntsAre vs ns->ns.length<=n->bf.gens=#[]->codeAny (model l.prog w) callerA (.call (.ref fa) {[.ref a],[]}) (λr s'=>r=.ok (.ret<|.bool true)/\OldK bf.heap s'.heap/\s'.os=bf.os/\AllBare s'.gens) bf): WalkO q loose XP YP l.row.toRowW d [] (λf vs=>PySem.call f vs):=by intro w dm bf mg mb G Y fa o pm cd doc dV kV ho hd s_ hD OZ hg args vals as Ky ab8 hrd Xz hlo;obtain rfl:dV=.none:=Dflts.none hD XD;obtain rfl:kV=.none:=Dflts.noKw hD;obtain⟨a,vs,ns,rfl,rfl,O0,hints,hlen⟩:=E3 hn Ky Xz;refine enter_call<|yV (call w dm bf mg mb fa o pm cd doc a vs ns G Y ho (fd_plain hd) s_ OZ O0 hints hlen hg) λr s' hq=>?_;obtain⟨rfl,h2,h3,h4⟩:=hq;exact{.inl {.bool true,.bool true,[],rfl,λ_=>rfl,.bool true,E6 l _,λ_=>{List.Pairwise.nil,λ_ hm=>(nomatch hm)}},h2,h3,h4}
end Att
namespace L2
open PySem PySem.Spec PyProof.Rows
theorem uE:∀{vs:List Value}{ns:List Int},IntsAre vs ns->Vals (ns.map V.int) vs|_,_,.nil=>.nil|_,_,.cons n t h=>.cons ⟨t,rfl⟩<|uE h
def inClass(s:Stmt)(j:Nat):Stmt:=match s with|.ClassDef _ _ _ body _ _ _ _ _ _ _=>body.getD j (.Pass {0,0,0,0})|_=>.Pass {0,0,0,0}
def bc(s:Stmt):Arguments:=match s with|.FunctionDef _ a _ _ _ _ _ _ _ _=>a|_=>{posonlyargs:=[],args:=[],vararg:=none,kwonlyargs:=[],kw_defaults:=[],kwarg:=none,defaults:=[]}
def aZ(s:Stmt):List Stmt:=match s with|.FunctionDef _ _ b _ _ _ _ _ _ _=>b|_=>[]
def ae(s:Stmt):Scope:=match s with|.FunctionDef _ _ _ _ _ _ sc _ _ _=>sc|_=>{kind:=.function,names:=[],isGenerator:=false,isCoroutine:=false}
abbrev VZ:Bv:=λ_ _ _ _ _ _=>False
abbrev E0:XK:=λ_ _ _=>False
structure Fun(K:Frag)(x qual:Str)(st:Stmt)(f:Addr)(fd:FuncData):Prop where
 ex:∃(oc:Value)(od:Option Addr)(kV doc pm:Value)(an:Option Addr)(fT ct:Value)(OF:Array (Option Value)),
  fd=fnOf x qual (bc st) (aZ st) (ae st) .none kV doc pm an fT ct/\K.lookup f=some {oc,od,.func fd,OF}/\codeIn K fT qual=true
 kp:keepIn K (.ref f)=true
theorem jZ(h:n<=1000):n<sizeLine:=Nat.lt_of_le_of_lt h<|by decide
section
variable{X:Cx}
theorem E7:eF X (.builtin "len") (λxs H Q=>∃a kvs,xs=[V.ref a]/\H a=some (.dK kvs)/\Q (.int kvs.length) H):=by intro pins s σ H xs us Q I r h;obtain⟨a,kvs,rfl,ha,q⟩:=h;obtain⟨u,rfl,ru⟩:=vals1 r;cases ru;exact SJ I (.inl ha) λt s' I'=>{.int kvs.length,H,I',⟨t,rfl⟩,q}
end
theorem a_{A B:Prop}(h:B):if false=true then A else B:=by rw[if_neg ze];exact h
theorem dD{A B:Prop}(h:A):if true=true then A else B:=by rw[if_pos rfl];exact h
section
variable{κ:Type}[DecidableEq κ]
theorem l5:∀{l:List κ}{k:κ},l.Nodup->¬k∈l->(l++[k]).Nodup|[],k,_,_=>by simp|a::r,k,h,hk=>by obtain⟨h1,h2⟩:=yk.mp h;show(a::(r++[k])).Nodup;refine yk.mpr {λm=>?_,l5 h2 λm=>hk<|zj.mpr<|Or.inr m};rcases zP.mp m with q|q;exact h1 q;exact hk<|zj.mpr<|Or.inl (zK.mp q).symm
end
end L2
set_option maxHeartbeats 4000000
namespace L2
open PySem PySem.Spec PyProof.Rows
section
variable{X:Cx}
noncomputable def GK(i j:Str):Bool:=!decide (j.cps.toList<i.cps.toList)
noncomputable def nJ(i j:Str):Bool:=decide<|i.cps.toList<j.cps.toList
def XE(g:Str->Str->Bool):R2:=λx y H Q=>∃i j,x=.str i/\y=.str j/\Q (.bl<|g i j) H
theorem E8:ia X (compareOp .LtE) (XE GK):=by intro pins s σ H x y v u Q I rx ry h;obtain⟨i,j,rfl,rfl,q⟩:=h;obtain⟨t,rfl⟩:=rx;obtain⟨t',rfl⟩:=ry;exact P.le_str<|aG I q rfl
theorem E9:ia X (compareOp .GtE) (XE λi j=>GK j i):=by intro pins s σ H x y v u Q I rx ry h;obtain⟨i,j,rfl,rfl,q⟩:=h;obtain⟨t,rfl⟩:=rx;obtain⟨t',rfl⟩:=ry;exact P.ge_str<|aG I q rfl
theorem E_:ia X (compareOp .Gt) (XE λi j=>nJ j i):=by intro pins s σ H x y v u Q I rx ry h;obtain⟨i,j,rfl,rfl,q⟩:=h;obtain⟨t,rfl⟩:=rx;obtain⟨t',rfl⟩:=ry;exact P.gt_str<|aG I q rfl
def MT(_ j:Int):Prop:=0<j/\j.natAbs.log2<9000
theorem Hq:ia X (binaryOp .FloorDiv) (rI MT λi j=>.int<|i/j):=VW λi j _ _ _ _ _ hc q=>by
 have hj:j≠0:=by have:=hc.1;omega
 exact floordiv_int hj (by rw[Int.fdiv_eq_ediv_of_nonneg _<|by have:=hc.1;omega];exact q)<|.inl<|PyProof.noPylong_of_log2 hc.2
end
noncomputable def XF(x:Str):It:={λi _=>i<x.cps.size,λi H v H'=>H'=H/\∃c,x.cps[i]?=some c/\v=.str ⟨#[c]⟩,λi _=>x.cps.size<=i}
theorem xM{P:Program}{w:World}{K:Frag}{tg:Expr}{T:String}(hT:["enumerate","zip","dict_itemiterator","dict_reverseitemiterator","odict_iterator","itertools.zip_longest","itertools.pairwise"].contains T=false)(it:Addr)(x:Str)(t:Tok)
  (W:∀A':Around,A'.handled=none->Walks P w A' it [it] [it] x.cps.size (SignAt x) (λi h=>h.IsStrIter it T x t i))
  (XG:∀(A:Around)(s:Shared)(E:Value->Shared->Prop)(i:Nat)(Q:Option Value->Shared->Prop),A.handled=none->s.heap.IsStrIter it T x t i->x.cps[i]?=none->(∀h',Heap.ExtBut it s.heap h'->Q none {s with heap:=h'})->wpAny (model P w) A (pyNext<|.ref it) Q E s)
  (SM:∀(A:Around)(s:Shared)(E:Value->Shared->Prop)(i:Nat)(Q:Value->Shared->Prop),s.heap.IsStrIter it T x t i->Q (.ref it) s->wpAny (model P w) A (pyIter<|.ref it) Q E s):
  Turn P w K tg (XF x) [it] it (λi h=>h.IsStrIter it T x t i) where
 mem:=by simp
 obj:=λi h st b hb=>by
  have e:b=it:=by simpa using hb
  subst e
  obtain⟨o,e,c,d⟩:=st
  exact{o,e,λv z=>by rw[d]at z;cases z}
 keep:=λi h h' st k=>by
  obtain⟨o,e,c,d⟩:=st
  exact{o,k it (by simp) o e,c,d}
 item:=by
  intro X hP hw hK hc i pins s σ H E I hf st hg
  subst hP hw hK
  obtain⟨f0,f1,f2,f3,f4,f5⟩:=hf it<|by simp
  refine(W X.A<|I.ok.hd hc).item i s _ _ hg st λv h' tk hv eN kk=>?_
  obtain⟨c,u,Kz,rfl⟩:=hv
  have I1:Inv X pins σ H {s with heap:=h',toks:=tk}:=I.turned (λb o hb e=>kk b o (by simpa using hb) e) f0 f1 f3 f4 f5
  obtain⟨o,e,c',d⟩:=id eN
  exact{_,rfl,uu (s:={s with heap:=h',toks:=tk}) e c' d hT {.str ⟨#[c]⟩,H,I1,⟨u,rfl⟩,⟨rfl,c,Kz,rfl⟩,eN,λb hb=>(hf b hb).1}}
 done:=by
  intro X hP hw hK hc i pins s σ H E I hf st hg
  subst hP hw hK
  obtain⟨f0,f1,f2,f3,f4,f5⟩:=hf it<|by simp
  have hg:x.cps.size<=i:=hg
  exact XG X.A s E i _ (I.ok.hd hc) st (by simp;exact hg) λh' eb=>{rfl,I.turned (t':=s.toks) (λb o hb e=>eb b o hb e) f0 f1 f3 f4 f5}
 self:=λA' i s Q E st h=>SM A' s E i Q st h
section
variable{X:Cx}{tg:Expr}
def XH(tl:TE):TI:=λσ H R=>tl σ H λx H1=>∃z,x=.str z/\R (XF z) H1
theorem O3(hl:PE X l tl):PI X tg l (XH tl):=by
 intro pins s σ H R I h;refine bz (hl pins s σ H _ I h) λv s1 ⟨x,H1,I1,r1,q1⟩=>?_;obtain⟨z,e,q⟩:=q1;subst e;obtain⟨t,rfl⟩:=r1;have fin:∀(T:String)(_:Turn X.prog X.w X.K tg (XF z) [s1.heap.objs.size] s1.heap.objs.size (λi h=>h.IsStrIter s1.heap.objs.size T z t i)),W_ X pins σ tg R (.ref s1.heap.objs.size) {s1 with heap:=s1.heap.push {cls:=.type T,data:=.fields #[.str z t,.int 0 0]}}:=λT tn=>by refine{s1.heap.objs.size,[s1.heap.objs.size],_,_,H1,rfl,I1.kept (t':=s1.toks) λb o e=>za _ e,tn,{_,zk _ rfl,rfl,rfl},λb hb=>?_,q};have e:b=s1.heap.objs.size:=(by simpa using hb);subst e;exact I1.pQ (zq _)<|I1.aK.fresh<|zq _
 cases ha:z.cps.all (·<128);exact wpAny_pyIter_wide ha<|fin _<|xM (by decide) _ z t (λA' hA=>Walks.strWide hA _ z t) (λA s E i Q hh st hx hQ=>wpAny_pyNext_wide_end hh st hx hQ) λA s E i Q st hq=>wpAny_pyIter_striter_wide st hq;exact wpAny_pyIter_ascii ha<|fin _<|xM (by decide) _ z t (λA' hA=>Walks.strAscii hA _ z t) (λA s E i Q hh st hx hQ=>wpAny_pyNext_ascii_end hh st hx hQ) λA s E i Q st hq=>wpAny_pyIter_striter_ascii st hq
end
noncomputable def clOf(cells:List<|Str×Addr)(names:List<|Str×NameKind):List (Str×Addr):=names.foldl (λcs p=>if p.2==.free then match cells.lookup p.1 with|some a=>(p.1,a)::cs|none=>cs else cs) []
theorem qX(cells:List<|Str×Addr):∀(names:List (Str×NameKind))(cs:List (Str×Addr)),(∀x c,cs.lookup x=some c->cells.lookup x=some c)->∀x c,(names.foldl (λcs p=>if p.2==.free then match cells.lookup p.1 with|some a=>(p.1,a)::cs|none=>cs else cs) cs).lookup x=some c->cells.lookup x=some c|[],cs,h=>h| (n,k)::r,cs,h=>by rw[yM];refine qX cells r _ λx c e=>?_;dsimp only at e;split at e;split at e;rename_i a ha;rw[yf]at e;split at e;rename_i hx;have:=LawfulBEq.eq_of_beq hx;cases e;rw[this];exact ha;exact h x c e;exact h x c e;exact h x c e
theorem uF(cells:List<|Str×Addr):∀(names:List (Str×NameKind))(cs:List (Str×Addr))(x:Str)(c:Addr),(∀y c,cs.lookup y=some c->cells.lookup y=some c)->cs.lookup x=some c->(names.foldl (λcs p=>if p.2==.free then match cells.lookup p.1 with|some a=>(p.1,a)::cs|none=>cs else cs) cs).lookup x=some c
 |[],cs,x,c,_,h=>h
 | (n,k)::r,cs,x,c,hs,h=>by
  rw[yM];have V0:∀y c,(if (k==NameKind.free)=true then match cells.lookup n with|some a=>(n,a)::cs|none=>cs else cs).lookup y=some c->cells.lookup y=some c:=by intro y c e;split at e;split at e;rename_i a ha;rw[yf]at e;split at e;rename_i hx;have:=LawfulBEq.eq_of_beq hx;cases e;rw[this];exact ha;exact hs y c e;exact hs y c e;exact hs y c e
  refine uF cells r _ x c V0 ?_;dsimp only;split;split;rename_i a ha;rw[yf];split;rename_i hx;have:=LawfulBEq.eq_of_beq hx;rw[this]at h;have:=hs _ _ h;rw[ha]at this;exact this;exact h;exact h;exact h
theorem jj(cells:List<|Str×Addr):∀(names:List (Str×NameKind))(cs:List (Str×Addr))(x:Str)(c:Addr),(∀y c,cs.lookup y=some c->cells.lookup y=some c)->(x,NameKind.free)∈names->cells.lookup x=some c->(names.foldl (λcs p=>if p.2==.free then match cells.lookup p.1 with|some a=>(p.1,a)::cs|none=>cs else cs) cs).lookup x=some c
 |[],cs,x,c,_,h,_=>nomatch h
 | (n,k)::r,cs,x,c,hs,h,hc=>by
  rw[yM];have V0:∀y c,(if (k==NameKind.free)=true then match cells.lookup n with|some a=>(n,a)::cs|none=>cs else cs).lookup y=some c->cells.lookup y=some c:=by intro y c e;split at e;split at e;rename_i a ha;rw[yf]at e;split at e;rename_i hx;have:=LawfulBEq.eq_of_beq hx;cases e;rw[this];exact ha;exact hs y c e;exact hs y c e;exact hs y c e
  rcases zj.mp h with e|h;cases e;refine uF cells r _ _ c V0 ?_;dsimp only;rw[if_pos<|show(NameKind.free==NameKind.free)=true by decide,hc];simp[yf];exact jj cells r _ x c V0 h hc
theorem gv{scope:Scope}{env:Env}(h:∀x∈scope.names,x.2=.free->∃c,env.cells.lookup x.1=some c):closureFor scope env=pure (clOf env.cells scope.names):=by
 have go:∀(names:List (Str×NameKind))(cs:List (Str×Addr)),(∀x∈names,x.2=.free->∃c,env.cells.lookup x.1=some c)->(forIn names cs λx r=>match x with|(name,kind)=>if (kind==NameKind.free)=true then do let a <-cellOf env name;pure (ForInStep.yield<|(name,a)::r) else pure (ForInStep.yield r):Sem (List<|Str×Addr))=pure (names.foldl (λcs p=>if p.2==.free then match env.cells.lookup p.1 with|some a=>(p.1,a)::cs|none=>cs else cs) cs):=by intro names;induction names with|nil=>intro cs _;rfl|cons p r ih=>intro cs hp;obtain⟨n,k⟩:=p;rw[List.forIn_cons,yM];by_cases hk:k=.free;subst hk;obtain⟨c,hc⟩:=hp _ zp rfl;have hc:env.cells.lookup n=some c:=hc;have e1:cellOf env n=pure c:=(by unfold cellOf;rw[hc]);have ef:(NameKind.free==NameKind.free)=true:=(by decide);dsimp only;rw[if_pos ef,if_pos ef,e1,hc];exact ih _ λx hx=>hp x<|zh _ hx;have Hr:(k==NameKind.free)=false:=(by simpa using hk);dsimp only;rw[Hr,if_neg ze,if_neg ze];exact ih _ λx hx=>hp x<|zh _ hx
 have e:=go scope.names [] h;have e2:closureFor scope env=(forIn scope.names [] (λx r=>match x with|(name,kind)=>if (kind==NameKind.free)=true then do let a <-cellOf env name;pure (ForInStep.yield<|(name,a)::r) else pure (ForInStep.yield r)):Sem (List<|Str×Addr)) >>=λcs=>pure cs:=rfl;rw[e2,e];rfl
theorem jk{env:Env}{names:List<|Str×NameKind}{x:Str} : (names.map λ(n,k)=>if (k==NameKind.free&&env.scope.kind==.function&&env.kindOf n==some .cell) then (n,NameKind.cell) else (n,k)).lookup x=(names.lookup x).map λk=>if (k==NameKind.free&&env.scope.kind==.function&&env.kindOf x==some .cell) then NameKind.cell else k:=by induction names with|nil=>rfl|cons p r ih=>obtain⟨n,k⟩:=p;rw[zA,yf];by_cases hc:(k==NameKind.free&&env.scope.kind==.function&&env.kindOf n==some .cell)=true;dsimp only;rw[if_pos hc,yf];(cases hx:x==n with|true=>have:=LawfulBEq.eq_of_beq hx;subst this;dsimp only[Option.map];rw[if_pos hc]|false=>exact ih);dsimp only;rw[if_neg hc,yf];cases hx:x==n with|true=>have:=LawfulBEq.eq_of_beq hx;subst this;dsimp only[Option.map];rw[if_neg hc]|false=>exact ih
noncomputable def iO(X:Cx)(N:List Str)(scope:Scope)(C:Addr)(s:Shared)(H:Hp)(ex:List Addr)(pn:List<|Addr×Obj):Cx:={X with N:=N,dm:=s,vi:=H,env:=compEnvC scope (clOf X.env.cells scope.names) C X.env,outer:=X.stack,ex:=ex,fn:=λ_=>false,pn:=pn,xe:=λ_ _=>False}
noncomputable def pick(σ:St)(src:List<|Option Nat):St:=src.map λo=>match o with|some j=>(σ[j]?).join|none=>none
structure bK(X:Cx)(N:List Str)(src:List (Option Nat))(scope:Scope):Prop where
 kind:scope.kind=.function
 gw:∀y∈scope.names,y.2≠.cell
 loc:∀y∈scope.names,y.2=.local->scope.names.lookup y.1=some .local
 A8:∀y∈scope.names,y.2=.free->X.env.kindOf y.1=some .cell\/X.env.kindOf y.1=some .free
 len:src.length=N.length
 src:∀(i j:Nat)(x:Str),src[i]?=some (some j)->N[i]?=some x->X.N[j]?=some x/\scope.names.lookup x=some .free/\NV X.env.scope x
def Ext(σ aB:St):Prop:=aB.length=σ.length/\∀(j:Nat) v,σ[j]?=some (some v)->aB[j]?=some (some v)
def BD(g:TG)(src:List<|Option Nat):Prop:=∀x σ H Q,g x (pick σ src) H Q->g x (pick σ src) H λaB H'=>Ext (pick σ src) aB/\Q aB H'
def Hs(wi:TI)(src:List<|Option Nat)(g:TG)(tc:TT)(te:TE):TE:=λσ H Q=>wi σ H λJ H1=>∃W:Nat->Nat->List V->Hp->Prop,(∃m,W 0 m [] H1)/\∀i m out H',W i m out H'->(J.stop i H'/\∀D,H' D=none->Q (.ref D) (upd H' D<|.lst out))\/(J.go i H'/\out.length<sizeLine/\∀x H2,J.R9 i H' x H2->g x (pick σ src) H2 λfP H3=>tc fP H3 λb H4=>if b=true then te fP H4 λv H5=>∃m',m'<m/\W (i+1) m' (out++[v]) H5 else ∃m',m'<m/\W (i+1) m' out H4)
section
variable{X:Cx}{N:List Str}{src:List (Option Nat)}{scope:Scope}{tg iter elt:Expr}{ifs:List Expr}{pos:Pos}{wi:TI}{g:TG}{tc:TT}{te:TE}
def Q9(X:Cx)(ifs:List Expr)(t:TT):Prop:=∀(pins:List (Addr×Obj))(s:Shared)(σ:St)(H:Hp)(Q:Bool->Hp->Prop),Inv X pins σ H s->t σ H Q->wpAny (model X.prog X.w) X.A (forIn ifs true λc r=>if r=true then do let ok <-isTrue c X.env (eval c X.env);pure (ForInStep.yield ok) else pure (ForInStep.yield r)) (TP X pins σ Q) X.xe s
def SN:TT:=λ_ H Q=>Q true H
theorem KA:Q9 X [] SN:=λpins s σ H Q I h=>wpAny_tests_nil ⟨H,I,h⟩
theorem KC{t:TT}(h:PT X c t):Q9 X [c] t:=λpins s σ H Q I hw=>wpAny_tests_one<|h pins s σ H Q I hw
theorem kz(Q_:∀x s',EE x s'->notedBy (model prog w) A env (λe s'=>R (.error e) s') x s')(I:Nat->Shared->Prop)
  (turn:∀n s,I n s->wpAny (model prog w) A (pyNext it) (λr bf=>match r with
   |none=>R (.ok .next) bf
   |some v=>wpAny (model prog w) A (letOwnedTupleGo target it v) (λ_ MU=>wpAny (model prog w) A (assign target env v) (λ_ bV =>
     wpAny (model prog w) A (forIn ifs true λc r=>if r=true then do let ok <-isTrue c env (eval c env);pure (ForInStep.yield ok) else pure (ForInStep.yield r)) (λok Bi =>
      if ok=true then wpAny (model prog w) A (eval elt env) (λx xN =>
       wpAny (model prog w) A (call (.builtin "list.append") [acc,x]) (λ_ SO=>∃m,m<n/\I m SO) EE xN) EE Bi
      else ∃m,m<n/\I m Bi) EE bV) EE MU) EE bf) EE s)
  (n:Nat) (h:I n s):
  codeAny (model prog w) A (.compLoop (.ListComp elt [{target,iter,ifs,0}] scope pos) 0 it acc env) R s:=by
 refine codeAny_loop rfl I (λn s hI=>?_) n h
 show wpAny _ A ((compTurn (.ListComp elt [{target,iter,ifs,0}] scope pos) 0 it acc env).onRaise λx=>do noteFrame x env;theTreesLotGoes x) _ _ s
 refine wpAny_noted ?_
 rw[compTurn_list]
 refine zc<|wpAny_standAt<|zc<|yL (turn n s hI) (λr bf h₁=>?_) Q_
 cases r with
 |none=>exact zm h₁
 |some v =>
  refine zc<|yL h₁ (λ_ MU SQ=>?_) Q_
  refine zc<|yL SQ (λ_ bV XI=>zc<|yL XI (λok Bi SR=>?_) Q_) Q_
  cases ok with
  |false=>exact zm ⟨rfl,SR⟩
  |true =>
   exact zc<|zc<|yL SR (λx xN XJ=>zc<|yL XJ (λ_ SO XM=>zm<|zm ⟨rfl,XM⟩) Q_) Q_
def CompEnd(X:Cx)(pins:List<|Addr×Obj)(σ:St)(Q:VK)(D C:Addr)(s':Shared):Prop:=∃H' m,Inv X pins σ H' s'/\Q (.ref D) H'/\s'.heap.Ns C m/\H' C=none/\C≠X.env.locals/\X.dm.heap.objs.size<=C/\(∀x c,X.env.cells.lookup x=some c->c≠C)/\(∀p∈X.pn++pins,p.1≠C)
theorem uG{pins:List<|Addr×Obj}{bV:Shared}{σ:St}{i7:Hp}{Q:VK}{it:Addr}{fp:List Addr}{tn:Nat->Heap->Prop}{J:It}{E:Value->Shared->Prop}(S:bK X N src scope)(hc:X.calm=true) (hg:∀C s H ex pn,PG (iO X N scope C s H ex pn) tg g) (hx:BD g src) (hi:∀C s H ex pn,Q9 (iO X N scope C s H ex pn) ifs tc) (he:∀C s H ex pn,PE (iO X N scope C s H ex pn) elt te) (I:Inv X pins σ i7 bV) (T:Turn X.prog X.w X.K tg J fp it tn) (st:tn 0 bV.heap) (ff:∀b∈fp,tH X pins i7 b) (W:Nat->Nat->List V->Hp->Prop) (w0:∃m,W 0 m [] i7) (turn:∀i m out H',W i m out H'->(J.stop i H'/\∀D,H' D=none->Q (.ref D) (upd H' D<|.lst out))\/(J.go i H'/\out.length<sizeLine/\∀x H2,J.R9 i H' x H2->g x (pick σ src) H2 λfP H3=>tc fP H3 λb H4=>if b=true then te fP H4 λv H5=>∃m',m'<m/\W (i+1) m' (out++[v]) H5 else ∃m',m'<m/\W (i+1) m' out H4)) {RR:Value->Addr->Result->Shared->Prop} (hRR:∀D C s',CompEnd X pins σ Q D C s'->RR (.ref D) C (.ok .next) s'): wpAny (model X.prog X.w) X.A (newList []) (λacc Bi=>wpAny (model X.prog X.w) X.A (newFunctionEnv scope X.env.globals (clOf X.env.cells scope.names) [] X.env.qual none .none<|some X.env) (λSS xN=>codeAny (model X.prog X.w) X.A (.compStart (.ListComp elt [{tg,iter,ifs,0}] scope pos) 0 (.ref it) acc {SS with scope:=relabel scope X.env}) (RR acc SS.locals) xN) E Bi) E bV:=by
 refine yj<|wpAny_newFunctionEnv S.gw (by intro y hy;simp at hy) (λh₁ vA qY=>?_) S.kind;dsimp only at vA qY⊢;generalize XN:bV.heap.push {cls:=.type "list",dict:=none,data:=.seq ([]:List Value).toArray}=G2 at vA qY⊢;have hC:G2.objs.size=bV.heap.objs.size+1:=by rw[<-XN,yd]
 have Rb:bV.heap.objs.size≠G2.objs.size:=by rw[hC];exact zB<|Nat.lt_succ_self _
 have KG:bV.heap.objs.size<=G2.objs.size:=by rw[hC];exact yT _
 have old:∀b o,bV.heap.get? b=some o->h₁.get? b=some o:=λb o e=>qY.extBut b o (zB<|zr (zw e) KG)<|za _<|XN ▸ za _ e;have qZ:h₁.get? bV.heap.objs.size=some {cls:=.type "list",dict:=none,data:=.seq ([]:List Value).toArray}:=qY.extBut _ _ Rb<|za _<|XN ▸ zk _ rfl;generalize hCC:G2.objs.size=C at hC Rb KG vA qY⊢;have l6:bV.heap.objs.size<=C:=KG;generalize hD:bV.heap.objs.size=D at hC Rb KG qZ⊢;have iP:∀x c,(clOf X.env.cells scope.names).lookup x=some c->X.env.cells.lookup x=some c:=qX X.env.cells scope.names [] (by intro x c h;simp at h);have Ht:∀x c,X.env.cells.lookup x=some c->c<bV.heap.objs.size:=λx c e=>by obtain⟨v,q⟩:=I.cell x c e;exact q.lt
 have O4:∀b∈fp,b<bV.heap.objs.size:=λb hb=>by obtain⟨o,e,_⟩:=T.obj _ _ st b hb;exact zw e
 have ok:(iO X N scope C bV i7 fp<|X.pn++pins).Ok:=by refine{I.ok.mod,S.kind,I.ok.glob,I.ok.blt,l6,λx y c h1 h2=>I.ok.inj x y c (iP _ _ h1)<|iP _ _ h2,λx hk=>?_,λx c h=>(nomatch h),I.ok.hd,I.ok.frames,.inl rfl,λb hb=>{?_,λx c h=>?_},I.bs,zD I.ok.J5 I.sz,λb o e hb=>?_,λb hb hf=>?_,I.stack,I.qp};have hk:(relabel scope X.env).names.lookup x=some .cell\/(relabel scope X.env).names.lookup x=some .free:=hk;unfold relabel at hk;dsimp only at hk;rw[jk]at hk;(cases hl:scope.names.lookup x with|none=>(rw[hl]at hk;rcases hk with z|z<;>cases z)|some k=>rw[hl]at hk;have hm:=yn hl;have SU:k=.free:=(by by_cases SU:k=.free;exact SU;exfalso;have e1:(k==NameKind.free)=false:=(by simpa using SU);simp only[Option.map,e1,zW,Bool.false_eq_true,if_false]at hk;rcases hk with z|z;exact S.gw _ hm<|zU z;exact SU<|zU z);subst SU;obtain⟨c,Kz⟩:=I.ok.has x<|S.A8 _ hm rfl;exact{c,jj X.env.cells scope.names [] x c (by intro x c h;simp at h) hm Kz});exact zB<|zr (O4 b hb) l6;exact(ff b hb).2.2.2.2.1 x c<|iP _ _ h;have q:b∈X.ex\/X.dm.heap.objs.size<=b:=(ff b hb).2.2.2.1;rcases q with q|q;exact I.ok.NW b o e q;exact absurd (zr (zw e)<|zD I.ok.J5 q)<|yE _;rcases zj.mp (I.nC b hf) with z|z;exact(ff b hb).2.1 z;exact(ff b hb).2.2.1 z
 have SV:∀p∈X.pn++pins,p.1∉nB X.stack:=λp hp z=>by obtain⟨_,_,ne,nf,_⟩:=I.pin p hp;rcases zj.mp (I.nC _ z) with q|q;exact ne q;exact nf q
 have Hu:∀p∈X.pn++pins,p.1<bV.heap.objs.size:=λp hp=>zw (I.pin p hp).1;have SW:∀b∈nB X.stack,b<bV.heap.objs.size:=λb hb=>by rcases zj.mp (I.nC b hb) with z|z;rw[z];exact I.lt;obtain⟨_,o,ho,_⟩:=I.ok.pP.mem z;exact zr (zw ho) I.sz
 have XO:∀(i:Nat)(x:Str)(v:V),N[i]?=some x->(pick σ src)[i]?=some (some v)->∃u c,RelV v u/\(clOf X.env.cells scope.names).lookup x=some c/\bV.heap.IsCell c (some u)/\scope.names.lookup x=some .free:=λi x v e1 e2=>by unfold pick at e2;rw[zg]at e2;cases es:src[i]? with|none=>(rw[es]at e2;cases e2)|some o=>rw[es]at e2;cases o with|none=>(cases e2)|some j=>have e3:(σ[j]?).join=some v:=zU e2;have e4:σ[j]?=some (some v):=(by cases q:σ[j]? with|none=>(rw[q]at e3;cases e3)|some z=>rw[q]at e3;exact congrArg some e3);obtain⟨a1,a2,a3⟩:=S.src i j x es e1;obtain⟨m0,_,hl⟩:=I.loc;obtain⟨u,r,l⟩:=hl j x v a1 e4 a3;have hm:=yn a2;have hk:=S.A8 _ hm rfl;rcases l with⟨k,_⟩|⟨_,c,Kz,z⟩;rcases hk with hk|hk<;>(rw[k]at hk;cases hk);exact{u,c,r,jj X.env.cells scope.names [] x c (by intro x c h;simp at h) hm Kz,z,a2}
 have kinds:∀x,scope.names.lookup x=some .free->(compEnvC scope (clOf X.env.cells scope.names) C X.env).kindOf x=some .cell\/(compEnvC scope (clOf X.env.cells scope.names) C X.env).kindOf x=some .free:=λx hx=>by show(relabel scope X.env).names.lookup x=some .cell\/(relabel scope X.env).names.lookup x=some .free;unfold relabel;dsimp only;rw[jk,hx];dsimp only[Option.map];split;exact .inl rfl;exact .inr rfl
 have Ic:Inv (iO X N scope C bV i7 fp<|X.pn++pins) [] (pick σ src) i7 {bV with heap:=h₁,toks:=bV.toks+([]:List (Str×Value)).length}:=by refine{ok,rfl,I.bare,Un.kept old,{_,vA,λi x v e1 e2 e3=>?_},λx c e=>?_,I.aK.fresh l6,λx c e=>I.fR x c<|iP x c e,λp hp=>?_,I.aK.kept old,?_};obtain⟨u,c,r,e5,⟨o,ho,hd⟩,hf⟩:=XO i x v e1 e2;exact{u,r,.inr {kinds x hf,c,e5,{o,old _ _ ho,hd}}};obtain⟨v,o,ho,hd⟩:=I.cell x c<|iP x c e;exact{v,o,old _ _ ho,hd};have hp:p∈X.pn++pins:=(by simpa [iO]using hp);obtain⟨e,n,_,_,d⟩:=I.pin p hp;exact{old _ _ e,n,zB<|zr (Hu p hp) l6,SV p hp,d};show(pick σ src).length=N.length;unfold pick;rw[zb,S.len]
 have xO:bV.heap.objs.size<=D:=Nat.le_of_eq hD;have O5:D∉nB X.stack:=λz=>absurd (zr (SW D z) xO)<|yE _;have MV:D∉fp:=λz=>absurd (zr (O4 D z) xO)<|yE _;have pQ:∀{pl:List (Addr×Obj)}{H':Hp},(∀b∈fp,H' b=none)->(∀p∈pl,p.1∉fp)->∀b∈fp,tH (iO X N scope C bV i7 fp<|X.pn++pins) pl H' b:=λ{pl H'} hn cU b hb=>by obtain⟨f0,f1,f2,f3,f4,f5⟩:=ff b hb;refine{hn b hb,zB<|zr (O4 b hb) l6,λz=>?_,.inl hb,λx c e=>f4 x c<|iP x c e,λp hp=>?_};rcases zj.mp (I.nC b z) with q|q;exact f1 q;exact f2 q;have hp:p∈(X.pn++pins)++pl:=hp;rcases zP.mp hp with hp|hp;exact f5 p hp;exact λz=>cU p hp<|z ▸ hb
 have back:∀{s':Shared}{H':Hp}{out:List V}{az:List Value}{nn:Nat}{aB:St},Inv (iO X N scope C bV i7 fp<|X.pn++pins) [] aB H' s'->H' D=none->out.length<=sizeLine->Vals out az->s'.heap.get? D=some {cls:=.type "list",data:=.seq az.toArray nn}->(∀D,H' D=none->Q (.ref D) (upd H' D<|.lst out))->CompEnd X pins σ Q D C s':=λ{s' H' out az nn aB} I' hn hl hv ho q=>by obtain⟨m,hm,_⟩:=I'.loc;have un:Un (nB X.stack) fp i7 H' bV.heap s'.heap:=I'.base;have neD:∀b o,bV.heap.get? b=some o->b≠D:=λb o e=>zB<|zr (zw e) xO;have fD:i7 D=none:=I.aK.fresh xO;refine{upd H' D<|.lst out,m,?_,q D hn,hm,by rw[ax<|Ne.symm Rb];exact I'.free,yx<|zr I.lt l6,zD I.sz l6,λx c e=>zB<|zr (Ht x c e) l6,λp hp=>zB<|zr (Hu p hp) l6};refine I.RZ (ch:=fp) I'.os {un.keep,un.slot,λb o e n hb=>?_,un.there,λb xs e=>?_,λb o u e=>?_,λb ps e=>?_} (λb o e=>?_) I'.bare λb hb=>?_;rw[ax<|neD b o e];exact un.free b o e n hb;rw[ax<|aC e fD];exact un.lW b xs e;rw[ax<|aC e fD];exact un.lh b o u e;rw[ax<|aC e fD];exact un.lj b ps e;by_cases hb:b=D;subst hb;rw[aD]at e;cases e;exact⟨hl,az,nn,hv,ho⟩;rw[ax hb]at e;refine(I'.aK b o e).pO (λc v _ q=>q) (λc q=>?_) λc xs q=>?_;rw[ax<|aC q hn];exact q;rw[ax<|aC q hn];exact q;obtain⟨f0,f1,f2,f3,f4,f5⟩:=ff b hb;exact⟨f3,f1,f4,f5⟩
 obtain⟨m0,w0⟩:=w0;have loop:∀xN:Shared,xN={bV with heap:=h₁,toks:=bV.toks+([]:List (Str×Value)).length}->codeAny (model X.prog X.w) X.A (.compLoop (.ListComp elt [{tg,iter,ifs,0}] scope pos) 0 (.ref it) (.ref D)<|compEnvC scope (clOf X.env.cells scope.names) C X.env) (RR (.ref D) C) xN:=by rintro xN rfl;refine kz (EE:=λ_ _=>False) (λ_ _ f=>f.elim) (λn s'=>∃i out az nn H',Inv (iO X N scope C bV i7 fp<|X.pn++pins) [] (pick σ src) H' s'/\H' D=none/\out.length<=sizeLine/\Vals out az/\s'.heap.get? D=some {cls:=.type "list",data:=.seq az.toArray nn}/\tn i s'.heap/\(∀b∈fp,H' b=none)/\W i n out H') ?_ m0 {0,[],[],0,i7,Ic,I.aK.fresh xO,zT _,.nil,qZ,T.keep _ _ _ st λb hb o e=>old b o e,λb hb=>(ff b hb).1,w0};rintro n s3 ⟨i,out,az,nn,H3,I3,hD3,XQ,V1,V2,MK,Sb,w3⟩;have O6:∀(az:List Value) (nn:Nat) (v:Option Value),({cls:=.type "list",data:=.seq az.toArray nn} : Obj).data≠.cell v:=λ_ _ _ z=>nomatch z;have I3p:Inv (iO X N scope C bV i7 fp<|X.pn++pins) [(D,{cls:=.type "list",data:=.seq az.toArray nn})] (pick σ src) H3 s3:=I3.lX λp hp=>(by have e:p=(D,{cls:=.type "list",data:=.seq az.toArray nn}):=(by simpa using hp);subst e;exact{V2,hD3,Rb,O5,O6 az nn});have XR:∀p∈[((D,{cls:=.type "list",data:=.seq az.toArray nn}):Addr×Obj)],p.1∉fp:=λp hp=>(by have e:p=(D,{cls:=.type "list",data:=.seq az.toArray nn}):=(by simpa using hp);subst e;exact MV);rcases turn i n out H3 w3 with⟨stop,qn⟩|⟨go,eO,step⟩;refine bz (T.done (iO X N scope C bV i7 fp<|X.pn++pins) rfl rfl rfl hc i _ s3 _ H3 _ I3p (pQ Sb XR) MK stop) λr s4 ⟨hr,I4⟩=>?_;subst hr;have p4:=(I4.pin (D,{cls:=.type "list",data:=.seq az.toArray nn})<|zG _<|by simp).1;exact hRR D C s4<|back (I4.lX (pins':=[]) λp hp=>nomatch hp) hD3 XQ V1 p4 qn;refine bz (T.item (iO X N scope C bV i7 fp<|X.pn++pins) rfl rfl rfl hc i _ s3 _ H3 _ I3p (pQ Sb XR) MK go) λr s4 ⟨u,hr,h4⟩=>?_;subst hr;refine bz h4 λ_ s5 ⟨x,H5,I5,r5,y5,JR,fr5⟩=>?_;have Xc:=I5.pinned (pQ fr5 XR)<|T.obj _ _ JR;refine bz (hg _ _ _ _ _ _ s5 _ H5 x u _ Xc r5<|hx x σ H5 _<|step x H5 y5) λ_ s6 ⟨Sd,H6,I6,e6,q6⟩=>?_;have fin:∀{s7:Shared}{H7:Hp},Inv (iO X N scope C bV i7 fp<|X.pn++pins) ([(D,{cls:=.type "list",data:=.seq az.toArray nn})]++qN fp s5.heap) Sd H7 s7->Inv (iO X N scope C bV i7 fp<|X.pn++pins) [] (pick σ src) H7 s7/\H7 D=none/\s7.heap.get? D=some {cls:=.type "list",data:=.seq az.toArray nn}/\tn (i+1) s7.heap/\∀b∈fp,H7 b=none:=λ{s7 H7} I7=>(by have pD:=I7.pin (D,{cls:=.type "list",data:=.seq az.toArray nn})<|zG _ (by simp);refine{(I7.lX (pins':=[]) λp hp=>nomatch hp).weak e6.1.symm e6.2,pD.2.1,pD.1,T.keep _ _ _ JR λb hb o e=>(I7.pin (b,o)<|zG _<|zG _<|ig hb e).1,λb hb=>?_};obtain⟨o,e,d⟩:=T.obj _ _ JR b hb;exact(I7.pin (b,o)<|zG _<|zG _<|ig hb e).2.1);refine bz (hi _ _ _ _ _ _ s6 Sd H6 _ I6 q6) λb s7 ⟨H7,I7,q7⟩=>?_;cases b with|false=>(rw[if_neg ze]at q7⊢;obtain⟨m',hm,w7⟩:=q7;obtain⟨J7,d7,o7,t7,f7⟩:=fin I7;exact{m',hm,i+1,out,az,nn,H7,J7,d7,XQ,V1,o7,t7,f7,w7})|true=>rw[if_pos rfl]at q7⊢;refine bz (he _ _ _ _ _ _ s7 Sd H7 _ I7 q7) λv s8 ⟨y,H8,I8,r8,m',hm,w8⟩=>?_;obtain⟨J8,d8,o8,t8,f8⟩:=fin I8;have hsz:az.toArray.size<=sizeLine:=(by rw[zo,<-V1.length];exact XQ);refine wpAny_list_append_plain (items:=az.toArray) (hsz:=hsz) ⟨nn,o8⟩ λh9 ⟨n9,e9⟩ sb=>?_;have J9:Inv (iO X N scope C bV i7 fp<|X.pn++pins) [] (pick σ src) H8 {s8 with heap:=h9}:=J8.turned (t':=s8.toks) (it:=D) (λb o hb e=>(sb.2 b hb).trans e) d8 Rb (.inr xO) (λx c e=>zB<|zr (Ht x c<|iP x c e) xO) λp hp=>(by have hp:p∈X.pn++pins:=(by simpa [iO]using hp);exact zB<|zr (Hu p hp) xO);refine{m',hm,i+1,out++[y],az++[v],n9,H8,J9,d8,?_,V1.append<|.cons r8 .nil,?_,T.keep _ _ _ t8 λb hb o e=>(sb.2 b λz=>MV<|z ▸ hb).trans e,f8,w8};rw[zE];exact eO;rw[e9];simp
 exact codeAny_compStart_list (loop _ rfl)<|T.self _ _ _ _ _ (T.keep _ _ _ st λb hb o e=>old b o e)<|loop _ rfl
theorem KH(S:bK X N src scope)(hc:X.calm=true)(hit:PI X tg iter wi) (hg:∀C s H ex pn,PG (iO X N scope C s H ex pn) tg g) (hx:BD g src) (hi:∀C s H ex pn,Q9 (iO X N scope C s H ex pn) ifs tc) (he:∀C s H ex pn,PE (iO X N scope C s H ex pn) elt te) (hs:autoParam (∀x,foldedSetIterable iter X.env x=pure x) qQ0):PE X (.ListComp elt [{tg,iter,ifs,0}] scope pos) (Hs wi src g tc te):=by intro pins s σ H Q I h;rw[eval_ListComp];have xP:closureFor scope X.env=pure (clOf X.env.cells scope.names):=gv λy hy hf=>I.ok.has y.1<|S.A8 y hy hf;refine wpAny_comprehension_free (use:=none) rfl hs xP S.kind S.loc<|bz (hit pins s σ H _ I h) λv s1 h1=>bz h1 λVU s2 h2=>?_;obtain⟨it,fp,tn,J,H2,e,I2,T,MJ,f2,W,w0,turn⟩:=h2;subst e;refine uG (RR:=λacc C=>compPost (model X.prog X.w) X.A X.xe none (EP X pins σ Q) acc C) S hc hg hx hi he I2 T MJ f2 W w0 turn λD C s' ⟨H',m,I',q,hm,hn,h1,h2,h3,h4⟩=>?_;exact{m,hm,λh' sb=>{.ref D,H',I'.turned (t':=s'.toks) (it:=C) (λb o hb e=>(sb.2 b hb).trans e) hn h1 (.inr h2) h3 h4,rfl,q}}
theorem BE{i:Nat}{x:Str}{pos' KJ:Pos}(hN:X.N.Nodup)(XS:X.N[i]?=some x)(xQ:X.env.scope.names.lookup x=some .local) (S:bK X N src scope) (hc:X.calm=true) (hit:PI X tg iter wi) (hg:∀C s H ex pn,PG (iO X N scope C s H ex pn) tg g) (hx:BD g src) (hi:∀C s H ex pn,Q9 (iO X N scope C s H ex pn) ifs tc) (he:∀C s H ex pn,PE (iO X N scope C s H ex pn) elt te) (XT:autoParam (swapsWith (.ListComp elt [{tg,iter,ifs,0}] scope pos) (some<|.Name x pos') KJ.line X.env=pure true) qQJ) (hs:autoParam (∀x,foldedSetIterable iter X.env x=pure x) qQ0):PS X (.Assign [.Name x pos'] (.ListComp elt [{tg,iter,ifs,0}] scope pos) KJ) (Oc (Hs wi src g tc te)<|iN i):=by
 intro pins s σ H D I h;rw[exec_Assign_Name_used _ _ _ _ XT];refine zc<|wpAny_standAt<|zc ?_;have xP:closureFor scope X.env=pure (clOf X.env.cells scope.names):=gv λy hy hf=>I.ok.has y.1<|S.A8 y hy hf;show wpAny _ X.A (do let _ <-comprehension (.ListComp elt [⟨tg,iter,ifs,0⟩] scope pos) scope X.env _ (newList []) false (eval iter X.env) (some (assign (.Name x pos') X.env))) _ _ s;refine zc<|yL (wpAny_comprehension_free (use:=some<|assign (.Name x pos') X.env) (Q:=λ_ s'=>∃aB H',Inv X pins aB H' s'/\D.nx aB H') rfl hs xP S.kind S.loc<|bz (hit pins s σ H _ I h) λv s1 h1=>bz h1 λVU s2 h2=>?_) (λ_ s' hq=>zm<|zm hq) λ_ _ e=>e;obtain⟨it,fp,tn,J,H2,e,I2,T,MJ,f2,W,w0,turn⟩:=h2;subst e;refine uG (Q:=λv H1=>D.nx (σ.set i<|some v) H1) (RR:=λacc C=>compPost (model X.prog X.w) X.A X.xe (some<|assign (.Name x pos') X.env) (λ_ s'=>∃aB H',Inv X pins aB H' s'/\D.nx aB H') acc C) S hc hg hx hi he I2 T MJ f2 W w0 turn λD' C s' ⟨H',m,I',q,hm,hn,h1,h2,h3,h4⟩=>?_;show wpAny _ X.A (assign (.Name x pos') X.env<|.ref D') _ _ _;refine wpAny_assign_Name<|ur I' hN XS (.inl xQ) (v:=.ref D') rfl (λBw I'' ⟨a,sb,ha⟩=>?_)<|.inr xQ;have hCa:C≠a:=by rcases ha with ha|ha;rw[ha];exact h1;exact Ne.symm<|h3 _ _ ha
 refine{m,hm.sameBut sb hCa,λh'' JS=>{_,H',I''.turned (t':=Bw.toks) (it:=C) (λb o hb e=>(JS.2 b hb).trans e) hn h1 (.inr h2) h3 h4,q}}
end
theorem nK{σ:St}{src:List<|Option Nat}{i:Nat}(h:src[i]?=some none):(pick σ src)[i]?=some none:=by unfold pick;rw[zg,h];rfl
theorem Ext.set(h:σ0[i]?=some none)(e:Ext σ0 σ):Ext σ0 (σ.set i<|some v):=by
 refine{by rw[List.length_set];exact e.1,λj w hj=>?_};have:i≠j:=by rintro rfl;rw[h]at hj;cases hj
 rw[List.getElem?_set_ne this];exact e.2 j w hj
theorem Ext.refl(σ:St):Ext σ σ:={rfl,λ_ _ h=>h}
theorem aR{src:List<|Option Nat}{i:Nat}(h:src[i]?=some none):BD (iN i) src:=λx σ H Q q=>{(Ext.refl _).set<|nK h,q}
theorem j0{K:Frag}{n:Nat}{src:List<|Option Nat}{i j:Nat}(h:src[i]?=some none)(h':src[j]?=some none):BD (Kf K n<|qL (iN i)<|qL (iN j) Ke) src:=λx σ H Q q=>by obtain⟨a,xs,e1,hs,hl,v,r,e2,v2,r2,e3,e4,q⟩:=q;exact{a,xs,e1,hs,hl,v,r,e2,v2,r2,e3,e4,((Ext.refl _).set<|nK h).set<|nK h',q}
theorem all_bools{xs:List V}{az:List Value}{bs:List Bool}(hv:Vals xs az)(hb:xs=bs.map V.bl):∀(i:Nat)(v:Value),az.toArray[i]?=some v->v=Value.bool ((bs[i]?).getD false):=by
 subst hb;intro i v h;have h':az[i]?=some v:=by simpa using h
 have hl:=hv.length;rw[zb]at hl;have hi:i<az.length:=(zd.mp h').1;have hb:bs[i]?=some (bs[i]'(by lia)):=by simp
 obtain⟨u,hu,r⟩:=hv.get (i:=i) (x:=V.bl<|bs[i]'(by lia)) (by rw[zg,hb];rfl);rw[h']at hu;cases hu;rw[hb];exact r
theorem range_all{bs:List Bool} : (List.range bs.length).all (λi=>(bs[i]?).getD false)=bs.all id:=by rw[yu,yb,yb];constructor;intro h b hb;obtain⟨i,hi,rfl⟩:=List.mem_iff_getElem.mp hb;have:=h i<|zV.mpr hi;simpa [hi]using this;intro h i hi;have hi:=zV.mp hi;simpa [hi]using h _ (List.getElem_mem hi)
theorem range_any{bs:List Bool} : (List.range bs.length).any (λi=>(bs[i]?).getD false)=bs.any id:=by rw[yu,List.any_eq_true,List.any_eq_true];constructor;rintro⟨i,hi,h⟩;have hi:=zV.mp hi;exact{bs[i],List.getElem_mem hi,by simpa [hi]using h};rintro⟨b,hb,h⟩;obtain⟨i,hi,rfl⟩:=List.mem_iff_getElem.mp hb;exact{i,zV.mpr hi,by simpa [hi]using h}
section
variable{X:Cx}
theorem tK(hc:X.calm=true):eF X (.builtin "all") (λxs H Q=>∃(a:Addr)(bs:List Bool),xs=[.ref a]/\jf X.K H a (bs.map V.bl)/\Q (.bl<|bs.all id) H):=by
 intro pins s σ H xs us Q I r h;obtain⟨a,bs,rfl,hq,q⟩:=h;obtain⟨u,rfl,ru⟩:=vals1 r;cases ru;obtain⟨az,rv,p,hz⟩:=I.list hq;have hl:=rv.length;rw[zb]at hl;refine call_all_walk<|wpAny_pyIter_list p.isList ?_;refine{s.heap.objs.size,_,_,_,_,_,λi=>(bs[i]?).getD false,rfl,Walks.list (A:=X.A.in1) (I.ok.hd hc) s.heap.objs.size a (zB p.lt) az.toArray,{{_,zk _ rfl,rfl,rfl},p.isList.at λo e=>za _ e},?_,λh' tk hk=>?_};intro i v s' Q' E' hv hQ;rw[all_bools rv rfl i v hv];exact yA hQ;have e:az.toArray.size=bs.length:=by rw[zo,<-hl]
 rw[e,range_all];exact{.bl<|bs.all id,H,I.kept (h':=h') (t':=tk) λb o e=>hk b o (by simpa using zB (zw e))<|za _ e,rfl,q}
theorem tL(hc:X.calm=true):eF X (.builtin "any") (λxs H Q=>∃(a:Addr)(bs:List Bool),xs=[.ref a]/\jf X.K H a (bs.map V.bl)/\Q (.bl<|bs.any id) H):=by
 intro pins s σ H xs us Q I r h;obtain⟨a,bs,rfl,hq,q⟩:=h;obtain⟨u,rfl,ru⟩:=vals1 r;cases ru;obtain⟨az,rv,p,hz⟩:=I.list hq;have hl:=rv.length;rw[zb]at hl;refine call_any_walk<|wpAny_pyIter_list p.isList ?_;refine{s.heap.objs.size,_,_,_,_,_,λi=>(bs[i]?).getD false,rfl,Walks.list (A:=X.A.in1) (I.ok.hd hc) s.heap.objs.size a (zB p.lt) az.toArray,{{_,zk _ rfl,rfl,rfl},p.isList.at λo e=>za _ e},?_,λh' tk hk=>?_};intro i v s' Q' E' hv hQ;rw[all_bools rv rfl i v hv];exact yA hQ;have e:az.toArray.size=bs.length:=by rw[zo,<-hl]
 rw[e,range_any];exact{.bl<|bs.any id,H,I.kept (h':=h') (t':=tk) λb o e=>hk b o (by simpa using zB (zw e))<|za _ e,rfl,q}
end
noncomputable def ownOf:HO->Option Addr|.ins _ dx _=>some dx|.k_ _ u=>ownOf u|_=>none
structure Fg(H H' G:Hp):Prop where
 sub:∀b o,G b=some o->H' b=some o
 dom:∀b o,H b=some o->∃o',G b=some o'
 own:∀a o dx,G a=some o->ownOf o=some dx->(∃o',H a=some o'/\ownOf o'=some dx)\/∃o',G dx=some o'
theorem aF:bootBuiltins "len"= some (.builtin "len"):=PySem.boot_len
theorem fh:bootBuiltins "all"= some (.builtin "all"):=boot_all
theorem Hv:bootBuiltins "any"= some (.builtin "any"):=boot_any
theorem aq:bootBuiltins "isinstance"= some (.builtin "isinstance"):=boot_isinstance
theorem q8:bootBuiltins "int"= some (.type "int"):=PyProof.Rows.boot_int
theorem KL:bootBuiltins "bool"= some (.type "bool"):=PyProof.Rows.boot_bool
theorem jl:bootBuiltins "str"= some (.type "str"):=PyProof.Rows.boot_str
theorem aW:bootBuiltins "tuple"= some (.type "tuple"):=PyProof.Rows.boot_tuple
theorem KN:bootBuiltins "list"= some (.type "list"):=PyProof.Rows.boot_list
theorem Dz:bootBuiltins "dict"= some (.type "dict"):=PyProof.Rows.boot_dict
theorem O7:bootBuiltins "set"= some (.type "set"):=PyProof.Rows.boot_set
set_option genInjectivity true in
set_option genSizeOfSpec true in
inductive Kd where
 |au|bl|int|str|lst|tup|c_
 deriving DecidableEq
noncomputable def Kd.name:Kd->String|.au=>"NoneType" |.bl=>"bool" |.int=>"int" |.str=>"str" |.lst=>"list" |.tup=>"tuple" |.c_=>"dict"
inductive q9 (H:Hp):V->Kd->Prop where
 |au:q9 H .au .au
 |bl (b:Bool):q9 H (.bl b) .bl
 |int (i:Int):q9 H (.int i) .int
 |str (x:Str):q9 H (.str x) .str
 |lst {a:Addr}{xs:List V} (e:H a=some (.lst xs)):q9 H (.ref a) .lst
 |tup {a:Addr}{xs:List V} (e:H a=some (.tup xs)):q9 H (.ref a) .tup
 |c_ {a:Addr}{kvs:List<|Key×V} (e:H a=some (.dK kvs)):q9 H (.ref a) .c_
theorem q9.ty{K:Frag}{H:Hp}{x:V}{k:Kd}(h:q9 H x k):nG K H x (.type k.name):=by cases h with|au=>exact .au|bl b=>exact .bl b|int i=>exact .int i|str x=>exact .str x|lst e=>exact .lst e|tup e=>exact .tup e|c_ e=>exact .dK e
noncomputable def vB(T:String):Option (Kd->Bool):=if T ="int" then some λk=>match k with|.int=>true|.bl=>true|_=>false else if T ="bool" then some λk=>match k with|.bl=>true|_=>false else if T ="str" then some λk=>match k with|.str=>true|_=>false else if T ="tuple" then some λk=>match k with|.tup=>true|_=>false else if T ="list" then some λk=>match k with|.lst=>true|_=>false else if T ="dict" then some λk=>match k with|.c_=>true|_=>false else none
theorem Hw{K:Frag}{T:String}{g:Kd->Bool}(h:vB T=some g)(k:Kd):kitOne K (.type k.name) (.type T)=some (g k):=by unfold vB at h;split at h;rename_i e;subst e;cases h;cases k<;>rfl;split at h;rename_i e;subst e;cases h;cases k<;>rfl;split at h;rename_i e;subst e;cases h;cases k<;>rfl;split at h;rename_i e;subst e;cases h;cases k<;>rfl;split at h;rename_i e;subst e;cases h;cases k<;>rfl;split at h;rename_i e;subst e;cases h;cases k<;>rfl;cases h
section
variable{X:Cx}
theorem Hx:eF X (.builtin "isinstance") (λxs H Q=>∃x T k g,xs=[x,.ty T]/\vB T=some g/\q9 H x k/\Q (.bl<|g k) H):=by intro pins s σ H xs us Q I r h;obtain⟨x,T,k,g,rfl,hg,hk,q⟩:=h;obtain⟨v,w',rfl,rv,nE⟩:=vals2 r;cases nE;exact EW I rv hk.ty (Hw hg k) λtk=>{.bl<|g k,H,I.tok tk,rfl,q}
end
mutual
def Dt(K:Frag)(H:Hp):PyData->V->Prop|.none,v=>v=.au|.bool b,v=>v=.bl b|.int i,v=>v=.int i|.str z,v=>v=.str z|.list ds,v=>∃a xs,v=.ref a/\jf K H a xs/\DtAll K H ds xs|.tuple ds,v=>∃a xs,v=.ref a/\iM K H a xs/\DtAll K H ds xs|.dict _,_=>False
def DtAll(K:Frag)(H:Hp):List PyData->List V->Prop|[],xs=>xs=[]|d::ds,xs=>∃y ys,xs=y::ys/\Dt K H d y/\DtAll K H ds ys
end
section
variable{X:Cx}{pins:List (Addr×Obj)}{σ:St}{H:Hp}{s:Shared}
mutual
theorem Inv.reads(I:Inv X pins σ H s):∀(d:PyData){x:V}{u:Value},Dt X.K H d x->RelV x u->∃as,Reads s.heap u d as
 |.none,x,u,h,r=>by
  have h:x=.au:=by simpa only[Dt]using h
  subst h;cases r;exact{_,.none}
 |.bool b,x,u,h,r=>by
  have h:x=.bl b:=by simpa only[Dt]using h
  subst h;cases r;exact{_,.bool b}
 |.int i,x,u,h,r=>by
  have h:x=.int i:=by simpa only[Dt]using h
  subst h;obtain⟨t,rfl⟩:=r;exact{_,.int i t}
 |.str z,x,u,h,r=>by
  have h:x=.str z:=by simpa only[Dt]using h
  subst h;obtain⟨t,rfl⟩:=r;exact{_,.str z t}
 |.list ds,x,u,h,r=>by
  have h:∃a xs,x=.ref a/\jf X.K H a xs/\DtAll X.K H ds xs:=by simpa only[Dt]using h
  obtain⟨a,xs,rfl,hq,hd⟩:=h;cases r;obtain⟨az,rv,p,_⟩:=I.list hq;obtain⟨as,ra⟩:=Inv.readsAll I ds hd rv;obtain⟨o,e,c,n,d⟩:=p.isList;exact{_,.list e c d<|by simpa using ra}
 |.tuple ds,x,u,h,r=>by
  have h:∃a xs,x=.ref a/\iM X.K H a xs/\DtAll X.K H ds xs:=by simpa only[Dt]using h
  obtain⟨a,xs,rfl,hq,hd⟩:=h;cases r;obtain⟨az,rv,p,_⟩:=I.tuple hq;obtain⟨as,ra⟩:=Inv.readsAll I ds hd rv;obtain⟨o,e,c,n,d⟩:=p;exact{_,.tuple e c d<|by simpa using ra}
 |.dict _,x,u,h,r=>by
  have h:False:=by simpa only[Dt]using h
  exact h.elim
theorem Inv.readsAll(I:Inv X pins σ H s):∀(ds:List PyData){xs:List V}{us:List Value},DtAll X.K H ds xs->Vals xs us->∃as,ReadsAll s.heap us ds as
 |[],xs,us,h,r=>by
  have h:xs=[]:=by simpa only[DtAll]using h
  subst h;cases r;exact{_,.nil}
 |d::ds,xs,us,h,r=>by
  have h:∃y ys,xs=y::ys/\Dt X.K H d y/\DtAll X.K H ds ys:=by simpa only[DtAll]using h
  obtain⟨y,ys,rfl,h1,h2⟩:=h;cases r with|cons r1 r2=>obtain⟨as,ra⟩:=Inv.reads I d h1 r1;obtain⟨bs,rb⟩:=Inv.readsAll I ds h2 r2;exact{_,.cons ra rb}
end
end
def SX(K:Frag)(neg:Bool):R2:=λx y H Q=>∃d e,Dt K H d x/\Dt K H e y/\d.canLay0=true/\e.canLay0=true/\(d.depth<=64\/e.depth<=64)/\Q (.bl<|if neg then !PyData.eqv d e else PyData.eqv d e) H
section
variable{X:Cx}
theorem O8(hu:X.A.units+64<cLine):ia X (compareOp .Eq) (SX X.K false):=by intro pins s σ H x y v u Q I rx ry h;obtain⟨d,e,hd,he,cd,ce,dp,q⟩:=h;obtain⟨as,ra⟩:=I.reads d hd rx;obtain⟨bs,rb⟩:=I.reads e he ry;exact SeqAt.compareEq_reads ra rb cd ce (by rcases dp with dp|dp<;>lia)<|aG I q rfl
theorem O9(hu:X.A.units+64<cLine):ia X (compareOp .NotEq) (SX X.K true):=by intro pins s σ H x y v u Q I rx ry h;obtain⟨d,e,hd,he,cd,ce,dp,q⟩:=h;obtain⟨as,ra⟩:=I.reads d hd rx;obtain⟨bs,rb⟩:=I.reads e he ry;exact SeqAt.compareNe_reads ra rb cd ce (by rcases dp with dp|dp<;>lia)<|aG I q rfl
end
theorem j5(a b:Nat):GK ⟨#[a]⟩ ⟨#[b]⟩=decide (a<=b):=by
 unfold GK;have e:([b]<[a])↔b<a:=by rw[List.cons_lt_cons_iff];constructor;rintro (h|⟨_,h⟩);exact h;exact absurd h<|List.not_lt_nil _;exact .inl
 rw[yu];show(!decide ([b]<[a]))=true↔_;rw[Bool.not_eq_true',yw,e,decide_eq_true_iff];lia
def chkC(sc:Scope)(N0 N:List Str)(src:List<|Option Nat)(scope:Scope):Bool :=
 decide (scope.kind=.function)&&(scope.names.all (λy=>decide (y.2≠.cell)&&(decide (y.2≠.local)||decide (scope.names.lookup y.1=some .local))&&(decide (y.2≠.free)||(decide (sc.names.lookup y.1=some .cell)||decide (sc.names.lookup y.1=some .free)))) &&
  (decide (src.length=N.length)&&(List.range src.length).all λi=>match src[i]?,N[i]? with
   |some (some j),some x=>decide (N0[j]?=some x)&&(decide (scope.names.lookup x=some .free)&&(decide (sc.names.lookup x=some .cell)||decide (sc.names.lookup x=some .free)))
   |_,_=>true))
theorem jb(sc:Scope)(N0:List Str)(hs:X.env.scope=sc)(hN:X.N=N0)(h:chkC sc N0 N src scope=true):bK X N src scope:=by unfold chkC at h;simp only[zI,zR,yb,Bool.or_eq_true]at h;obtain⟨h1,h2,h3,h4⟩:=h;refine{h1,λy hy=>(h2 y hy).1.1,λy hy e=>?_,λy hy e=>?_,h3,λi j x e1 e2=>?_};rcases (h2 y hy).1.2 with z|z;exact absurd e z;exact z;rcases (h2 y hy).2 with z|z;exact absurd e z;show X.env.scope.names.lookup y.1=some .cell\/X.env.scope.names.lookup y.1=some .free;rw[hs];exact z;have hi:i<src.length:=(zd.mp e1).1;have q:=h4 i<|zV.mpr hi;rw[e1,e2]at q;simp only[zI,zR,Bool.or_eq_true]at q;refine{by rw[hN];exact q.1,q.2.1,?_};unfold NV;rw[hs];exact .inr q.2.2
theorem qw(h0:0<=i)(h1:i<l.length):∃v,gE l i=some v/\l[i.toNat]?=some v:=by
 obtain⟨j,rfl⟩:=Int.eq_ofNat_of_zero_le h0;have hj:j<l.length:=by lia
 exact{l[j],bG<|by simp[hj],by simp[hj]}
theorem bQ{c:Bool}{A B:Prop}(h:c=true->A)(h':c=false->B):if c=true then A else B:=by cases c with|true=>exact h rfl|false=>exact h' rfl
theorem nt(h:(!b)=true):b=false:=by cases b<;>simp_all
theorem nf(h:(!b)=false):b=true:=by cases b<;>simp_all
noncomputable def BF:Kd->Bool|.int=>true|.bl=>true|_=>false
noncomputable def vE:Kd->Bool|.bl=>true|_=>false
noncomputable def BG:Kd->Bool|.str=>true|_=>false
noncomputable def q_:Kd->Bool|.tup=>true|_=>false
noncomputable def KO:Kd->Bool|.lst=>true|_=>false
theorem KP:vB "int"= some BF:=if_pos rfl
theorem Hy:vB "bool"= some vE:=(if_neg<|by decide).trans<|if_pos rfl
theorem cQ:vB "str"= some BG:=(if_neg<|by decide).trans<|(if_neg<|by decide).trans<|if_pos rfl
theorem aV:vB "tuple"= some q_:=(if_neg<|by decide).trans<|(if_neg<|by decide).trans<|(if_neg<|by decide).trans<|if_pos rfl
theorem len_pos{z:Str}(h:1<=z.cps.size):∃c r,z.cps.toList=c::r:=by cases e:z.cps.toList with|nil=>have:z.cps.toList.length=0:=(by rw[e];rfl);rw[z0]at this;lia|cons c r=>exact⟨c,r,rfl⟩
theorem at0(e:l=c::r):gE l 0=some c:=by
 have:l[0]?=some c:=by rw[e];rfl
 exact bG (j:=0) this
def isPlain:Expr->Bool|.Starred _ _=>false|_=>true
theorem BH(h:isPlain e=true):starEach (e::es) env=(false,eval e env)::starEach es env:=by cases e<;>first|rfl|exact absurd h ze
theorem XU{t:TA}(ha:PE X e te)(hr:PA X es t)(hp:autoParam (isPlain e=true) qQJ):PA X (e::es) (MP te t):=Kq ha hr<|BH hp
end L2
namespace HT
open PySem PyProof.Rows
open PySem.SeqAt
open PySem.AutoSeq1 (wpAny_loadPart')
open PySem.MeetsSeq PySem.MeetsSeq2 PySem.MeetsSeq3
end HT
namespace L2
open PySem PySem.Spec PyProof.Rows
def Hz(c:Value)(e:Addr)(h:Heap):Prop:=∃o vs,h.get? e=some o/\o.data=.fields vs/\vs[2]?=some c
section
variable{M:Model}{A:Around}{E:Value->Shared->Prop}{s:Shared}{base:Heap}{env:Env}{outer:List Env}{L e:Addr}{a0 c fl:Value}
theorem SY(xp:A.frames=some (env::outer))(hl:s.heap.FunFrames base<|env::outer)(hf:env.frame=some L) (he:s.heap.get? e=some oe) (GL:base.StaysIn s.heap) (A9:base.get? e=none) (hd:oe.data=.fields vs) (h0:vs[0]?=some a0) (h2:vs[2]?=some c) (h:∀h',Heap.NotedW base (env::outer) e oe.cls a0 (rawInt L) s.heap h'->Hz c e h'->Q () {s with heap:=h'}): wpAny M A (do let x <-frameOf env;let y <-entryPlaceOf L nx;let z <-EntryCells.newEntry head x .none (rawInt L) .none y;setField (.ref e) 1 z) Q E s:=by
 have hsz:1<vs.size:=by have:=(Array.getElem?_eq_some_iff.mp h2).1;lia
 have nfr:e∉(env::outer).filterMap (·.frame):=λm=>by obtain⟨_,o,q,n⟩:=hl.mem m;rw[he]at q;cases q;exact n vs hd
 refine zc<|wpAny_frameOf_fun xp hl hf λg sg=>?_;refine zc<|wpAny_entryPlaceOf λpl cU=>?_;unfold EntryCells.newEntry newFields;refine zc<|yj ?_<|cU.sizeOk5 _ _ _ _ _;have g1:g.get? e=some oe:=(sg.2.1 e nfr).trans he;have kg:base.StaysIn g:=λb o q=>(sg.2.1 b λm=>by rw[(hl.mem m).1]at q;cases q).trans<|GL b o q;have t3:((([head,.ref L,.none,rawInt L,.none]++(if pl.isEmpty then List.replicate 6 Value.none else pl)).toArray:Array Value))[3]?=some (rawInt L):=by rcases cU with rfl|⟨_,_,_,_,_,_,_,rfl⟩<;>simp
 generalize S_:(([head,.ref L,.none,rawInt L,.none]++(if pl.isEmpty then List.replicate 6 Value.none else pl)).toArray:Array Value)=ts at t3;have g2:=za (h:=g) {cls:=.type "traceback",dict:=none,data:=.fields ts} g1;refine yS g2 hd hsz<|h _ ?_ ?_;have ne:g.objs.size≠e:=yx<|zw g1;have d3:=yD hd (·.setIfInBounds 1 (Value.ref g.objs.size));have e3:=yB (Obj.mapFields (·.setIfInBounds 1 (Value.ref g.objs.size))) g2<|Obj.isFreed_of_fields d3;have T3:=(yy (g.push {cls:=.type "traceback",dict:=none,data:=.fields ts}) (Obj.mapFields (·.setIfInBounds 1 (Value.ref g.objs.size)))<|Ne.symm ne).trans<|zk g rfl;have keep:∀b o,b≠e->g.get? b=some o->((g.push {cls:=.type "traceback",dict:=none,data:=.fields ts}).update e (Obj.mapFields (·.setIfInBounds 1 (Value.ref g.objs.size)))).get? b=some o:=λb o n q=>by rw[yy _ _<|Ne.symm n];exact za _ q
 have xR:∀b o,s.heap.get? b=some o->(∀vs,o.data≠.fields vs)->b≠e:=λb o q n z=>by rw[z,he]at q;cases q;exact n vs hd
 refine{λb o q=>keep b o (λz=>by rw[z,A9]at q;cases q)<|kg b o q,hl.of_keeps λb o q n=>?_,?_,λb o q n=>?_};obtain⟨sl,z⟩:=sg.2.2 b o q;exact{_,keep b _ (xR b o q n) z,rfl};exact{_,_,g.objs.size,_,_,e3,{Obj.cls_mapFields _ _,by rw[Array.getElem?_setIfInBounds_ne<|by decide];exact h0},d3,by simp[hsz],kg.fresh,ne,T3,rfl,t3};obtain⟨sl,z⟩:=sg.2.2 b o q;exact{sl,keep b _ (xR b o q n) z};have d3:=yD hd (·.setIfInBounds 1 (Value.ref g.objs.size));exact{_,_,yB (Obj.mapFields (·.setIfInBounds 1 (Value.ref g.objs.size))) g2<|Obj.isFreed_of_fields d3,d3,by rw[Array.getElem?_setIfInBounds_ne<|by decide];exact h2}
theorem setC(GL:base.StaysIn s.heap)(A9:base.get? e=none)(hl:s.heap.FunFrames base l)(ht:s.heap.TracedAtW base e cls a0 fl)(hc:Hz c e s.heap) (h:∀h',Heap.FlyingW base l e cls a0 h'->s.heap.UpToSlots h'->Hz c e h'->Q () {s with heap:=h'}):wpAny M A (setFlight (.ref e) none) Q E s:=by
 obtain⟨o,vs,T,oT,ts,q,hk,hd,q1,nT,ne,qT,dT,q3⟩:=ht;obtain⟨o',XW,q',Bh,q2⟩:=hc;rw[q]at q';cases q';rw[hd]at Bh;cases Bh;have hs3:3<ts.size:=(Array.getElem?_eq_some_iff.mp q3).1;have KQ:∀b,b≠T->(s.heap.update T (Obj.mapFields (·.setIfInBounds 3 ((none:Option Addr).elim Value.none λf=>rawInt f)))).get? b=s.heap.get? b:=λb n=>yy _ _<|Ne.symm n;have xR:∀b o,s.heap.get? b=some o->(∀vs,o.data≠.fields vs)->b≠T:=λb o z n w=>by rw[w,qT]at z;cases z;exact n ts dT
 have qe:=(KQ e<|Ne.symm ne).trans q;unfold setFlight;refine zc<|ya q hd q1 ?_;rw[if_pos<|show(Value.ref T != Value.none)=true by simp];refine yS qT dT hs3<|h _ {λb o z=>(KQ b λw=>by rw[w,nT]at z;cases z).trans<|GL b o z,A9,hl.of_keeps λb o z n=>{o,(KQ b<|xR b o z n).trans z,rfl},?_} (λb o z n=>{o.slots,(KQ b<|xR b o z n).trans z}) ⟨o,vs,qe,hd,q2⟩;exact{o,vs,T,_,_,qe,hk,hd,q1,nT,ne,yB _ qT<|Obj.isFreed_of_fields<|yD dT _,yD dT _,by simp[hs3]}
theorem Tc(xp:A.frames=some (env::outer))(hf:env.frame=some L)(GL:base.StaysIn s.heap)(A9:base.get? e=none)(hl:s.heap.FunFrames base<|env::outer)(ht:s.heap.TracedAtW base e cls a0 fl)(hc:Hz c e s.heap) (h:∀h',Heap.HeldW base (env::outer) e cls a0 L h'->s.heap.UpToSlots h'->Hz c e h'->Q () {s with heap:=h'}):wpAny M A (noteFrame (.ref e) env) Q E s:=by
 by_cases Td:fl=rawInt L;subst Td;exact wpAny_noteFrame_againW hf ht<|h s.heap ⟨GL,A9,hl,ht⟩ (.refl _) hc;obtain⟨o,vs,T,oT,ts,q,⟨hk,h0⟩,hd,q1,nT,ne,qT,dT,q3⟩:=ht;obtain⟨o',XW,q',Bh,q2⟩:=hc;rw[q]at q';cases q';rw[hd]at Bh;cases Bh;subst hk;have KQ:∀b,b≠T->(s.heap.update T (Obj.mapFields (·.setIfInBounds 3 Value.none))).get? b=s.heap.get? b:=λb n=>yy _ _<|Ne.symm n;have xR:∀b o,s.heap.get? b=some o->(∀vs,o.data≠.fields vs)->b≠T:=λb o z n w=>by rw[w,qT]at z;cases z;exact n ts dT
 unfold noteFrame;simp only[hf];refine zc<|ya q hd q1 ?_;rw[if_pos<|show(Value.ref T != Value.none)=true by simp];refine zc<|ya qT dT q3 ?_;rw[if_neg<|show ¬((fl==rawInt L)=true) by simpa using Td];refine zc<|yS qT dT (Array.getElem?_eq_some_iff.mp q3).1 ?_;refine SY xp (hl.of_keeps λb o z n=>{o,(KQ b<|xR b o z n).trans z,rfl}) hf ((KQ e<|Ne.symm ne).trans q) (λb o z=>(KQ b λw=>by rw[w,nT]at z;cases z).trans<|GL b o z) A9 hd h0 q2 λh' x y=>?_;obtain⟨x1,x2,x3,x4⟩:=x;exact h h' ⟨x1,A9,x2,x3⟩ (λb o z n=>x4 b o ((KQ b<|xR b o z n).trans z) n) y
theorem O_(xp:A.frames=some (env::outer))(hf:env.frame=some L)(GL:base.StaysIn s.heap)(A9:base.get? e=none)(hl:s.heap.FunFrames base<|env::outer) (he:s.heap.get? e=some oe) (hd:oe.data=.fields vs) (h0:vs[0]?=some a0) (h1:vs[1]?=some .none) (h2:vs[2]?=some c) (h:∀h',Heap.HeldW base (env::outer) e oe.cls a0 L h'->s.heap.UpToSlots h'->Hz c e h'->Q () {s with heap:=h'}):wpAny M A (noteFrame (.ref e) env) Q E s:=by unfold noteFrame;simp only[hf];refine zc<|ya he hd h1 ?_;rw[if_neg<|by decide];refine SY xp hl hf he GL A9 hd h0 h2 λh' x y=>?_;obtain⟨x1,x2,x3,x4⟩:=x;exact h h' ⟨x1,A9,x2,x3⟩ x4 y
theorem Pa(xp:A.frames=some (env::outer))(hf:env.frame=some L)(GL:base.StaysIn s.heap)(A9:base.get? e=none)(hl:s.heap.FunFrames base<|env::outer)(ht:s.heap.TracedAtW base e cls a0 fl)(hc:Hz c e s.heap) (h:∀h',Heap.FlyingW base outer e cls a0 h'->s.heap.UpToSlots h'->Hz c e h'->Q () {s with heap:=h'}):wpAny M A (leaving env<|.ref e) Q E s:=by unfold leaving;refine zc<|Tc xp hf GL A9 hl ht hc λh' x u y=>?_;obtain⟨x1,x2,x3,x4⟩:=x;refine setC x1 x2 x3 x4 y λh2 z u2 y2=>?_;obtain⟨z1,z2,⟨_,_,z3⟩,z4⟩:=z;exact h h2 ⟨z1,z2,z3,z4⟩ (u.trans u2) y2
theorem KR(xp:A.frames=some (env::outer))(hf:env.frame=some L)(GL:base.StaysIn s.heap)(A9:base.get? e=none)(hl:s.heap.FunFrames base<|env::outer) (he:s.heap.get? e=some oe) (hd:oe.data=.fields vs) (h0:vs[0]?=some a0) (h1:vs[1]?=some .none) (h2:vs[2]?=some c) (h:∀h',Heap.FlyingW base outer e oe.cls a0 h'->s.heap.UpToSlots h'->Hz c e h'->Q () {s with heap:=h'}):wpAny M A (leaving env<|.ref e) Q E s:=by unfold leaving;refine zc<|O_ xp hf GL A9 hl he hd h0 h1 h2 λh' x u y=>?_;obtain⟨x1,x2,x3,x4⟩:=x;refine setC x1 x2 x3 x4 y λh2 z u2 y2=>?_;obtain⟨z1,z2,⟨_,_,z3⟩,z4⟩:=z;exact h h2 ⟨z1,z2,z3,z4⟩ (u.trans u2) y2
end
theorem bt.get(x:bt P w H h a o):∃u,h.get? a=some u:=by cases o with|lst xs=>(obtain⟨_,_,_,_,e⟩:=x;exact{_,e})|tup xs=>(obtain⟨_,_,_,ob,e,_⟩:=x;exact{_,e})|dK kvs=>(obtain⟨_,_,_,_,o,_,_,e,_⟩:=x;exact{_,e})|dT kvs=>exact False.elim x|set S n=>(obtain⟨o,_,_,_,e,_⟩:=x;exact{_,e})|ins C dx fs=>(obtain⟨_,_,_,e,_⟩:=x;exact{_,e})|own y=>(obtain⟨_,e⟩:=x;exact{_,e})|xd fs=>(obtain⟨_,⟨_,_,_,e,_⟩,_⟩:=x;exact{_,e})|VO lo hi=>(obtain⟨_,_,_,e⟩:=x;exact{_,e})|k_ ob u=>(obtain⟨e,_⟩:=x;exact{_,e})|qo ps=>exact{_,show h.get? a=some _ from x}|met f y=>exact{_,show h.get? a=some _ from x}|ext φ=>obtain⟨_,e,_⟩:=x;exact e
structure XX(P:Program)(w:World)(mg:Str->Option Value)(outer:List Env)(H H':Hp)(h0:Heap)(a:Addr)(cls a0:Value)(B h:Heap):Prop where
 fl:Heap.FlyingW B outer a cls a0 h
 aK:lg P w H' B
 keep:∀b o,h0.get? b=some o->H b=none->b∉nB outer->B.get? b=some o
 there:∀b o,h0.get? b=some o->b∉nB outer->∃o',B.get? b=some o'
 slot:∀b o,h0.get? b=some o->b∈nB outer->∃sl,h.get? b=some {o with slots:=sl}
 free:∀b o,h0.get? b=some o->H b=none->H' b=none
 lW:∀b xs,H b=some (.tup xs)->H' b=some (.tup xs)
 lh:∀b o u,H b=some (.k_ o u)->H' b=some (.k_ o u)
 lj:∀b ps,H b=some (.qo ps)->∃more,H' b=some (.qo<|ps++more)
 cx:Hz .none a h\/mg "NoMark"= some cls
def fN(P:Program)(w:World)(mg:Str->Option Value):Bv:=λouter H s E e s'=>∃a cls a0 B H',e=.ref a/\s'.os=s.os/\AllBare s'.gens/\XX P w mg outer H H' s.heap a cls a0 B s'.heap/\E cls none H'
structure cW(X:Cx)(E:XK):Prop where
 ex:X.ex=[]
 st:X.stack=X.env::X.outer
 fr:X.env.frame=some X.env.locals
 xe:∀e s',wpAny (model X.prog X.w) X.A (leaving X.env e) (λ_ Bw=>fN X.prog X.w X.mg X.outer X.vi X.dm E e Bw) (λe' Bw=>fN X.prog X.w X.mg X.outer X.vi X.dm E e' Bw) s'->X.xe e s'
theorem uH{P:Program}{w:World}{K:Frag}{mg:Str->Option Value}{base:Heap}{N:List Str}{qual:Str}{scope:Scope}{f:Addr}{cd:Value}{A:Around}{outer:List Env}{s:Shared}{H:Hp}{E:XK} : cW (kx (fN P w mg) P w K mg base N qual scope f cd A outer s H E) E:={rfl,rfl,rfl,λ_ _ h=>h}
section
variable{X:Cx}{pins:List (Addr×Obj)}{σ:St}{H H':Hp}{s:Shared}{E E':XK}
theorem cW.mem(L:cW X E):b∈nB X.stack↔b=X.env.locals\/b∈X.fs:=by unfold Cx.fs nB;rw[L.st,List.filterMap_cons,L.fr];exact zj
theorem cW.EI(L:cW X E)(I:Inv X pins σ H s)(e:X.dm.heap.get? b=some o)(h:b∉X.fs):b∉nB X.stack:=λz=>by rcases L.mem.mp z with z|z;have:=zw e;have h2:=I.ok.above;rw[z]at this;exact absurd (zr this h2)<|yE _;exact h z
theorem cW.fly(L:cW X E)(I:Inv X pins σ H s)(F:XX X.prog X.w X.mg X.stack H H' s.heap a cls a0 B h)(f2:Heap.FlyingW B X.outer a cls a0 h2)(u2:h.UpToSlots h2)(c2:Hz .none a h2\/X.mg "NoMark"= some cls):
  XX X.prog X.w X.mg X.outer X.vi H' X.dm.heap a cls a0 B h2 where
 cx:=c2
 fl:=f2
 aK:=F.aK
 keep:=λb o e n hf=>F.keep b o (I.base.keep b o e n hf<|by rw[L.ex];simp) (I.base.free b o e n<|by rw[L.ex];simp)<|L.EI I e hf
 there:=λb o e hf=>by
  obtain⟨o',q⟩:=I.base.there b o e<|by rw[L.ex];simp
  exact F.there b o' q<|L.EI I e hf
 slot:=λb o e hf=>by
  obtain⟨sl,q⟩:=I.base.slot b o e (I.ok.NX b hf) hf<|by rw[L.ex];simp
  obtain⟨sl1,q1⟩:=F.slot b _ q<|L.mem.mpr<|.inr hf
  obtain⟨_,o2,q2,hd⟩:=F.fl.2.2.1.mem<|L.mem.mpr<|.inr hf
  obtain⟨Te,q3⟩:=u2 b o2 q2 hd
  rw[q1]at q2;cases q2
  exact⟨Te,q3⟩
 free:=λb o e n=>by
  obtain⟨o',q⟩:=I.base.there b o e<|by rw[L.ex];simp
  exact F.free b o' q<|I.base.free b o e n<|by rw[L.ex];simp
 lW:=λb xs e=>F.lW b xs<|I.base.lW b xs e
 lh:=λb o u e=>F.lh b o u<|I.base.lh b o u e
 lj:=λb ps e=>by
  obtain⟨m1,q1⟩:=I.base.lj b ps e
  obtain⟨m2,q2⟩:=F.lj b _ q1
  exact{m1++m2,by rw[q2,Array.append_assoc]}
theorem Tf(L:cW X E)(hE:∀c d H',E' c d H'->E c d H'):Passes (fN X.prog X.w X.mg) X E':=λpins σ H s e s' I h=>by
 obtain⟨a,cls,a0,B,H',rfl,os,bare,F,q⟩:=h;refine L.xe _ _ ?_;have xp:X.A.frames=some (X.env::X.outer):=by rw[I.ok.frames,L.st]
 have fl:Heap.FlyingW B (X.env::X.outer) a cls a0 s'.heap:=by rw[<-L.st];exact F.fl
 rcases F.cx with hc|hc;obtain⟨f1,f2,f3,f4⟩:=fl;exact Pa xp L.fr f1 f2 f3 f4.at hc λh2 f2 u2 c2=>{a,cls,a0,B,H',rfl,os.trans I.os,bare,L.fly I F f2 u2<|.inl c2,hE _ _ _ q};exact wpAny_leaves_onW xp L.fr fl λh2 f2 u2=>{a,cls,a0,B,H',rfl,os.trans I.os,bare,L.fly I F f2 u2<|.inr hc,hE _ _ _ q}
theorem Pb(I:Inv X pins σ H s):lg X.prog X.w H (hideAll s.heap<|nB X.stack):=λa o e=>(I.aK a o e).pO (λb u hb q=>hideAll_get _ q λz=>by have n:=I.qp b z;rcases hb with rfl|hb;rw[e]at n;cases n;rw[hb]at n;cases n) (λ_ q=>q) λ_ _ q=>q
theorem BI(L:cW X E)(I:Inv X pins σ H s)(hk:∀b o,s.heap.get? b=some o->h'.get? b=some o)(hn:s.heap.get? a=none)(he:h'.get? a=some oe)(hd:oe.data=.fields vs) (h0:vs[0]?=some a0) (h1:vs[1]?=some .none) (h2:vs[2]?=some c) (hc:c=.none\/X.mg "NoMark"= some oe.cls) (hE:E oe.cls none H):X.xe (.ref a) {s with heap:=h'}:=by
 refine L.xe _ _ ?_;have xp:X.A.frames=some (X.env::X.outer):=by rw[I.ok.frames,L.st]
 have Rf:∀env∈X.stack,∀b,env.frame=some b->b∈nB X.stack:=λenv he b hb=>List.mem_filterMap.mpr ⟨env,he,hb⟩;have ff:s.heap.FunFrames (hideAll s.heap<|nB X.stack) (X.env::X.outer):=by rw[<-L.st];exact PySem.W.funFrames_hide I.stack Rf
 have hb:(hideAll s.heap<|nB X.stack).get? a=none:=by cases z:(hideAll s.heap<|nB X.stack).get? a with|none=>rfl|some o=>have:=of_hideAll _ z;rw[hn]at this;cases this
 refine KR (base:=hideAll s.heap<|nB X.stack) xp L.fr (λb o q=>hk b o<|of_hideAll _ q) hb (ff.of_keeps λb o q _=>{o,hk b o q,rfl}) he hd h0 h1 h2 λh2 x1 x4 c2=>?_;refine{a,oe.cls,a0,_,H,rfl,I.os,I.bare,{x1,Pb I,λb o e n hf=>?_,λb o e hf=>?_,λb o e hf=>?_,λb o e n=>I.base.free b o e n<|by rw[L.ex];simp,I.base.lW,I.base.lh,I.base.lj,?_},hE};exact hideAll_get _ (I.base.keep b o e n hf<|by rw[L.ex];simp)<|L.EI I e hf;obtain⟨o',q⟩:=I.base.there b o e (by rw[L.ex];simp);exact{o',hideAll_get _ q<|L.EI I e hf};obtain⟨sl,q⟩:=I.base.slot b o e (I.ok.NX b hf) hf (by rw[L.ex];simp);obtain⟨_,o2,q2,hd⟩:=I.pP.mem hf;obtain⟨Te,q3⟩:=x4 b o2 (hk _ _ q2) hd;rw[q]at q2;cases q2;exact⟨Te,q3⟩;rcases hc with rfl|hc;exact .inl c2;exact .inr hc
theorem oW(L:cW X E)(I:Inv X pins σ H s)(hx:Heap.MadeExcOf s.heap h' a cls args)(hE:E cls none H):X.xe (.ref a) {s with heap:=h'}:=by obtain⟨t,he,_,_⟩:=hx.there;exact BI L I (λb o q=>hx.keeps b o q) hx.new he rfl rfl rfl rfl (.inl rfl) hE
end
abbrev nL:List Value:=[.type "ValueError",.type "Exception",.type "BaseException",.type "object"]
structure XC(K:Frag)(C:Addr):Prop where
 q:excIn K C nL "ValueError.__new__"= true
def XY(h:Heap)(C:Addr)(bm:List Value):Prop:=∃N nm q bs hdct sn sub ab col dd k0 k1 k2 k3 k5 mN,h.get? C=some (excClassObj nm q C N bs bm hdct sn sub ab col dd k0 k1 k2 k3 k5 "ValueError.__new__")/\h.Ns N mN/\mN "__init__"= none/\OwnTail h nL bm
theorem XC.at{K:Frag}{C:Addr}{h:Heap}(x:XC K C)(X:K.In h):∃bm,XY h C bm:=by have q:=x.q;unfold excIn at q;split at q;rename_i dd cd sl ho;split at q;rename_i C' bm' k0 k1 k2 k3 n k5 hm hs;simp only[zI,beq_iff_eq,Bool.not_eq_true']at q;obtain⟨⟨⟨⟨⟨q1,q2⟩,Th⟩,ht⟩,aK⟩,V3⟩:=q;subst q1;subst q2;obtain⟨nm,bs,mro,ns,qn,hd,sn,sub,ab,col,del⟩:=cd;dsimp only at hm Th aK V3;subst hm;subst Th;obtain⟨sl⟩:=sl;dsimp only at hs;subst hs;exact{bm',ns,nm,qn,bs,hd,sn,sub,ab,col,dd,k0,k1,k2,k3,k5,_,X _ _ ho,.of_isNs<|PySem.W.isNs_of_in X aK,PySem.W.nsMap_none_of_in X aK V3,PySem.W.tail_of_in X ht};cases q;cases q
def XZ(a:Addr)(cls:Value):HO:=.ext λh=>∃o vs,h.get? a=some o/\o.cls=cls/\o.data=.fields vs
abbrev TX:=(St->XK)->TS
noncomputable def Ends.less(D:Ends)(i:Nat):Ends:={nx:=λσ H=>D.nx (σ.set i none) H,rt:=D.rt,bk:=λσ H=>D.bk (σ.set i none) H,ct:=λσ H=>D.ct (σ.set i none) H}
structure XA(K:Frag)(C:Addr):Prop where
 ga:findIn K (.ref C) "__getattribute__"= some (some<|.builtin "BaseException.__getattribute__")
 gh:findIn K (.ref C) "__getattr__"= some none
 cl:findIn K (.ref C) "__class__"= some (some<|.builtin "object.__class__")
section
variable{X:Cx}
theorem MW(L:cW X E):Passes (fN X.prog X.w X.mg) X E:=Tf L λ_ _ _ h=>h
end
noncomputable def iQ(l:List Str):List Str:=l.foldl (λc x=>if x∈c then c else c++[x]) []
theorem xS(l:List Str)(x:Str):iQ (l++[x])=if x∈iQ l then iQ l else iQ l++[x]:=by unfold iQ;rw[List.foldl_append];rfl
theorem KY:∀(l:List Str),(iQ l).length<=l.length:=λl=>by
 have all:∀(r c:List Str),(r.foldl (λc x=>if x∈c then c else c++[x]) c).length<=c.length+r.length:=by intro r;induction r with|nil=>intro c;simp|cons x r ih=>intro c;rw[yM];refine zD (ih _) ?_;split<;>simp<;>try lia
 simpa [iQ]using all l []
section
variable{prog:Program}{w:World}{A:Around}{R:Result->Shared->Prop}{I:Addr}{fp wr:List Addr}{G:Array GenState->Array GenState->Prop}{n:Nat}{P:Nat->Value->Prop}{St:Nat->Shared->Prop}
theorem HA(W:WalksS prog w A.in1 I fp wr G n P St)(S:Addr)(hSf:S∉fp)(xs:List Str)(hx:xs.length=n)(Pc:∀i v,P i v->∃x t,xs[i]?=some x/\v=.str x t)(hb:n+1<scanBound): ∀(k i:Nat)(s:Shared),i+k=n->St i s->s.heap.SetOf (strKind prog w) S (λy=>decide<|y∈iQ (xs.take i)) (iQ<|xs.take i).length->(∀s',Moved (S::wr) G s s'->s'.heap.SetOf (strKind prog w) S (λy=>decide<|y∈iQ xs) (iQ xs).length->R (.ok<|.ret .none) s')->codeAny (model prog w) A (.builtin "set.update.loop" {[.ref S,.ref I],[]}) R s:=by have nw:S∉wr:=λh=>hSf<|W.sub _ h;have up:∀b∈wr,b∈S::wr:=λb hb=>zh _ hb;have mv:∀{i:Nat}{s s':Shared},Moved wr G s s'->s.heap.SetOf (strKind prog w) S (λy=>decide<|y∈iQ (xs.take i)) (iQ<|xs.take i).length->s'.heap.SetOf (strKind prog w) S (λy=>decide<|y∈iQ (xs.take i)) (iQ<|xs.take i).length:=λhm ⟨o,es,ep,tb,ho,rest⟩=>{o,es,ep,tb,hm.heap S _ nw ho,rest};intro k;induction k with|zero=>intro i s hk xB hS hR;have e:i=n:=(by lia);subst e;refine yQ F.entry_set_update_loop ?_;rw[Around.under_plainId F.plain_set_update_loop _];show wpAny _ A.in1 (pyNext (.ref I) >>=_) _ _ s;refine zc<|W.done s _ _ xB λs' hm=>?_;show wpAny _ A.in1 (ret Value.none) _ _ s';have q:=mv hm hS;rw[<-hx,yz]at q;exact zm (hR s' (hm.mono up) q)|succ k ih=>intro i s hk xB hS hR;have lt:i<n:=(by lia);refine yQ F.entry_set_update_loop ?_;rw[Around.under_plainId F.plain_set_update_loop _];show wpAny _ A.in1 (pyNext (.ref I) >>=_) _ _ s;refine zc<|W.item i s _ _ lt xB λv s' hP Pd hm=>?_;obtain⟨x,t,ex,rfl⟩:=Pc i v hP;have q:=mv hm hS;show wpAny _ A.in1 (holding [Value.str x t] (setAdd S<|.str x t) >>=_) _ _ s';refine zc<|yK ?_;unfold setAdd;refine yK ?_;refine zc<|(strKind prog w).pyHash (k:=x) (strKind_is _ _ _ _) ?_;have room:(iQ<|xs.take i).length+1<scanBound:=(by have:=KY<|xs.take i;rw[yp]at this;lia);refine wpAny_setAddHashed_of (knd:=strKind prog w) (s:={s' with toks:=s'.toks+1}) (strKind_is _ _ _ _) rfl q room λh' KZ q2=>?_;have tk:xs.take (i+1)=xs.take i++[x]:=(by rw[List.take_succ,ex];rfl);have qi:h'.SetOf (strKind prog w) S (λy=>decide<|y∈iQ (xs.take<|i+1)) (iQ<|xs.take<|i+1).length:=(by refine SetOf_congr q2 (λy=>?_) ?_;rw[tk,xS];by_cases h:x∈iQ (xs.take i);rw[if_pos h];by_cases hy:y=x;subst hy;simp[h];simp[hy];rw[if_neg h];simp;rw[tk,xS];by_cases h:x∈iQ (xs.take i);rw[if_pos h,if_pos<|by simpa using h];rw[if_neg h,if_neg<|by simpa using h];simp);refine zm {plainId_quiet F.plain_set_update_loop _,ih (i+1) _ (by lia) (W.frame _ s' _ _ Pd (yT _) λb hb o e=>?_) qi λBw Pe X2=>?_};rw[KZ.2 b (λh:b=S=>hSf<|by rw[<-h];exact hb)];exact e;refine hR Bw (Moved.trans W.gtrans ((hm.mono up).then_heap (yT _) λb o hb e=>?_) Pe) X2;rw[KZ.2 b (λh:b=S=>hb<|by rw[h];exact zp)];exact e
theorem xT(hh:A.handled=none)(hl:s.heap.IsList l items)(hx:xs.length=items.size) (hi:∀(i:Nat)(v:Value),items[i]?=some v->∃x t,xs[i]?=some x/\v=.str x t) (hb:items.size+1<scanBound) (h:∀(h':Heap)(tk:Nat),h'.SetOf (strKind prog w) s.heap.objs.size (λy=>decide<|y∈iQ xs) (iQ xs).length->(∀b o,b<s.heap.objs.size->s.heap.get? b=some o->h'.get? b=some o)->Q (.ref s.heap.objs.size) {s with heap:=h',toks:=tk}): wpAny (model prog w) A (call (.type "set") [.ref l]) Q E s:=by
 obtain⟨c,tl,m0⟩:=F.called_set.mro;have m1:=F.called_set.made;have m2:=F.called_set.sub;refine wpAny_call<|codeAny_of_tree ?_;show wpAny _ _ (callAny (.type "set") _) _ _ _;refine zm {Code.quiet_builtin _<|by trivial,yQ F.entry_type_call ?_};rw[Around.under_plain (weight_type_call_type "set" [.ref l] []) rfl];have m3:=F.called_set.notType;have m4:=F.called_set.canCreate;have m5:=F.typeCall_set_1<|.ref l;repeat (any_goals (first|assumption|wp_step))
 refine yV (code_set_new_1 (.ref l) (E:=E) (Q₁:=λob s1=>∃led:Bool,ob=.ref s.heap.objs.size/\s1={s with heap:=s.heap.push {cls:=.type "set",dict:=none,data:=.set #[] 0 (.fresh 0 0 led)}}) λled=>⟨led,rfl,rfl⟩) λr s1 hr=>?_
 cases r with
 |error e=>exact hr
 |ok fl =>
  cases fl with
  |ret ob =>
   obtain⟨led,rfl,rfl⟩:=hr;generalize hO:({cls:=.type "set",dict:=none,data:=.set #[] 0 (.fresh 0 0 led)} : Obj)=O;have gS:(s.heap.push O).get? s.heap.objs.size=some O:=zk _ (by rw[<-hO];rfl);have tS:Shared.TypeIs {s with heap:=s.heap.push O} (.ref s.heap.objs.size) "set":={_,gS,by rw[<-hO]};have i1:=F.called_set.init.lookup;have i2:=F.called_set.init.bind<|.ref s.heap.objs.size;(repeat (any_goals (first|assumption|wp_step)));refine yV (codeAny_call_builtin (R:=wants (λr s2=>r=.none/\∃h' tk,s2={s with heap:=h',toks:=tk}/\h'.SetOf (strKind prog w) s.heap.objs.size (λy=>decide<|y∈iQ xs) (iQ xs).length/\(∀b o,b<s.heap.objs.size->s.heap.get? b=some o->h'.get? b=some o)) E) F.called_set.init.plain F.entry_set_init<|check_set_init_1 tS ?_) λr2 s2 X3=>?_
   ·obtain⟨ol,gl,cl,nl,dl⟩:=hl;obtain⟨acf,Tp,aaz,Pf⟩:=ol;simp only at cl dl;subst cl;subst dl;have Tq:(s.heap.push O).get? l=some {cls:=.type "list",dict:=Tp,data:=.seq items nl,slots:=Pf}:=za _ gl;have j1:=F.sub_list_set;have j2:=F.sub_list_frozenset;have j3:(Value.type "list"== Value.type "dict")=false:=(by decide);have il:(s.heap.push O).IsList l items:={_,Tq,rfl,nl,rfl};subst hO;unfold Builtin.«set.__init__» noKeywords Builtin.Frozenset.updateFrom;generalize hPI:pyIter=PI;wp_walk;subst hPI;refine wpAny_pyIter_list il ?_;refine zc<|wpAny_runValue ?_;have ll:l<s.heap.objs.size:=zw gl;have h3:A.in1.in1.in1.handled=none:=(by simp[hh]);have ne:l≠(s.heap.push {cls:=.type "set",dict:=none,data:=.set #[] 0 (.fresh 0 0 led)}).objs.size:=(by rw[yd];exact zB<|Nat.lt_succ_of_lt ll);have nf:s.heap.objs.size∉[(s.heap.push {cls:=.type "set",dict:=none,data:=.set #[] 0 (.fresh 0 0 led)}).objs.size,l]:=(by rw[yd];simp only[zj,zK,zM,or_false,not_or];exact{zB<|Nat.lt_succ_self _,yx ll});refine HA ((Walks.list h3 _ l ne items).toS) s.heap.objs.size nf xs hx hi hb (items.size-0) 0 _ (by lia) {{_,zk _ rfl,rfl,rfl},(il.push _)} ?hS0 ?hR
    case hS0 =>
     have gg:=za {cls:=.type "list_iterator",data:=.fields #[.ref l,.int 0 0]} gS
     exact SetOf_congr ((setObjOf_fresh (knd:=strKind prog w) led).setOf gg<|by unfold scanBound;lia) (λ_=>rfl) rfl
    case hR =>
     intro s' hm q
     obtain⟨h',g',d',Rh,Ss⟩:=s'
     have eg:g'=s.gens:=hm.gens;have ed:d'=s.drawn:=hm.drawn;have eo:Ss=s.os:=hm.os
     subst eg;subst ed;subst eo
     show wpAny _ _ _ _ _ _;refine zm ?_;show wpAny _ _ (ret Value.none) _ _ _
     refine zm {rfl,h',Rh,rfl,q,λb o hb e=>?_}
     have b2:b≠(s.heap.push {cls:=.type "set",dict:=none,data:=.set #[] 0 (.fresh 0 0 led)}).objs.size:=by rw[yd];exact zB<|Nat.lt_succ_of_lt hb
     refine hm.heap b o ?_<|za _<|za _ e
     simp only[zj,zK,zM,or_false,not_or];exact{zB hb,b2}
   {cases r2 with|error e=>exact X3|ok f2=>cases f2 with|ret r=>(obtain⟨rfl,h',tk,rfl,q,k'⟩:=X3;(repeat (any_goals (first|assumption|wp_step)));exact h _ _ q k')|_=>exact X3.elim}
  |_=>exact hr.elim
end
noncomputable def Pg(P:Program)(w:World)(a:Addr)(xs:List Str):HO:=.ext λh=>h.SetOf (strKind P w) a (λy=>decide<|y∈iQ xs) (iQ xs).length
theorem K0(q:h.SetOf (strKind P w) a (λy=>decide<|y∈iQ xs) (iQ xs).length):bt P w H h a (Pg P w a xs):=by obtain⟨o,es,ep,t,ho,rest⟩:=id q;exact{q,⟨o,ho⟩,by rintro h1 h2 ⟨o,es,ep,t,ho,rest⟩ k;exact{o,es,ep,t,k _ ho,rest}}
theorem xU:∀{xs:List Str}{az:List Value},Vals (xs.map V.str) az->∀(i:Nat)(v:Value),az[i]?=some v->∃x t,xs[i]?=some x/\v=.str x t|[],_,.nil,i,v,e=>by simp at e|x::xs,_,.cons r rs,0,v,e=>(by obtain⟨t,q⟩:=r;simp at e;exact{x,t,rfl,by rw[<-e];exact q})|x::xs,_,.cons r rs,i+1,v,e=>by obtain⟨y,t,e1,e2⟩:=xU rs i v (by simpa using e);exact{y,t,by simpa using e1,e2}
section
variable{X:Cx}
theorem Fc{P:Program}{w:World}{K:Frag}(hP:X.prog=P)(hw:X.w=w)(hK:X.K=K)(hc:X.calm=true): eF X (.type "set") (λvs H Q=>∃p xs,vs=[.ref p]/\jf K H p (xs.map V.str)/\xs.length<4000/\∀l,H l=none->Q (.ref l) (upd H l<|Pg P w l xs)):=by
 subst hP;subst hw;subst hK;intro pins s σ H vs us Q I r h;obtain⟨p,xs,rfl,hq,hz,q⟩:=h;obtain⟨u,rfl,rx⟩:=vals1 r;cases rx;obtain⟨az,r',pl,_⟩:=I.list hq;have hlen:xs.length=az.toArray.size:=by have:=r'.length;simpa using this
 refine xT (I.ok.hd hc) pl.isList hlen (λi v e=>xU r' i v<|by simpa using e) (by rw[<-hlen];unfold scanBound;lia) λh' tk qs kp=>?_;refine{.ref s.heap.objs.size,_,I.laid (t':=tk) (λb o e=>kp b o (zw e) e) (zq _)<|K0 qs,rfl,q _<|I.aK.fresh<|zq _}
theorem Fd(hP:X.prog=P)(hw:X.w=w):eF X (.builtin "len") (λvs H Q=>∃a xs,vs=[.ref a]/\H a=some (Pg P w a xs)/\Q (.int (iQ xs).length) H):=by subst hP;subst hw;intro pins s σ H vs us Q I r h;obtain⟨a,xs,rfl,ha,q⟩:=h;obtain⟨u,rfl,rx⟩:=vals1 r;cases rx;obtain⟨⟨o,es,ep,t,ho,hex,hd,Tr,Ph,hb,hf,hn⟩,_⟩:=I.aK a _ ha;refine call_len_set ho hex hd hf (by unfold scanBound at hb;lia) ?_;exact{.int (iQ xs).length,H,I.tok _,{_,by rw[hn]},q}
end
theorem uI(l:List Str):(iQ l).length=l.length↔l.Nodup:=by
 have all:∀(r c:List Str),c.Nodup->((r.foldl (λc x=>if x∈c then c else c++[x]) c).length=c.length+r.length↔(c++r).Nodup):=by intro r;induction r with|nil=>intro c hc;simpa using hc|cons x r ih=>intro c hc;rw[yM];by_cases h:x∈c;{rw[if_pos h];have le:(r.foldl (λc x=>if x∈c then c else c++[x]) c).length<=c.length+r.length:=(by have all2:∀(r c:List Str),(r.foldl (λc x=>if x∈c then c else c++[x]) c).length<=c.length+r.length:=(by intro r;induction r with|nil=>intro c;simp|cons x r ih=>intro c;rw[yM];refine zD (ih _) ?_;split<;>simp<;>try lia);exact all2 r c);refine{λe=>by simp at e;lia,λe=>?_};exact absurd rfl<|(List.nodup_append.mp e).2.2 x h x<|by simp};rw[if_neg h];have J6:(c++[x]).Nodup:=l5 hc h;have:=ih (c++[x]) J6;simp only[zE,zQ,List.length_nil,List.append_assoc,List.singleton_append]at this⊢;rw[<-this];constructor<;>intro e<;>lia
 simpa [iQ]using all l [] List.nodup_nil
theorem iR:entryFor table "dict.update.loop"= some Builtin.«dict.update.loop»:=entryFor_of_tree<|by kernel_rfl
theorem dh:plainId "dict.update.loop"= true:=by trivial
theorem tM:typeLookup (.type "tuple") "keys"= pure none:=by rw[typeLookup_type,builtinLookup_eq_fast];kernel_rfl
section
variable{prog:Program}{w:World}{A:Around}{E:Value->Shared->Prop}{s:Shared}
theorem tN(hx:s.heap.get? a=some o)(hc:o.cls=.type "tuple")(Ts:o.data=.seq xs k)(hd:o.dict=none)(hA:A.handled=none) (h:∀h' tk,(∀b ob,s.heap.get? b=some ob->h'.get? b=some ob)->Q none {s with heap:=h',toks:=tk}):wpAny (model prog w) A (getAttr? (.ref a) "keys") Q E s:=by
 obtain⟨c,c_,dat,sl⟩:=o;simp only at hc Ts hd;subst hc Ts hd;obtain⟨hp,g,d,tk,os⟩:=s;have hT:∀Rh,(⟨hp,g,d,Rh,os⟩:Shared).TypeIs (.ref a) "tuple":=λ_=>{_,hx,rfl};have f1:=sub_AttributeError;have f3:=F.slot_tuple_getattribute.lookup;have f4:=F.slot_tuple_getattribute.bind<|.ref a;have f5:=am_tuple_getattr_none;unfold getAttr? getAttrBy? getAttrBy;repeat (any_goals (first|assumption|exact hT _|((with_reducible show wpAny _ _ (call (Value.builtin "tuple.__getattribute__") _ _) _ _ _);refine call_meets F.slot_tuple_getattribute (hT _) am_entry_tuple_getattribute (F.args_tuple_getattribute_2 _ _) (meets_getattribute_miss_tuple a xs k sl "keys" _ tM (by trivial)<|by size_fits) {hx,hA,λh' Rh e EJ=>?_})|wp_step))
 obtain⟨t',u',he⟩:=EJ.there;show wpAny _ _ (getattributeRaised _ _ _ _ _ _ _) _ _ _;unfold getattributeRaised;repeat (any_goals (first|assumption|wp_step))
 exact h _ _ EJ.keeps
end
section
variable{prog:Program}{w:World}{A:Around}{R:Result->Shared->Prop}{I:Addr}{fp wr:List Addr}{G:Array GenState->Array GenState->Prop}{n:Nat}{P:Nat->Value->Prop}{St:Nat->Shared->Prop}
theorem Fe(W:WalksS prog w A.in1 I fp wr G n P St)(D:Addr)(hDf:D∉fp)(kvs:List<|Key×Value)(hx:kvs.length=n)(base:Heap) (Pc:∀i v,P i v->∃(b:Addr) (k:Key) (key val:Value) (o:Obj) (m:Nat),kvs[i]?=some (k,val)/\v=.ref b/\(aE prog w).is k key=true/\base.get? b=some o/\o.cls=.type "tuple"/\o.data=.seq #[key,val] m/\b≠D/\b∉wr) (hb:n<=sizeLine): ∀(k i:Nat) (s:Shared) (c:Int) (t:Tok),i+k=n->St i s->s.heap.DictOf (aE prog w) D (merged []<|kvs.take i)->(∀b o,base.get? b=some o->b≠D->b∉wr->s.heap.get? b=some o)->(∀s',Moved (D::wr) G s s'->s'.heap.DictOf (aE prog w) D (merged [] kvs)->R (.ok<|.ret .none) s')->codeAny (model prog w) A (.builtin "dict.update.loop" {[.ref D,.ref I,.int c t,.none],[]}) R s:=by have nw:D∉wr:=λh=>hDf<|W.sub _ h;have up:∀b∈wr,b∈D::wr:=λb hb=>zh _ hb;intro k;induction k with|zero=>(intro i s c t hk xB hS hB hR;have e:i=n:=(by lia);subst e;refine yQ iR ?_;rw[Around.under_plainId dh _];show wpAny _ A.in1 (pyNext (.ref I) >>=_) _ _ s;refine zc<|W.done s _ _ xB λs' hm=>?_;show wpAny _ A.in1 (Builtin.Dict.addKeywords D [] >>=_) _ _ s';have q:s'.heap.DictOf (aE prog w) D (merged []<|kvs.take i):=(by obtain⟨o,es,ep,ho,rest⟩:=hS;exact{o,es,ep,hm.heap D _ nw ho,rest});rw[<-hx,yz]at q;exact zc<|zm<|zm<|hR s' (hm.mono up) q)|succ k ih=>intro i s c t hk xB hS hB hR;have lt:i<n:=(by lia);refine yQ iR ?_;rw[Around.under_plainId dh _];show wpAny _ A.in1 (pyNext (.ref I) >>=_) _ _ s;refine zc<|W.item i s _ _ lt xB λv s' hP Pd hm=>?_;obtain⟨b,ky,key,val,o,m,ek,rfl,Oz,ho,hc,hd,hbD,hbw⟩:=Pc i v hP;have q:s'.heap.DictOf (aE prog w) D (merged []<|kvs.take i):=(by obtain⟨o,es,ep,ho,rest⟩:=hS;exact{o,es,ep,hm.heap D _ nw ho,rest});have hb':s'.heap.get? b=some o:=hm.heap b o hbw<|hB b o ho hbD hbw;have room:(merged []<|kvs.take i).length<=sizeLine:=(by have:=merged_length_le ([]:List (Key×Value))<|kvs.take i;rw[yp]at this;simp at this;lia);have tk:merged [] (kvs.take<|i+1)=stored (merged []<|kvs.take i) ky val:=merged_take_succ [] kvs i (ky,val) ek;refine zc<|yK<|zc<|wpAny_tryCatch ?_;unfold Builtin.Dict.pairItems;refine zc<|wpAny_typeOf (T:="tuple") ⟨o,hb',hc⟩ ?_;show wpAny _ A.in1 (seqItems? (.ref b) >>=_) _ _ s';refine zc<|wpAny_seqItems hb' hd<|zm ?_;show wpAny _ A.in1 (holding [key,val]<|dictSet D key val) _ _ s';refine yK<|wpAny_dictSet_pairs Oz q (λh' q2 KZ=>?_) room;rw[<-tk]at q2;refine zm {plainId_quiet dh _,ih (i+1) _ _ _ (by lia) (W.frame _ s' _ _ Pd (yT _) λb hb o e=>?_) q2 (λb o e h1 h2=>?_) λBw Pe X2=>?_};rw[KZ.2 b (λh:b=D=>hDf<|by rw[<-h];exact hb)];exact e;rw[KZ.2 b h1];exact hm.heap b o h2<|hB b o e h1 h2;refine hR Bw (Moved.trans W.gtrans ((hm.mono up).then_heap (yT _) λb o hb e=>?_) Pe) X2;rw[KZ.2 b (λh:b=D=>hb<|by rw[h];exact zp)];exact e
theorem tO(hh:A.handled=none)(gl:s.heap.get? l=some ol)(cl:ol.cls=.type "tuple")(dl:ol.data=.seq items m)(nl:ol.dict=none)(hx:kvs.length=items.size) (hi:∀(i:Nat) (v:Value),items[i]?=some v->∃(b:Addr) (k:Key) (key val:Value) (o:Obj) (m:Nat),kvs[i]?=some (k,val)/\v=.ref b/\(aE prog w).is k key=true/\s.heap.get? b=some o/\o.cls=.type "tuple"/\o.data=.seq #[key,val] m) (hb:items.size<=sizeLine) (h:∀(h':Heap) (tk:Nat),h'.DictOf (aE prog w) s.heap.objs.size (merged [] kvs)->(∀b o,s.heap.get? b=some o->h'.get? b=some o)->Q (.ref s.heap.objs.size) {s with heap:=h',toks:=tk}): wpAny (model prog w) A (call (.type "dict") [.ref l]) Q E s:=by
 refine callType_codes (Q₁:=λobj bf=>obj=.ref s.heap.objs.size/\bf={s with heap:=s.heap.push {cls:=.type "dict",data:=.dict #[]}}) F.kt_called_dict (F.kt_typeCall_dict_1 _) F.entry_dict_init (kt_code_dict_new _ ⟨rfl,rfl⟩) ?_;rintro obj bf ⟨rfl,rfl⟩;have Pj:(s.heap.push {cls:=.type "dict",data:=.dict #[]}).DictOf (aE prog w) s.heap.objs.size []:=Heap.DictOf.new s.heap;have Tq:(s.heap.push {cls:=.type "dict",data:=.dict #[]}).get? l=some ol:=za _ gl;refine{Pj.typeIs,F.args_dict_init_2 _ _,?_};unfold Builtin.«dict.__init__»;refine zc ?_;unfold Builtin.Dict.selfAndRest;refine zc<|wpAny_notOrdered_dict Pj.typeIs ?_;show wpAny _ _ (pure (s.heap.objs.size,[Value.ref l])) _ _ _;refine zm ?_;show wpAny _ _ (Builtin.Dict.updateFrom "dict.__init__" s.heap.objs.size (.ref l) [] .none) _ _ _;unfold Builtin.Dict.updateFrom;refine zc<|wpAny_typeOf (T:="tuple") ⟨ol,Tq,cl⟩ ?_;rw[if_pos<|by decide];have h3:A.in1.in1.handled=none:=by simp[hh]
 refine zc<|tN Tq cl dl nl h3 λh1 tk1 V4=>?_;have g1:h1.get? l=some ol:=V4 _ _ Tq;have d1:h1.DictOf (aE prog w) s.heap.objs.size []:=by obtain⟨o,es,ep,ho,rest⟩:=Pj;exact{o,es,ep,V4 _ _ ho,rest}
 have lD:s.heap.objs.size<h1.objs.size:=by obtain⟨o,es,ep,ho,rest⟩:=d1;exact zw ho
 have ll:l<s.heap.objs.size:=zw gl;show wpAny _ _ (rule _ >>=_) _ _ _;refine zc<|yX ?_;have it1:h1.IsTuple l items:=⟨ol,g1,cl,m,dl⟩;refine zc<|wpAny_pyIter_tuple (s:=⟨h1,s.gens,s.drawn,tk1,s.os⟩) it1 ?_;have ne:l≠h1.objs.size:=zB<|Nat.lt_trans ll lD;have nf:s.heap.objs.size∉[h1.objs.size,l]:=by simp only[zj,zK,zM,or_false,not_or];exact{zB lD,yx ll}
 refine zm {plainId_quiet dh _,?_};refine Fe ((Walks.tuple h3 _ l ne items).toS) s.heap.objs.size nf kvs hx s.heap (λi v e=>?_) hb (items.size-0) 0 _ _ _ (by lia) {{_,zk _ rfl,rfl,rfl},it1.push _} ?hS0 ?hB ?hR;obtain⟨b,k,key,val,o,m',e1,e2,e3,e4,e5,e6⟩:=hi i v e;have lb:=zw e4;exact{b,k,key,val,o,m',e1,e2,e3,e4,e5,e6,zB lb,by simp;exact zB<|Nat.lt_trans lb lD};case hS0=>exact d1.push _
 case hB=>exact λb o e Ff X4=>za _<|V4 _ _<|za _ e
 case hR =>
  intro s' hm q
  obtain⟨h',g',d',Rh,Ss⟩:=s'
  have eg:g'=s.gens:=hm.gens;have ed:d'=s.drawn:=hm.drawn;have eo:Ss=s.os:=hm.os
  subst eg;subst ed;subst eo
  refine{rfl,h h' Rh q λb o e=>?_}
  have lb:=zw e
  refine hm.heap b o ?_<|za _<|V4 _ _<|za _ e
  simp only[zj,zK,zM,or_false,not_or];exact{zB lb,zB<|Nat.lt_trans lb lD}
end
noncomputable def DB(l:List<|Str×V):List (Key×V):=l.foldl (λc p=>putK c (.inr p.1) p.2) []
def Prs(H:Hp)(ps:List V)(kvs:List<|Str×V):Prop:=kvs.length=ps.length/\∀(i:Nat)(x:V)(p:Str×V),ps[i]?=some x->kvs[i]?=some p->∃b,x=.ref b/\H b=some (.tup [.str p.1,p.2])
section
variable{X:Cx}
theorem BJ(hc:X.calm=true):eF X (.type "dict") (λvs H Q=>∃p ps kvs,vs=[.ref p]/\H p=some (.tup ps)/\Prs H ps kvs/\∀l,H l=none->Q (.ref l) (upd H l<|.dK<|DB kvs)):=by
 intro pins s σ H vs us Q I r h;obtain⟨p,ps,kvs,rfl,hp,⟨hl,hq⟩,q⟩:=h;obtain⟨u,rfl,rx⟩:=vals1 r;cases rx;obtain⟨hz,az,rv,ol,gl,cl,nl,m,dl⟩:=(show bt X.prog X.w H s.heap p (.tup ps) from I.aK p _ hp);have hlen:=rv.length;have each:∀(i:Nat)(x:V)(pr:Str×V),ps[i]?=some x->kvs[i]?=some pr->∃(b:Addr)(key val:Value)(o:Obj)(m:Nat),az[i]?=some (.ref b)/\(aE X.prog X.w).is (.inr pr.1) key=true/\RelV pr.2 val/\s.heap.get? b=some o/\o.cls=.type "tuple"/\o.data=.seq #[key,val] m:=by intro i x pr e1 e2;obtain⟨b,rfl,hb⟩:=hq i x pr e1 e2;obtain⟨u,e3,ru⟩:=rv.get e1;cases ru;obtain⟨_,it2,r2,o,go,co,no,m2,do2⟩:=(show bt X.prog X.w H s.heap b (.tup [.str pr.1,pr.2]) from I.aK b _ hb);obtain⟨k',v',rfl,⟨tk,rfl⟩,rv'⟩:=r2.two;exact{b,_,v',o,m2,e3,jd _ _ _ _,rv',go,co,by simpa using do2}
 have kv:∃vals:List (Key×Value),KV (kvs.map λp=>((.inr p.1:Key),p.2)) vals/\∀(i:Nat)(x:V),ps[i]?=some x->∃(b:Addr)(k:Key)(key val:Value)(o:Obj)(m:Nat),vals[i]?=some (k,val)/\az[i]?=some (.ref b)/\(aE X.prog X.w).is k key=true/\s.heap.get? b=some o/\o.cls=.type "tuple"/\o.data=.seq #[key,val] m:=by clear hp q rv dl hz;induction kvs generalizing ps az with|nil=>refine{[],.nil,λi x e=>?_};have:ps=[]:=List.eq_nil_of_length_eq_zero (by simpa using hl.symm);subst this;simp at e|cons pr r ih=>cases ps with|nil=>simp at hl|cons y ys=>cases az with|nil=>simp at hlen|cons w0 ws=>obtain⟨b,key,val,o,m,e1,e2,e3,e4,e5,e6⟩:=each 0 y pr rfl rfl;obtain⟨vals,k1,k2⟩:=ih ys (by simpa using hl) (λi x p a b=>hq (i+1) x p (by simpa using a)<|by simpa using b) ws (by simpa using hlen) (λi x p a b=>by simpa using each (i+1) x p (by simpa using a) (by simpa using b));refine{(.inr pr.1,val)::vals,.cons ⟨rfl,e3⟩ k1,λi x e=>?_};cases i with|zero=>exact{b,.inr pr.1,key,val,o,m,rfl,e1,e2,e4,e5,e6}|succ i=>simpa using k2 i x (by simpa using e)
 obtain⟨vals,kv1,kv2⟩:=kv;have lv:vals.length=az.length:=by have:=kv1.length;rw[zb]at this;lia
 refine tO (kvs:=vals) (I.ok.hd hc) gl cl dl nl (by simpa using lv) (λi v e=>?_) (by simp;lia) λh' tk qs kp=>?_;have e':az[i]?=some v:=by simpa using e
 have hi:i<az.length:=(zd.mp e').1;obtain⟨b,k,key,val,o,m',e1,e2,e3,e4,e5,e6⟩:=kv2 i (ps[i]'(by lia))<|zf _;rw[e']at e2;exact{b,k,key,val,o,m',e1,zU e2,e3,e4,e5,e6};have rel:KV (DB kvs) (merged [] vals):=by have all:∀(l:List (Str×V))(vl:List (Key×Value))(c:List (Key×V))(cv:List (Key×Value)),KV (l.map λp=>((.inr p.1:Key),p.2)) vl->KV c cv->KV (l.foldl (λc p=>putK c (.inr p.1) p.2) c) (merged cv vl):=(by intro l;induction l with|nil=>(intro vl c cv h1 h2;cases h1;exact h2)|cons p r ih=>intro vl c cv h1 h2;cases h1 with|@cons _ q _ qs r1 r2=>obtain⟨k,v⟩:=q;obtain⟨rfl,rv⟩:=r1;exact ih qs _ _ r2<|h2.put _ rv);exact all kvs vals [] [] kv1 .nil
 have big:=I.big;refine{.ref s.heap.objs.size,_,I.laid (t':=tk) (λb o e=>kp b o e) (zq _) (o:=.dK<|DB kvs) {?_,?_,_,rel,qs},rfl,q _<|I.aK.fresh<|zq _};have e1:=rel.length;have e2:=merged_length_le ([]:List (Key×Value)) vals;simp at e2;lia;simp;exact yx big
theorem X5(h:n<=1000):n<=sizeLine:=yH<|jZ h
end
abbrev l7(h:Heap)(T:Addr)(arr:Array Value):Prop:=h.get? T=some {cls:=.type "tuple",data:=.seq arr}
theorem vG(hs:Heap.ExtBut b h h')(n:a≠b)(x:h.IsTupleIter a l i):h'.IsTupleIter a l i:=x.extBut hs n
theorem MX{h h':Heap}{a l:Addr}{i:Nat}(k:∀o,h.get? a=some o->h'.get? a=some o)(x:h.IsTupleIter a l i):h'.IsTupleIter a l i:=by obtain⟨o,e,r⟩:=x;exact{o,k o e,r}
section
variable{prog:Program}{w:World}{A:Around}{E:Value->Shared->Prop}{s:Shared}
theorem X6(h:n<=3):n<=sizeLine:=X5<|zD h<|by decide
theorem Fh(hT:l7 s.heap T arr)(hz:arr.size<=3)(h:∀h',l7 h' T (arr.setIfInBounds k x)->Heap.SameBut T s.heap h'->Q () {s with heap:=h'}):wpAny (model prog w) A (updateSeq T (·.setIfInBounds k x)) Q E s:=by refine wpAny_updateSeq hT rfl (h _ ?_<|yF ..) (hz:=X6 hz) (_hz':=by have:=X6 hz;simp;lia);show Heap.get? _ _=_;rw[yB _ hT rfl];simp[Obj.mapSeq]
theorem BK(hit:s.heap.IsTupleIter it l i)(hl:s.heap.IsTuple l items)(hx:items[i]?=some x)(hQ:∀h',h'.IsTupleIter it l (i+1)->Heap.SameBut it s.heap h'->Q x {s with heap:=h'}): wpAny (model prog w) A (Builtin.SmallTypes.nextOf<|.ref it) Q E s:=by obtain⟨o,ho,hc,hd⟩:=id hit;obtain⟨ol,Pk,_,nl,K1⟩:=hl;unfold Builtin.SmallTypes.nextOf;refine zc<|wpAny_callSpecial?_slot (name:=Str.ofString "__next__") hit.typeIs F.slot_tuple_iterator_next<|yJ F.slot_tuple_iterator_next hit.typeIs F.entry_tuple_iterator_next ?_<|F.args_tuple_iterator_next_1 _;show wpAny _ _ (field (.ref it) 0 >>=_) _ _ s;refine zc<|ya ho hd (x:=.ref l) rfl ?_;show wpAny _ _ (if (Value.ref l==Value.none)=true then _ else _) _ _ s;rw[if_neg<|show ¬((Value.ref l==Value.none)=true) from ze];show wpAny _ _ (field (.ref it) 1 >>=_) _ _ s;refine zc<|ya ho hd (x:=.int i 0) rfl ?_;show wpAny _ _ (seqItems? (.ref l) >>=_) _ _ s;refine zc<|wpAny_seqItems Pk K1 ?_;simp only[Int.toNat_natCast,hx];refine zc<|yS ho hd (by simp)<|zm {x,rfl,zm<|hQ _ {_,yB _ ho<|Obj.isFreed_of_fields<|yD hd _,(Obj.cls_mapFields ..).trans hc,by rw[yD hd];simp[rawInt]}<|yF ..}
theorem rf(hh:A.handled=none)(hit:s.heap.IsTupleIter it l i)(hl:s.heap.IsTuple l items)(hx:items[i]?=none) (hE:∀h' e,Heap.ExtBut it s.heap h'->(∃o,h'.get? e=some o/\o.cls=.type "StopIteration")->E (.ref e) {s with heap:=h'}):wpAny (model prog w) A (Builtin.SmallTypes.nextOf<|.ref it) Q E s:=by
 obtain⟨o,ho,hc,hd⟩:=id hit;obtain⟨ol,Pk,_,nl,K1⟩:=hl;unfold Builtin.SmallTypes.nextOf;refine zc<|wpAny_callSpecial?_slot (name:=Str.ofString "__next__") hit.typeIs F.slot_tuple_iterator_next<|yJ F.slot_tuple_iterator_next hit.typeIs F.entry_tuple_iterator_next ?_<|F.args_tuple_iterator_next_1 _;show wpAny _ _ (field (.ref it) 0 >>=_) _ _ s;refine zc<|ya ho hd (x:=.ref l) rfl ?_;show wpAny _ _ (if (Value.ref l==Value.none)=true then _ else _) _ _ s;rw[if_neg<|show ¬((Value.ref l==Value.none)=true) from ze];show wpAny _ _ (field (.ref it) 1 >>=_) _ _ s;refine zc<|ya ho hd (x:=.int i 0) rfl ?_;show wpAny _ _ (seqItems? (.ref l) >>=_) _ _ s;refine zc<|wpAny_seqItems Pk K1 ?_;simp only[Int.toNat_natCast,hx];refine zc<|yX<|zc<|yS ho hd (by simp) ?_;show wpAny _ _ (newExc (.type "StopIteration") [] >>=_) _ _ _;refine zc ?_;simp only[newExc,newTuple];refine zc<|yj ?_ (by size_fits);refine zc (m:=firstArgMember _ _)<|yY (a:=Value.none) (by first|rfl|(simp only[firstArgMember];rfl)) ?_;refine yj ?_ (by size_fits);simp only[raiseNew];refine zc<|wpAny_handled ?_;first|rw[show A.in1.handled=none from hh]|rw[hh]
 refine zc<|zm<|wpAny_throw<|hE _ _ (((yF ..).extBut.push _).push _) {_,zk _ rfl,rfl}
end
def ZS2(n l0 l1:Nat)(i:Nat)(h:Heap):Prop:=IsZip h (n+4) (n+2) (n+3) .none/\l7 h (n+2) #[.ref n,.ref<|n+1]/\(∃arr:Array Value,arr.size=2/\l7 h (n+3) arr)/\h.IsTupleIter n l0 i/\h.IsTupleIter (n+1) l1 i
section
variable{X:Cx}{pins:List (Addr×Obj)}{σ:St}{H:Hp}{s:Shared}{h':Heap}
theorem Inv.K2(I:Inv X pins σ H s)(wr:List Addr)(hw:∀b∈wr,tH X pins H b)(k:∀b o,b∉wr->s.heap.get? b=some o->h'.get? b=some o):Inv X pins σ H {s with heap:=h',toks:=t'}:=by refine I.step (g':=s.gens) (d':=s.drawn) (ch:=wr) (λb hb=>by obtain⟨_,a,_,c,d,e⟩:=hw b hb;exact⟨c,a,d,e⟩) (λb o _ _ hc e _=>k b o hc e) (λb o _ _ hc e _=>{o.slots,k b o hc e}) (λ_ _ _ _ n=>n) (λb o hc e=>{o,k b o hc e}) (λ_ _ e=>e) (λ_ _ _ e=>e) (λb ps e=>{#[],by rw[e];simp}) (λm hm=>?_) (λb u e=>?_) I.bare;obtain⟨o,es,ep,ho,r⟩:=hm;exact{o,es,ep,k _ o (λz=>(hw _ z).2.1 rfl) ho,r};refine(I.aK b u e).pO (λc v hc q=>k c v (λz=>?_) q) (λ_ q=>q) λ_ _ q=>q;have n:=(hw c z).1;rcases hc with rfl|hc;rw[n]at e;cases e;rw[n]at hc;cases hc
theorem Inv.K3(I:Inv X pins σ H s)(wr:List Addr)(hw:∀b∈wr,tH X pins H b)(k:∀b o,b∉wr->s.heap.get? b=some o->h'.get? b=some o)(hT:s.heap.get? T=none)(new:bt X.prog X.w (upd H T o) h' T o): Inv X pins σ (upd H T o) {s with heap:=h',toks:=t'}:=by
 have fr:H T=none:=by cases q:H T with|none=>rfl|some u=>obtain⟨z,e⟩:=(I.aK T u q).get;rw[hT]at e;cases e
 have ne:∀b u,H b=some u->b≠T:=λb u e z=>by rw[z,fr]at e;cases e
 refine I.step (g':=s.gens) (d':=s.drawn) (ch:=wr) (λb hb=>by obtain⟨_,a,_,c,d,e⟩:=hw b hb;exact⟨c,a,d,e⟩) (λb o _ _ hc e _=>k b o hc e) (λb o _ _ hc e _=>{o.slots,k b o hc e}) (λb ob _ e n=>?_) (λb o hc e=>{o,k b o hc e}) (λb xs e=>by rw[ax<|ne b _ e];exact e) (λb ob u e=>by rw[ax<|ne b _ e];exact e) (λb ps e=>{#[],by rw[ax<|ne b _ e,e];simp}) (λm hm=>?_) (λb u e=>?_) I.bare;have:b≠T:=λz=>by rw[z,hT]at e;cases e
 rw[ax this];exact n;obtain⟨o,es,ep,ho,r⟩:=hm;exact{o,es,ep,k _ o (λz=>(hw _ z).2.1 rfl) ho,r};by_cases hb:b=T;subst hb;rw[aD]at e;cases e;exact new;rw[ax hb]at e;refine(I.aK b u e).pO (λc v hc q=>k c v (λz=>?_) q) (λc q=>by rw[ax<|ne c _ q];exact q) λc xs q=>by rw[ax<|ne c _ q];exact q
 have n:=(hw c z).1;rcases hc with rfl|hc;rw[n]at e;cases e;rw[n]at hc;cases hc
end
noncomputable abbrev K4(h:Heap)(l0:Addr):Heap:=(h).push {cls:=.type "tuple_iterator",data:=.fields #[.ref l0,.int 0 0]}
noncomputable abbrev K5(h:Heap)(l0 l1:Addr):Heap:=(K4 h l0).push {cls:=.type "tuple_iterator",data:=.fields #[.ref l1,.int 0 0]}
noncomputable abbrev K6(h:Heap)(l0 l1:Addr):Heap:=(K5 h l0 l1).push {cls:=.type "tuple",data:=.seq #[.ref h.objs.size,.ref (K4 h l0).objs.size]}
noncomputable abbrev K7(h:Heap)(l0 l1:Addr):Heap:=(K6 h l0 l1).push {cls:=.type "tuple",data:=.seq #[.none,.none]}
noncomputable abbrev BN(h:Heap)(l0 l1:Addr):Heap:=(K7 h l0 l1).push {cls:=.type "zip",data:=.fields #[.none,.bool false,.bool false,.ref (K5 h l0 l1).objs.size,.ref (K6 h l0 l1).objs.size]}
theorem BO(l0 l1:Addr)(BL BM:Array Value):Meets (Builtin.«zip.__new__» {[.type "zip",.ref l0,.ref l1],[]}) (λ_ R s=>s.heap.IsTuple l0 BL/\s.heap.IsTuple l1 BM/\R (.ok<|.ret<|.ref (K7 s.heap l0 l1).objs.size) {s with heap:=BN s.heap l0 l1}):=.of_wp λprog w A R s h=>by obtain⟨hp,g,d,tk,os⟩:=s;obtain⟨t0,t1,h⟩:=h;have X7:=sub_zip;have L0:Heap.IsTuple (Shared.heap ⟨hp,g,d,tk,os⟩) l0 BL:=t0;have L1:Heap.IsTuple (Shared.heap {hp.push {cls:=.type "tuple_iterator",data:=.fields #[.ref l0,.int 0 0]},g,d,tk,os}) l1 BM:=Heap.IsTuple.push (t1) _;wp_walk using wpAny_pyIter_tuple L0,wpAny_pyIter_tuple L1;exact{_,rfl,h}
theorem BP(t0:s.heap.IsTuple l0 BL)(t1:s.heap.IsTuple l1 BM) (h:∀h',ZS2 s.heap.objs.size l0 l1 0 h'->(∀c o,s.heap.get? c=some o->h'.get? c=some o)->Q (.ref<|s.heap.objs.size+4) {s with heap:=h'}):wpAny (model prog w) A (call (.type "zip") [.ref l0,.ref l1]) Q E s:=by
 refine callType_new F.called_zip (by decide) (F.typeCall_zip_2 _ _) (F.newCall_zip_2 _ _) (λobj=>F.args_object_init_3 obj _ _) F.entry_zip_new (BO l0 l1 BL BM) {t0,t1,?_};have z1:(K4 s.heap l0).objs.size=s.heap.objs.size+1:=yd ..;have z2:(K5 s.heap l0 l1).objs.size=s.heap.objs.size+2:=by rw[yd,z1]
 have z3:(K6 s.heap l0 l1).objs.size=s.heap.objs.size+3:=by rw[yd,z2]
 have z4:(K7 s.heap l0 l1).objs.size=s.heap.objs.size+4:=by rw[yd,z3]
 have z5:(BN s.heap l0 l1).objs.size=s.heap.objs.size+5:=by rw[yd,z4]
 have g0:(BN s.heap l0 l1).get? (s.heap).objs.size=some _:=za _<|za _<|za _<|za _<|zk _ rfl;have g1:(BN s.heap l0 l1).get? (K4 s.heap l0).objs.size=some _:=za _<|za _<|za _<|zk _ rfl;have g2:(BN s.heap l0 l1).get? (K5 s.heap l0 l1).objs.size=some _:=za _<|za _<|zk _ rfl;have g3:(BN s.heap l0 l1).get? (K6 s.heap l0 l1).objs.size=some _:=za _<|zk _ rfl;have g4:(BN s.heap l0 l1).get? (K7 s.heap l0 l1).objs.size=some _:=zk _ rfl;show _/\_;rw[z2,z3,z4]at g4;rw[z3]at g3;rw[z1,z2]at g2;rw[z1]at g1;rw[z4];exact{{_,g4,rfl},h _ {g4,g2,!⟨g3⟩,{_,g0,rfl,rfl},{_,g1,rfl,rfl}} λc o x=>za _<|za _<|za _<|za _<|za _ x}
def K8(K:Frag):V->List V->Hp->VK->Prop:=λx vs H Q=>∃(a:Addr)(xs:List V)(y z:V)(j:Nat),x=.ref a/\vs=[y]/\jf K H a xs/\gF y=true/\xs.all gF=true/\xs[j]?=some z/\eqV z y=true/\(∀m u,m<j->xs[m]?=some u->eqV u y=false)/\Q (.int j) H
theorem Fi:Q7 X "list.index" (K8 X.K):=by
 intro pins s σ H x vs v us Q I rx rv h;obtain⟨a,xs,y,z,j,rfl,rfl,hq,fy,fx,hj,hit,Ks,q⟩:=h;cases rx;obtain⟨u,rfl,ru⟩:=rv.one;obtain⟨az,r,p,hz⟩:=I.list hq;obtain⟨⟨cls,dd,data,sl⟩,ho,hc,n,hd⟩:=p.isList;simp only at hc hd;subst hc hd;have hl:=r.length;have eO:j<xs.length:=(zd.mp hj).1;have fl:∀(m:Nat)(w:V),xs[m]?=some w->gF w=true:=λm w e=>yb.mp fx w<|zx e;have at':∀(m:Nat)(hm:m<az.toArray.size)(w:V),xs[m]?=some w->Hc y az.toArray[m]=eqV w y:=λm hm w e=>by obtain⟨u',e',X8⟩:=r.get e;have:az.toArray[m]=u':=(by have:=zd.mp e';simpa using this.2);rw[this];exact By X8<|fl m w e
 have hs:sizeLine=16777216:=yg;refine call_meets PySem.F.slot_list_index {_,ho,rfl} PySem.F.entry_list_index (PySem.F.args_list_index_2 _ _) (SeqAt.list_indexAt a az.toArray n dd sl u (Hc y) j (by simp;lia) (by lia) ?_ ?_) {ho,λw hw=>lZ ru fy r fx w<|by simpa using hw,{.int j,H,I.tok _,{_,rfl},q}};rw[at' j _ z hj];exact hit;intro m hm hmj;have hmx:m<xs.length:=by lia
 rw[at' m hm _<|zf hmx];exact Ks m _ hmj<|zf hmx
def Tu:R2:=λx y H Q=>∃z n,x=.str z/\y=.int n/\MulOk z n/\Q (.str<|PySem.Txt.mul z n) H
theorem BQ:ia X (binaryOp .Mult) Tu:=by intro pins s σ H x y v u Q I rx ry h;obtain⟨z,n,rfl,rfl,hm,q⟩:=h;obtain⟨t,rfl⟩:=rx;obtain⟨t',rfl⟩:=ry;exact SB.mul hm λt'' k=>{.str _,H,I.tok k,{_,rfl},q}
def JT(w:World)(K:Frag)(a:Addr)(kvs:List<|Str×V):Prop:=(a==sysModules)=false/\∃(o:Obj)(es:Array DictEntry)(ep:Nat),K.lookup a=some o/\o.ExactDict/\o.data=.dict es ep/\Paired (λ(e:DictEntry)(kv:Str×V)=>e.hash=hashStr w kv.1/\(∃t,e.key=.str kv.1 t)/\RelV kv.2 e.val) es.toList kvs/\(kvs.map Prod.fst).Nodup
theorem rh(z:Str):∀kvs:List (Str×V),fQ (kvs.map λp=>((.inr p.1:Key),p.2)) (.inr z)=kvs.lookup z
 |[]=>rfl
 | (x,v)::r=>by
  rw[zA,yf];by_cases e:z=x;subst e;rw[qU rfl];simp;have e1:(z==x)=false:=by simpa using e
  rw[qW λq=>e (yP q).symm,e1];exact rh z r
section
variable{X:Cx}{pins:List (Addr×Obj)}{σ:St}{H:Hp}{s:Shared}{a:Addr}{kvs:List (Str×V)}
theorem BR(I:Inv X pins σ H s)(d:JT X.w X.K a kvs):(a==sysModules)=false/\∃vs,KV (kvs.map λp=>((.inr p.1:Key),p.2)) vs/\s.heap.DictOf (aE X.prog X.w) a vs:=by
 obtain⟨ns,o,es,ep,hk,hx,hd,hp,hn⟩:=d;have all:∀(es:List DictEntry)(kvs:List (Str×V)),Paired (λ(e:DictEntry)(kv:Str×V)=>e.hash=hashStr X.w kv.1/\(∃t,e.key=.str kv.1 t)/\RelV kv.2 e.val) es kvs->∃vs:List (Key×Value),KV (kvs.map λp=>((.inr p.1:Key),p.2)) vs/\Pairs (aE X.prog X.w) es vs/\vs.map (·.1)=kvs.map (λp=>(.inr p.1:Key))/\∀e∈es,∃k,(aE X.prog X.w).is k e.key=true/\e.hash=(aE X.prog X.w).hash k:=by intro es kvs hp;induction hp with|nil=>exact{[],.nil,.nil,rfl,by simp}|@cons e kv VR kvs' h t ih=>obtain⟨vs,k1,k2,k3,k4⟩:=ih;obtain⟨h1,⟨tk,h2⟩,h3⟩:=h;have hi:(aE X.prog X.w).is (.inr kv.1) e.key=true:=(by rw[h2];exact jd _ _ _ _);refine{(.inr kv.1,e.val)::vs,.cons ⟨rfl,h3⟩ k1,.cons hi rfl k2,by rw[zA,zA,k3],λe' he=>?_};rcases zj.mp he with rfl|he;exact{.inr kv.1,hi,h1};exact k4 e' he
 obtain⟨vs,k1,k2,k3,k4⟩:=all _ _ hp;refine{ns,vs,k1,o,es,ep,I.oO a o hk,hx,hd,λe he=>k4 e<|by simpa using he,k2,?_};rw[k3];have:(kvs.map λp=>(.inr p.1:Key))=(kvs.map Prod.fst).map Sum.inr:=by rw[zy];rfl
 rw[this];exact List.Pairwise.map _ (λx y h q=>h<|yP q) hn
theorem HB{w:World}{K:Frag}(hw:X.w=w)(hK:X.K=K):ia X (compareOp .In) (λx y H Q=>∃z a kvs,x=.str z/\y=.ref a/\JT w K a kvs/\Q (.bl (kvs.lookup z).isSome) H):=by subst hw hK;intro pins s σ H x y v u Q I rx ry h;obtain⟨z,a,kvs,rfl,rfl,d,q⟩:=h;cases ry;obtain⟨ns,vs,rel,dd⟩:=BR I d;refine wpAny_in_of (kP (k:=.inr z) rx) ns dd.mapOf ?_;rw[<-(rel.val<|.inr z).nI,rh];exact{.bl _,H,I.tok _,rfl,q}
def Tv(w:World)(K:Frag):V->List V->Hp->VK->Prop:=λx vs H Q=>∃a z kvs,x=.ref a/\vs=[.str z]/\JT w K a kvs/\Q ((kvs.lookup z).getD .au) H
theorem K9{w:World}{K:Frag}(hw:X.w=w)(hK:X.K=K):Q7 X "dict.get" (Tv w K):=by subst hw hK;intro pins s σ H x vs v us Q I rx rv h;obtain⟨a,z,kvs,rfl,rfl,d,q⟩:=h;cases rx;obtain⟨u,rfl,ru⟩:=rv.one;obtain⟨ns,vs,rel,dd⟩:=BR I d;refine call_meetsIn yC dd.typeIs PySem.F.entry_dict_get (PySem.F.args_dict_get_2 _ _) (meets_dict_get (aE X.prog X.w) a (kP (k:=.inr z) ru) ns) {_,dd.mapOf,_,H,I.tok _,?_,q};rw[<-rh];exact(rel.val<|.inr z).getD rfl
theorem HC{w:World}{K:Frag}{o e:Expr}{apos aN:Pos}{td ty:TE}(hw:X.w=w)(hK:X.K=K)(ho:PE X o td)(he:PE X e ty)(m:M1 X o "get" apos e aN):PE X (.Call (.Attribute o "get" apos) [e] [] aN) (λσ H Q=>td σ H λx H1=>∃a kvs,x=.ref a/\JT w K a kvs/\ty σ H1 λy H2=>∃z,y=.str z/\Q ((kvs.lookup z).getD .au) H2):=by subst hw hK;intro pins s σ H Q I h;refine wpAny_Call_method m.base m.GJ m.line PySem.F.plainAttrs_dict yC PySem.F.type_dict_get<|bz (ho pins s σ H _ I h) λu s1 ⟨x,H1,I1,rx,a,kvs,ex,d,q1⟩=>?_;subst ex;obtain rfl:u=Value.ref a:=rx;obtain⟨ns,vs,rel,dd⟩:=BR I1 d;obtain⟨ob,_,_,h1,h2,_⟩:=id dd;refine{dd.typeIs,λb q=>by cases q;exact⟨ob,h1,h2.2.1⟩,?_};rw[m.trees];refine Calls.callWith_builtin rfl<|Calls.evalArgs_plain<|yI<|bz (he pins s1 σ H1 _ I1 q1) λiv s2 ⟨y,H2,I2,ry,z,ey,q2⟩=>Calls.spliced_nil ?_;subst ey;exact K9 rfl rfl pins s2 σ H2 (.ref a) [.str z] _ [iv] Q I2 rfl (.cons ry .nil) ⟨a,z,kvs,rfl,rfl,d,q2⟩
end
theorem HD:bootBuiltins "min"= some (.builtin "min"):=by trivial
def ZS3(n l0 l1 l2:Nat)(i:Nat)(h:Heap):Prop:=IsZip h (n+5) (n+3) (n+4) .none/\l7 h (n+3) #[.ref n,.ref<|n+1,.ref<|n+2]/\(∃arr:Array Value,arr.size=3/\l7 h (n+4) arr)/\h.IsTupleIter n l0 i/\h.IsTupleIter (n+1) l1 i/\h.IsTupleIter (n+2) l2 i
noncomputable abbrev K_(h:Heap)(l0:Addr):Heap:=(h).push {cls:=.type "tuple_iterator",data:=.fields #[.ref l0,.int 0 0]}
noncomputable abbrev La(h:Heap)(l0 l1:Addr):Heap:=(K_ h l0).push {cls:=.type "tuple_iterator",data:=.fields #[.ref l1,.int 0 0]}
noncomputable abbrev Lb(h:Heap)(l0 l1 l2:Addr):Heap:=(La h l0 l1).push {cls:=.type "tuple_iterator",data:=.fields #[.ref l2,.int 0 0]}
noncomputable abbrev Ld(h:Heap)(l0 l1 l2:Addr):Heap:=(Lb h l0 l1 l2).push {cls:=.type "tuple",data:=.seq #[.ref h.objs.size,.ref (K_ h l0).objs.size,.ref (La h l0 l1).objs.size]}
noncomputable abbrev Le(h:Heap)(l0 l1 l2:Addr):Heap:=(Ld h l0 l1 l2).push {cls:=.type "tuple",data:=.seq #[.none,.none,.none]}
noncomputable abbrev xV(h:Heap)(l0 l1 l2:Addr):Heap:=(Le h l0 l1 l2).push {cls:=.type "zip",data:=.fields #[.none,.bool false,.bool false,.ref (Lb h l0 l1 l2).objs.size,.ref (Ld h l0 l1 l2).objs.size]}
theorem BS(l0 l1 l2:Addr)(BL BM Ri:Array Value):Meets (Builtin.«zip.__new__» {[.type "zip",.ref l0,.ref l1,.ref l2],[]}) (λ_ R s=>s.heap.IsTuple l0 BL/\s.heap.IsTuple l1 BM/\s.heap.IsTuple l2 Ri/\R (.ok<|.ret<|.ref (Le s.heap l0 l1 l2).objs.size) {s with heap:=xV s.heap l0 l1 l2}):=.of_wp λprog w A R s h=>by obtain⟨hp,g,d,tk,os⟩:=s;obtain⟨t0,t1,t2,h⟩:=h;have X7:=sub_zip;have L0:Heap.IsTuple (Shared.heap ⟨hp,g,d,tk,os⟩) l0 BL:=t0;have L1:Heap.IsTuple (Shared.heap {hp.push {cls:=.type "tuple_iterator",data:=.fields #[.ref l0,.int 0 0]},g,d,tk,os}) l1 BM:=Heap.IsTuple.push (t1) _;have L2:Heap.IsTuple (Shared.heap {(hp.push {cls:=.type "tuple_iterator",data:=.fields #[.ref l0,.int 0 0]}).push {cls:=.type "tuple_iterator",data:=.fields #[.ref l1,.int 0 0]},g,d,tk,os}) l2 Ri:=Heap.IsTuple.push (Heap.IsTuple.push (t2) _) _;wp_walk using wpAny_pyIter_tuple L0,wpAny_pyIter_tuple L1,wpAny_pyIter_tuple L2;exact{_,rfl,h}
theorem BU(a0 a1 a2:Value):checkTypeCall "zip" {[a0,a1,a2],[]}=pure ():=by kernel_rfl
theorem BV(a0 a1 a2:Value):checkBuiltinCall "zip.__new__" {[.type "zip",a0,a1,a2],[]}=pure ():=by kernel_rfl
theorem Pl(x a0 a1 a2:Value):argsOk "object.__init__" {[x,a0,a1,a2],[]}:=by unfold argsOk;rw[signature?_of (id:="object.__init__") (n:=['_','_','t','i','n','i','_','_']) (o:=['t','c','e','j','b','o']) (by kernel_rfl) F.owner_object];kernel_rfl
theorem BW(t0:s.heap.IsTuple l0 BL)(t1:s.heap.IsTuple l1 BM)(t2:s.heap.IsTuple l2 Ri) (h:∀h',ZS3 s.heap.objs.size l0 l1 l2 0 h'->(∀c o,s.heap.get? c=some o->h'.get? c=some o)->Q (.ref<|s.heap.objs.size+5) {s with heap:=h'}):wpAny (model prog w) A (call (.type "zip") [.ref l0,.ref l1,.ref l2]) Q E s:=by
 refine callType_new F.called_zip (by decide) (BU _ _ _) (BV _ _ _) (λobj=>Pl obj _ _ _) F.entry_zip_new (BS l0 l1 l2 BL BM Ri) {t0,t1,t2,?_};have z1:(K_ s.heap l0).objs.size=s.heap.objs.size+1:=yd ..;have z2:(La s.heap l0 l1).objs.size=s.heap.objs.size+2:=by rw[yd,z1]
 have z3:(Lb s.heap l0 l1 l2).objs.size=s.heap.objs.size+3:=by rw[yd,z2]
 have z4:(Ld s.heap l0 l1 l2).objs.size=s.heap.objs.size+4:=by rw[yd,z3]
 have z5:(Le s.heap l0 l1 l2).objs.size=s.heap.objs.size+5:=by rw[yd,z4]
 have z6:(xV s.heap l0 l1 l2).objs.size=s.heap.objs.size+6:=by rw[yd,z5]
 have g0:(xV s.heap l0 l1 l2).get? (s.heap).objs.size=some _:=za _<|za _<|za _<|za _<|za _<|zk _ rfl;have g1:(xV s.heap l0 l1 l2).get? (K_ s.heap l0).objs.size=some _:=za _<|za _<|za _<|za _<|zk _ rfl;have g2:(xV s.heap l0 l1 l2).get? (La s.heap l0 l1).objs.size=some _:=za _<|za _<|za _<|zk _ rfl;have g3:(xV s.heap l0 l1 l2).get? (Lb s.heap l0 l1 l2).objs.size=some _:=za _<|za _<|zk _ rfl;have g4:(xV s.heap l0 l1 l2).get? (Ld s.heap l0 l1 l2).objs.size=some _:=za _<|zk _ rfl;have g5:(xV s.heap l0 l1 l2).get? (Le s.heap l0 l1 l2).objs.size=some _:=zk _ rfl;show _/\_;rw[z3,z4,z5]at g5;rw[z4]at g4;rw[z1,z2,z3]at g3;rw[z1]at g1;rw[z2]at g2;rw[z5];exact{{_,g5,rfl},h _ {g5,g3,!⟨g4⟩,{_,g0,rfl,rfl},{_,g1,rfl,rfl},{_,g2,rfl,rfl}} λc o x=>za _<|za _<|za _<|za _<|za _<|za _ x}
theorem Vals.three(h:Vals [x,y,z] us):∃u v w,us=[u,v,w]/\RelV x u/\RelV y v/\RelV z w:=by cases h with|cons r h=>cases h with|cons q h=>cases h with|cons p h=>cases h;exact{_,_,_,rfl,r,q,p}
section
variable{X:Cx}
def Lg:V->List V->Hp->VK->Prop:=λx vs H Q=>∃z y,x=.str z/\vs=[.str y]/\Q (.bl<|PySem.Txt.startswith z y) H
theorem tP:Q7 X "str.startswith" Lg:=by intro pins s σ H x vs v us Q I rx rv h;obtain⟨z,y,rfl,rfl,q⟩:=h;obtain⟨t,rfl⟩:=rx;obtain⟨u,rfl,ru⟩:=rv.one;obtain⟨t',rfl⟩:=ru;exact PySem.SC.startswith {.bl _,H,I,rfl,q}
def X9:V->Option Int->Option Int->Hp->VK->Prop:=λx lo hi H Q=>∃z,x=.str z/\z.length<=sizeLine/\Q (.str<|PySem.Txt.slice z lo hi) H
theorem Pm:Q6 X X9:=by intro pins s σ H x v vl vu lo hi sl Q I rx hs pl pu h;obtain⟨z,rfl,hz,q⟩:=h;obtain⟨t,rfl⟩:=rx;obtain⟨o,e1,e2,e3⟩:=hs;refine{"str",_,F.slot_str_getitem.lookup,typeIs_str _ _ _,?_};have fin:∀k,∀t':Tok,EP X pins σ Q (.str (PySem.Txt.slice z lo hi) t') {s with toks:=k}:=λk t'=>{.str _,H,I.tok k,{_,rfl},q};cases pl with|none=>(cases pu with|none=>exact wpAny_getItem_str_slice (l:=none) (u:=none) (st:=none) ⟨o,e1,e2,e3⟩ rfl (post_val_or_str {zD (Txt.slice_le z _ _) hz,λt' k=>fin k t'})|int j uj=>exact wpAny_getItem_str_slice (l:=none) (u:=some (j,uj)) (st:=none) ⟨o,e1,e2,e3⟩ rfl<|post_val_or_str {zD (Txt.slice_le z _ _) hz,λt' k=>fin k t'})|int i ui=>cases pu with|none=>exact wpAny_getItem_str_slice (l:=some (i,ui)) (u:=none) (st:=none) ⟨o,e1,e2,e3⟩ rfl (post_val_or_str {zD (Txt.slice_le z _ _) hz,λt' k=>fin k t'})|int j uj=>exact wpAny_getItem_str_slice (l:=some (i,ui)) (u:=some (j,uj)) (st:=none) ⟨o,e1,e2,e3⟩ rfl<|post_val_or_str {zD (Txt.slice_le z _ _) hz,λt' k=>fin k t'}
end
end L2
namespace L2
open PySem PySem.Spec PyProof.Rows PySem.SeqAt
end L2
namespace L2
open PySem PySem.Spec PyProof.Rows
theorem vH(l:Addr)(items:Array Value)(n:Nat)(b:Addr)(rj:Array Value)(n2:Nat)(sl:Array<|Option Value)(Rj:¬(!items.isEmpty&&Builtin.List.listTooLong (items.size+rj.size))=true)(hs1:items.size<=sizeLine)(vj:items.size+rj.size<=sizeLine+1): Meets (Builtin.«list.extend» {[.ref l,.ref b],[]}) (λ_ R s=>s.heap.get? l=some {cls:=.type "list",dict:=none,data:=.seq items n,slots:=#[]}/\s.heap.get? b=some {cls:=.type "tuple",dict:=none,data:=.seq rj n2,slots:=sl}/\R (.ok<|.ret Value.none) {s with heap:=s.heap.update l<|Obj.mapSeq λx=>x++rj,toks:=s.toks}):=.of_wp λprog w A R s h=>by
 obtain⟨hp,g,d,tk,os⟩:=s;obtain⟨hl,hb,h⟩:=h;have f1:=AutoSeq1.idx_int;have f2:=AutoSeq1.sub_tuple_tuple;have f3:=AutoSeq1.sub_list_list;have f4:=AutoSeq1.sub_tuple_list;have f5:=AutoSeq1.sub_list_tuple;have X_:(items++rj).size<=sizeLine+1:=by rw[Array.size_append];exact vj
 wp_walk using (wpAny_updateSeq hl rfl (hz:=hs1) (_hz':=X_)),AutoSeq1.wpAny_loadPart' hl,AutoSeq1.wpAny_loadPart' hb;exact{_,rfl,h}
section
variable{X:Cx}{K:Frag}
def HE:V->List V->Hp->VK->Prop:=λx vs H Q=>∃l b xs zs,x=.ref l/\vs=[.ref b]/\H l=some (.lst xs)/\H b=some (.tup zs)/\xs.length+zs.length<=sizeLine/\Q .au (upd H l<|.lst<|xs++zs)
theorem BX:SG X "list.extend" HE:=by
 intro pins s σ H x vs v us Q I rx rv h;obtain⟨l,b,xs,zs,rfl,rfl,hH,hB,hz,q⟩:=h;cases rx;obtain⟨u,rfl,ru⟩:=rv.one;cases ru;obtain⟨z,az,n,r,hl,e⟩:=I.xI hH;obtain⟨z2,tJ,r2,⟨c2,d2,dt2,Te⟩,e2,ec,ed,n2,en⟩:=(show bt X.prog X.w H s.heap b (.tup zs) from I.aK b _ hB);dsimp only at ec ed en;subst ec ed en;have GI:=r2.length;have hsz:az.toArray.size+tJ.toArray.size<=sizeLine:=by rw[zo,zo];lia
 have Tw:¬(!az.toArray.isEmpty&&Builtin.List.listTooLong (az.toArray.size+tJ.toArray.size))=true:=by rw[Hf hsz,Bool.and_false];exact ze
 refine call_meets F.slot_list_extend {_,e,rfl} F.entry_list_extend (F.args_list_extend_2 _ _) (vH l az.toArray n b tJ.toArray n2 Te Tw (by rw[zo];lia)<|by lia) {e,e2,?_};refine{.au,_,I.He (its':=az++tJ) hH e (by simp) (r.append r2) ?_,rfl,q};rw[zE];lia
theorem xW(ns:List Int):∀n,preSum (λi=>(ns[i]?).getD 0) n=(ns.take n).sum|0=>rfl|n+1=>by show preSum _ n+_=_;rw[xW ns n,List.take_add_one,List.sum_append];cases h:ns[n]?<;>simp[h]
theorem Pn:bootBuiltins "sum"= some (.builtin "sum"):=PyProof.Rows.Boot.«sum»
theorem Fj(hK:X.K=K)(hc:X.calm=true):eF X (.builtin "sum") (λxs H Q=>∃(a:Addr)(ns:List Int),xs=[.ref a]/\jf K H a (ns.map V.int)/\Q (.int ns.sum) H):=by
 subst hK;intro pins s σ H xs us Q I r h;obtain⟨a,ns,rfl,hq,q⟩:=h;obtain⟨u,rfl,ru⟩:=vals1 r;cases ru;obtain⟨az,rv,p,hz⟩:=I.list hq;have hl:=rv.length;rw[zb]at hl;refine call_sum_walkG<|wpAny_pyIter_list p.isList ?_;refine{s.heap.objs.size,_,_,_,_,_,λi=>(ns[i]?).getD 0,rfl,Walks.list (A:=X.A.in1) (I.ok.hd hc) s.heap.objs.size a (zB p.lt) az.toArray,{{_,zk _ rfl,rfl,rfl},p.isList.at λo e=>za _ e},?_,?_,λh' tk t' hk=>?_};intro b hb;simp only[zj,zM,or_false]at hb;rcases hb with rfl|rfl;simp[Heap.push];exact zr p.lt (by simp[Heap.push]);intro i v hv;have MN:az[i]?=some v:=by simpa using hv
 cases hn:ns[i]? with|none=>(have h1:=(List.getElem?_eq_none_iff.mp hn);rw[List.getElem?_eq_none<|by lia]at MN;cases MN)|some k=>obtain⟨u',hu',X8⟩:=rv.get (i:=i) (x:=.int k) (by rw[zg,hn];rfl);rw[MN]at hu';cases hu';obtain⟨t0,rfl⟩:=X8;exact{t0,by simp[hn]}
 have e:az.toArray.size=ns.length:=by rw[zo,<-hl]
 rw[e,xW,yz];exact{.int ns.sum,H,I.kept (h':=h') (t':=tk) λb o e=>hk b o (by simpa using zB (zw e))<|za _ e,{_,rfl},q}
theorem DC(v:Value):∀(n:Nat)(acc:List Value),List.foldl (λx1 x2=>x1++x2) acc.toArray (List.replicate n #[v])=(acc++List.replicate n v).toArray|0,acc=>by simp|n+1,acc=>by rw[List.replicate_succ,yM,show acc.toArray++#[v]=(acc++[v]).toArray by simp,DC v n,List.append_assoc];rfl
theorem xX(r:RelV x v):∀n,Vals (List.replicate n x) (List.replicate n v)|0=>.nil|n+1=>.cons r<|xX r n
end
set_option genInjectivity true in
set_option genSizeOfSpec true in
inductive D where
 |au|bl (b:Bool)|int (i:Int)|str (x:Str)|tup (ds:List D)|j6 (ds:List D)|kt (ds:List D)|ref (a:Addr)|ty (n:String)
def Ya(K:Frag)(a:Addr)(xs:List V):Prop:=∃(o:Obj)(az:Array Value)(n:Nat),K.lookup a=some o/\o.cls=.type "tuple"/\o.data=.seq az n/\az.size<=sizeLine/\Vals xs az.toList
def MY(K:Frag)(H:Hp)(a:Addr)(xs:List V):Prop:=(∃o,H a=some (.k_ o<|.lst xs))\/∃(o:Obj)(az:Array Value)(n:Nat),K.lookup a=some o/\o.cls=.type "list"/\o.dict=none/\o.data=.seq az n/\az.size<=sizeLine/\Vals xs az.toList
theorem MY.sq{K:Frag}{H:Hp}{a:Addr}{xs:List V}(h:MY K H a xs):jf K H a xs:=by rcases h with h|h;exact .inl<|.inr h;exact .inr h
structure Kp(K:Frag)(H H':Hp):Prop where
 t:∀a xs,H a=some (.tup xs)->H' a=some (.tup xs)
 r:∀a xs,MY K H a xs->MY K H' a xs
 f:∀a o u,H a=some (.k_ o u)->H' a=some (.k_ o u)
theorem Kp.refl{K:Frag}(H:Hp):Kp K H H:={λ_ _ h=>h,λ_ _ h=>h,λ_ _ _ h=>h}
theorem Kp.trans{K:Frag}{H H1 H2:Hp}(a:Kp K H H1)(b:Kp K H1 H2):Kp K H H2:={λp xs h=>b.t p xs<|a.t p xs h,λp xs h=>b.r p xs<|a.r p xs h,λp o u h=>b.f p o u<|a.f p o u h}
theorem Kp.of{K:Frag}{H H':Hp}(h:∀b o,H b=some o->H' b=some o\/(∀xs,o≠.tup xs)/\∀u v,o≠.k_ u v):Kp K H H' where
 t:=λa xs q=>(h _ _ q).resolve_right λz=>z.1 _ rfl
 r:=λa xs q=>by
  rcases q with⟨o,q⟩|q
  ·exact .inl {o,(h _ _ q).resolve_right λz=>z.2 _ _ rfl}
  ·exact .inr q
 f:=λa o u q=>(h _ _ q).resolve_right λz=>z.2 _ _ rfl
theorem Kp.new{K:Frag}{H:Hp}{a:Addr}{o:HO}(h:H a=none):Kp K H (upd H a o):=.of λb u e=>.inl<|by rw[ax<|aC e h];exact e
theorem Kp.put{K:Frag}{H:Hp}{a:Addr}{o u:HO}(h:H a=some o)(h1:∀xs,o≠.tup xs)(h2:∀u v,o≠.k_ u v):Kp K H (upd H a u):=.of λb v e=>by by_cases q:b=a;subst q;rw[h]at e;cases e;exact .inr ⟨h1,h2⟩;exact .inl<|by rw[ax q];exact e
mutual
def Rv(K:Frag)(H:Hp):D->V->Prop|.au,v=>v=.au|.bl b,v=>v=.bl b|.int i,v=>v=.int i|.str z,v=>v=.str z|.tup ds,v=>∃a xs,v=.ref a/\H a=some (.tup xs)/\RvAll K H ds xs|.j6 ds,v=>∃a xs,v=.ref a/\MY K H a xs/\RvAll K H ds xs|.kt ds,v=>∃a xs,v=.ref a/\Ya K a xs/\RvAll K H ds xs|.ref a,v=>v=.ref a|.ty n,v=>v=.ty n
def RvAll(K:Frag)(H:Hp):List D->List V->Prop|[],xs=>xs=[]|d::ds,xs=>∃y ys,xs=y::ys/\Rv K H d y/\RvAll K H ds ys
end
section
variable{K:Frag}{H H':Hp}
theorem dE:Rv K H .au .au:=by simp only[Rv]
theorem cw(b:Bool):Rv K H (.bl b) (.bl b):=by simp only[Rv]
theorem aO(i:Int):Rv K H (.int i) (.int i):=by simp only[Rv]
theorem jm(z:Str):Rv K H (.str z) (.str z):=by simp only[Rv]
theorem ij(a:Addr):Rv K H (.ref a) (.ref a):=by simp only[Rv]
theorem Tx(n:String):Rv K H (.ty n) (.ty n):=by simp only[Rv]
theorem MZ(h:Ya K a xs)(t:RvAll K H ds xs):Rv K H (.kt ds) (.ref a):=by simp only[Rv];exact⟨a,xs,rfl,h,t⟩
theorem nM(h:H a=some (.tup xs))(t:RvAll K H ds xs):Rv K H (.tup ds) (.ref a):=by simp only[Rv];exact⟨a,xs,rfl,h,t⟩
theorem HF(h:MY K H a xs)(t:RvAll K H ds xs):Rv K H (.j6 ds) (.ref a):=by simp only[Rv];exact⟨a,xs,rfl,h,t⟩
theorem Rv.au(h:Rv K H .au v):v=.au:=by simpa only[Rv]using h
theorem Rv.bl(h:Rv K H (.bl b) v):v=.bl b:=by simpa only[Rv]using h
theorem Rv.int(h:Rv K H (.int i) v):v=.int i:=by simpa only[Rv]using h
theorem Rv.str(h:Rv K H (.str z) v):v=.str z:=by simpa only[Rv]using h
theorem Rv.ref(h:Rv K H (.ref a) v):v=.ref a:=by simpa only[Rv]using h
theorem Rv.ty(h:Rv K H (.ty n) v):v=.ty n:=by simpa only[Rv]using h
theorem Rv.kt(h:Rv K H (.kt ds) v):∃a xs,v=.ref a/\Ya K a xs/\RvAll K H ds xs:=by simpa only[Rv]using h
theorem Rv.tup(h:Rv K H (.tup ds) v):∃a xs,v=.ref a/\H a=some (.tup xs)/\RvAll K H ds xs:=by simpa only[Rv]using h
theorem Rv.j6(h:Rv K H (.j6 ds) v):∃a xs,v=.ref a/\MY K H a xs/\RvAll K H ds xs:=by simpa only[Rv]using h
theorem br:RvAll K H [] []:=by simp only[RvAll]
theorem aI(h:Rv K H d x)(t:RvAll K H ds xs):RvAll K H (d::ds) (x::xs):=by simp only[RvAll];exact⟨x,xs,rfl,h,t⟩
theorem RvAll.nil(h:RvAll K H [] xs):xs=[]:=by simpa only[RvAll]using h
theorem RvAll.cons(h:RvAll K H (d::ds) xs):∃y ys,xs=y::ys/\Rv K H d y/\RvAll K H ds ys:=by simpa only[RvAll]using h
mutual
theorem Rv.ts(s:Kp K H H'):∀(d:D){v:V},Rv K H d v->Rv K H' d v|.au,v,h=>by simpa only[Rv]using h|.bl b,v,h=>by simpa only[Rv]using h|.int i,v,h=>by simpa only[Rv]using h|.str z,v,h=>by simpa only[Rv]using h|.tup ds,v,h=>(by obtain⟨a,xs,rfl,e,t⟩:=h.tup;exact nM (s.t _ _ e)<|RvAll.ts s ds t)|.j6 ds,v,h=>(by obtain⟨a,xs,rfl,e,t⟩:=h.j6;exact HF (s.r _ _ e)<|RvAll.ts s ds t)|.kt ds,v,h=>(by obtain⟨a,xs,rfl,e,t⟩:=h.kt;exact MZ e<|RvAll.ts s ds t)|.ref a,v,h=>by simpa only[Rv]using h|.ty n,v,h=>by simpa only[Rv]using h
theorem RvAll.ts(s:Kp K H H'):∀(ds:List D){xs:List V},RvAll K H ds xs->RvAll K H' ds xs|[],xs,h=>by rw[h.nil];exact br|d::ds,xs,h=>by obtain⟨y,ys,rfl,h1,h2⟩:=h.cons;exact aI (Rv.ts s d h1)<|RvAll.ts s ds h2
end
theorem RvAll.len:∀{ds:List D}{xs:List V},RvAll K H ds xs->xs.length=ds.length|[],xs,h=>by rw[h.nil];rfl|d::ds,xs,h=>by obtain⟨y,ys,rfl,_,h2⟩:=h.cons;rw[zQ,zQ,h2.len]
theorem RvAll.get:∀{ds:List D}{xs:List V}{i:Nat}{d:D},RvAll K H ds xs->ds[i]?=some d->∃v,xs[i]?=some v/\Rv K H d v|[],xs,i,d,h,e=>by simp at e|d0::ds,xs,0,d,h,e=>(by obtain⟨y,ys,rfl,h1,h2⟩:=h.cons;simp at e;subst e;exact⟨y,rfl,h1⟩)|d0::ds,xs,i+1,d,h,e=>by obtain⟨y,ys,rfl,h1,h2⟩:=h.cons;obtain⟨v,e1,e2⟩:=h2.get (i:=i) (by simpa using e);exact{v,by simpa using e1,e2}
theorem RvAll.app:∀{ds es:List D}{xs ys:List V},RvAll K H ds xs->RvAll K H es ys->RvAll K H (ds++es) (xs++ys)|[],es,xs,ys,h,k=>by rw[h.nil];exact k|d::ds,es,xs,ys,h,k=>by obtain⟨y,zs,rfl,h1,h2⟩:=h.cons;exact aI h1<|h2.app k
theorem RvAll.take:∀{ds:List D}{xs:List V}(n:Nat),RvAll K H ds xs->RvAll K H (ds.take n) (xs.take n)|[],xs,n,h=>by rw[h.nil];simp only[List.take_nil];exact br|d::ds,xs,0,h=>by simp only[List.take_zero];exact br|d::ds,xs,n+1,h=>by obtain⟨y,zs,rfl,h1,h2⟩:=h.cons;exact aI h1<|h2.take n
theorem RvAll.drop:∀{ds:List D}{xs:List V}(n:Nat),RvAll K H ds xs->RvAll K H (ds.drop n) (xs.drop n)|[],xs,n,h=>by rw[h.nil];simp only[List.drop_nil];exact br|d::ds,xs,0,h=>h|d::ds,xs,n+1,h=>by obtain⟨y,zs,rfl,h1,h2⟩:=h.cons;exact h2.drop n
theorem RvAll.set:∀{ds:List D}{xs:List V}{d:D}{v:V}(n:Nat),RvAll K H ds xs->Rv K H d v->RvAll K H (ds.set n d) (xs.set n v)|[],xs,d,v,n,h,r=>by rw[h.nil];exact br|d0::ds,xs,d,v,0,h,r=>(by obtain⟨y,zs,rfl,h1,h2⟩:=h.cons;exact aI r h2)|d0::ds,xs,d,v,n+1,h,r=>by obtain⟨y,zs,rfl,h1,h2⟩:=h.cons;exact aI h1<|h2.set n r
theorem RvAll.erase:∀{ds:List D}{xs:List V}(n:Nat),RvAll K H ds xs->RvAll K H (ds.eraseIdx n) (xs.eraseIdx n)|[],xs,n,h=>by rw[h.nil];exact br|d::ds,xs,0,h=>(by obtain⟨y,zs,rfl,h1,h2⟩:=h.cons;exact h2)|d::ds,xs,n+1,h=>by obtain⟨y,zs,rfl,h1,h2⟩:=h.cons;exact aI h1<|h2.erase n
theorem RvAll.dropLast:∀{ds:List D}{xs:List V},RvAll K H ds xs->RvAll K H ds.dropLast xs.dropLast|[],xs,h=>by rw[h.nil];exact br|[d],xs,h=>(by obtain⟨y,zs,rfl,h1,h2⟩:=h.cons;rw[h2.nil];exact br)|d::e::ds,xs,h=>by obtain⟨y,zs,rfl,h1,h2⟩:=h.cons;obtain⟨y2,zs2,rfl,h3,h4⟩:=id h2.cons;exact aI h1<|RvAll.dropLast h2
theorem RvAll.bools:∀{bs:List Bool}{xs:List V},RvAll K H (bs.map D.bl) xs->xs=bs.map V.bl|[],xs,h=>h.nil|b::bs,xs,h=>by obtain⟨y,ys,rfl,h1,h2⟩:=h.cons;rw[h1.bl,h2.bools];rfl
theorem RvAll.ints:∀{bs:List Int}{xs:List V},RvAll K H (bs.map D.int) xs->xs=bs.map V.int|[],xs,h=>h.nil|b::bs,xs,h=>by obtain⟨y,ys,rfl,h1,h2⟩:=h.cons;rw[h1.int,h2.ints];rfl
theorem RvAll.strs:∀{bs:List Str}{xs:List V},RvAll K H (bs.map D.str) xs->xs=bs.map V.str|[],xs,h=>h.nil|b::bs,xs,h=>by obtain⟨y,ys,rfl,h1,h2⟩:=h.cons;rw[h1.str,h2.strs];rfl
theorem DD:∀(bs:List Int),RvAll K H (bs.map D.int) (bs.map V.int)|[]=>br|b::bs=>aI (aO b)<|DD bs
theorem vI:∀(bs:List Str),RvAll K H (bs.map D.str) (bs.map V.str)|[]=>br|b::bs=>aI (jm b)<|vI bs
def bX{κ:Type}(K:Frag)(H:Hp):List (κ×D)->List (κ×V)->Prop:=Paired λp q=>p.1=q.1/\Rv K H p.2 q.2
theorem bX.ts(s:Kp K H H'):∀{ks:List (κ×D)}{vs:List (κ×V)},bX K H ks vs->bX K H' ks vs|_,_,.nil=>.nil|_,_,.cons r t=>.cons {r.1,Rv.ts s _ r.2}<|bX.ts s t
theorem bX.look(h:bX K H ks vs)(f:Str):(∀d,ks.lookup f=some d->∃v,vs.lookup f=some v/\Rv K H d v)/\(ks.lookup f=none->vs.lookup f=none):=by induction h with|nil=>(exact{λd e=>(by cases e),λ_=>rfl})|@cons a b l m r t ih=>obtain⟨k,d⟩:=a;obtain⟨k',v⟩:=b;obtain⟨rfl,r⟩:=r;simp only[yf];cases q:f==k with|true=>(exact{λd' e=>{v,rfl,(by cases e;exact r)},λe=>(by cases e)})|false=>exact ih
end
set_option genInjectivity true in
set_option genSizeOfSpec true in
inductive Ce where
 |lst (ds:List D)|c_ (kvs:List<|Key×D)|ins (c:Addr) (fs:List<|Str×D)|well|exc (c:Addr)|tab (q:Str)
def DF(H:Hp)(q:Str)(ps:Array Value):Prop:=TriplesOk ps.toList/\∀pos cv,codeAmong pos ps.toList=some cv->∃c o vs t,cv=.ref c/\H c=some (.k_ o<|.own 0)/\o.data=.fields vs/\vs[1]?=some (.str q t)
abbrev aw:=Addr->Option Ce
noncomputable def aw.set(S:aw)(a:Addr)(c:Ce):aw:=λb=>if b=a then some c else S b
theorem aa{S:aw}{a:Addr}{c:Ce} : S.set a c a=some c:=by unfold aw.set;rw[if_pos rfl]
theorem ag{S:aw}{a b:Addr}{c:Ce}(h:b≠a):S.set a c b=S b:=by unfold aw.set;rw[if_neg h]
theorem cF{S:aw}{a:Addr}{c e:Ce} : (S.set a c).set a e=S.set a e:=by funext b;unfold aw.set;split<;>rfl
theorem gx{S:aw}{a b:Addr}{c:Ce}(h:S a=some c)(h':S b=none):a≠b:=by intro e;subst e;rw[h]at h';cases h'
def Rc(K:Frag)(H:Hp)(a:Addr):Ce->Prop|.lst ds=>∃xs,H a=some (.lst xs)/\RvAll K H ds xs|.c_ kvs=>∃vs,H a=some (.dK vs)/\bX K H kvs vs|.ins c fs=>∃dx vs,H a=some (.ins c dx vs)/\bX K H fs vs|.well=>∃x y z:Int,H a=some (.lst [.int x,.int y,.int z])|.exc c=>H a=some (XZ a<|.ref c)|.tab q=>∃ps,H a=some (.qo ps)/\DF H q ps
def Rs(K:Frag)(S:aw)(H:Hp):Prop:=∀a c,S a=some c->Rc K H a c
section
variable{K:Frag}{H H':Hp}{S:aw}{a b:Addr}{c:Ce}
theorem Rc.has(h:Rc K H a c):∃o,H a=some o/\(∀xs,o≠.tup xs)/\∀u v,o≠.k_ u v:=by cases c with|lst ds=>(obtain⟨xs,e,_⟩:=h;exact{_,e,λ_=>nofun,λ_ _=>nofun})|c_ ds=>(obtain⟨xs,e,_⟩:=h;exact{_,e,λ_=>nofun,λ_ _=>nofun})|ins c fs=>(obtain⟨dx,vs,e,_⟩:=h;exact{_,e,λ_=>nofun,λ_ _=>nofun})|well=>(obtain⟨x,y,z,e⟩:=h;exact{_,e,λ_=>nofun,λ_ _=>nofun})|exc c=>exact{_,h,λ_=>nofun,λ_ _=>nofun}|tab q=>obtain⟨ps,e,_⟩:=h;exact{_,e,λ_=>nofun,λ_ _=>nofun}
theorem Rc.keep(h:Rc K H a c)(e:∀o,H a=some o->H' a=some o)(s:Kp K H H'):Rc K H' a c:=by cases c with|lst ds=>(obtain⟨xs,e1,r⟩:=h;exact{xs,e _ e1,RvAll.ts s _ r})|c_ ds=>(obtain⟨xs,e1,r⟩:=h;exact{xs,e _ e1,r.ts s})|ins c fs=>(obtain⟨dx,vs,e1,r⟩:=h;exact{dx,vs,e _ e1,r.ts s})|well=>(obtain⟨x,y,z,e1⟩:=h;exact{x,y,z,e _ e1})|exc c=>exact e _ h|tab q=>obtain⟨ps,e1,r,r2⟩:=h;exact{ps,e _ e1,r,λpos cv z=>by obtain⟨c,o,vs,t,z1,z2,z3⟩:=r2 pos cv z;exact{c,o,vs,t,z1,s.f _ _ _ z2,z3}}
theorem Rs.fresh(h:Rs K S H)(e:H a=none):S a=none:=by cases q:S a with|none=>rfl|some c=>obtain⟨o,e1,_⟩:=(h a c q).has;rw[e]at e1;cases e1
theorem Rs.new(h:Rs K S H)(e:H a=none){o:HO}(r:Rc K (upd H a o) a c):Rs K (S.set a c) (upd H a o):=λb x hb=>by by_cases q:b=a;subst q;rw[aa]at hb;cases hb;exact r;rw[ag q]at hb;exact(h b x hb).keep (λo e1=>by rw[ax q];exact e1)<|Kp.new e
theorem Rs.grow(h:Rs K S H)(e:H a=none):Rs K S (upd H a o):=λb x hb=>by obtain⟨u,e1,_⟩:=(h b x hb).has;have q:b≠a:=aC e1 e;exact(h b x hb).keep (λo e1=>by rw[ax q];exact e1)<|Kp.new e
theorem Rs.ik(h:Rs K S H)(ha:S a=some e):Kp K H (upd H a o):=by obtain⟨u,e1,n1,n2⟩:=(h a e ha).has;exact Kp.put e1 n1 n2
theorem Rs.put(h:Rs K S H){e:Ce}(ha:S a=some e){o:HO}(r:Rc K (upd H a o) a c):Rs K (S.set a c) (upd H a o):=λb x hb=>by by_cases q:b=a;subst q;rw[aa]at hb;cases hb;exact r;rw[ag q]at hb;exact(h b x hb).keep (λo e1=>by rw[ax q];exact e1)<|h.ik ha
theorem Rs.lst(h:Rs K S H)(e:S a=some (.lst ds)):∃xs,H a=some (.lst xs)/\RvAll K H ds xs:=h a _ e
theorem Rs.c_(h:Rs K S H)(e:S a=some (.c_ ds)):∃xs,H a=some (.dK xs)/\bX K H ds xs:=h a _ e
theorem Rs.ins{c:Addr}{fs:List<|Str×D}(h:Rs K S H)(e:S a=some (.ins c fs)):∃dx vs,H a=some (.ins c dx vs)/\bX K H fs vs:=h a _ e
end
abbrev KD:=D->aw->Prop
abbrev KX:=Addr->aw->Prop
abbrev SD:=List<|Option D
def ip(K:Frag)(H:Hp):SD->St->Prop:=Paired λ(o:Option D)(u:Option V)=>∀d,o=some d->∃v,u=some v/\Rv K H d v
section
variable{K:Frag}{H H':Hp}
theorem ip.ts(s:Kp K H H'):∀{σ:SD}{τ:St},ip K H σ τ->ip K H' σ τ|_,_,.nil=>.nil|_,_,.cons r t=>.cons (λd e=>by obtain⟨v,e1,r1⟩:=r d e;exact{v,e1,Rv.ts s _ r1})<|ip.ts s t
theorem ip.get:∀{σ:SD}{τ:St}{i:Nat}{d:D},ip K H σ τ->σ[i]?=some (some d)->∃v,τ[i]?=some (some v)/\Rv K H d v|_,_,i,d,.nil,e=>by simp at e|_,_,0,d,.cons r t,e=>(by simp at e;obtain⟨v,e1,r1⟩:=r d e;exact{v,by simp[e1],r1})|_,_,i+1,d,.cons r t,e=>by obtain⟨v,e1,r1⟩:=ip.get (i:=i) t (by simpa using e);exact{v,by simpa using e1,r1}
theorem ip.set:∀{σ:SD}{τ:St}(i:Nat){d:D}{v:V},ip K H σ τ->Rv K H d v->ip K H (σ.set i<|some d) (τ.set i<|some v)|_,_,i,d,v,.nil,r=>.nil|_,_,0,d,v,.cons r t,q=>(.cons (λd' e=>by cases e;exact⟨v,rfl,q⟩) t)|_,_,i+1,d,v,.cons r t,q=>.cons r<|ip.set i t q
theorem rl:∀(n:Nat)(τ:St),τ.length=n->ip K H (List.replicate n none) τ|0,[],_=>.nil|n+1,_::τ,h=>.cons (λd e=>by cases e)<|rl n τ<|by simpa using h
theorem rm:∀{ds:List D}{vs:List V},RvAll K H ds vs->ip K H (ds.map some) (vs.map some)|[],vs,h=>by rw[h.nil];exact .nil|d::ds,vs,h=>by obtain⟨y,ys,rfl,h1,h2⟩:=h.cons;exact .cons (λd' e=>by cases e;exact⟨y,rfl,h1⟩)<|rm h2
theorem ip.app:∀{σ aB:SD}{τ Rk:St},ip K H σ τ->ip K H aB Rk->ip K H (σ++aB) (τ++Rk)|_,_,_,_,.nil,h=>h|_,_,_,_,.cons r t,h=>.cons r<|ip.app t h
end
structure Rdy(Y:Cx)(E:St->XK)(b:Bool):Prop where
 call:∀p2 τ H s e s',Inv Y p2 τ H s->fN Y.prog Y.w Y.mg Y.stack H s (E τ) e s'->Y.xe e s'
 own:b=true->∀p2 τ H s h' a cls args,Inv Y p2 τ H s->Heap.MadeExcOf s.heap h' a cls args->E τ cls none H->Y.xe (.ref a) {s with heap:=h'}
 loop:b=true->PassesOwn (model Y.prog Y.w) Y.A Y.env Y.xe
structure Ev(X:Cx)(b:Bool) where
 pn:List (Addr×Obj)
 xe:Value->Shared->Prop
 E:St->XK
 ok:Rdy {X with pn:=pn,xe:=xe} E b
noncomputable abbrev Ev.cx{X:Cx}{b:Bool}(y:Ev X b):Cx:={X with pn:=y.pn,xe:=y.xe}
def Cn(K:Frag)(H:Hp)(R:KD)(Q:VK):Prop:=∀d S v H',R d S->Rv K H' d v->Rs K S H'->Kp K H H'->Q v H'
def Fl(K:Frag)(H:Hp)(Z:KX)(e:XK):Prop:=∀C S H',Z C S->Rs K S H'->Kp K H H'->e (.ref C) none H'
theorem Cn.kp{K:Frag}{H H1:Hp}{R:KD}{Q:VK}(h:Cn K H R Q)(k:Kp K H H1):Cn K H1 R Q:=λd S v H' r v1 s1 k1=>h d S v H' r v1 s1<|k.trans k1
theorem Fl.kp{K:Frag}{H H1:Hp}{Z:KX}{e:XK}(h:Fl K H Z e)(k:Kp K H H1):Fl K H1 Z e:=λC S H' r s1 k1=>h C S H' r s1<|k.trans k1
abbrev TD:=SD->aw->KD->KX->Prop
def T(K:Frag)(E:St->XK)(t:TD):TE:=λτ H Q=>∃σ S R Z,ip K H σ τ/\Rs K S H/\t σ S R Z/\Cn K H R Q/\Fl K H Z (E τ)
structure DE(K:Frag)(X:Cx)(e:Expr)(t:TD):Prop where
 of:∀{b:Bool}(y:Ev X b),PE y.cx e<|T K y.E t
abbrev l8:=SD->aw->(Bool->aw->Prop)->KX->Prop
def V5(K:Frag)(H:Hp)(R:Bool->aw->Prop)(Q:Bool->Hp->Prop):Prop:=∀b S H',R b S->Rs K S H'->Kp K H H'->Q b H'
theorem V5.kp{K:Frag}{H H1:Hp}{R:Bool->aw->Prop}{Q:Bool->Hp->Prop}(h:V5 K H R Q)(k:Kp K H H1):V5 K H1 R Q:=λd S H' r s1 k1=>h d S H' r s1<|k.trans k1
def Tt(K:Frag)(E:St->XK)(t:l8):TT:=λτ H Q=>∃σ S R Z,ip K H σ τ/\Rs K S H/\t σ S R Z/\V5 K H R Q/\Fl K H Z (E τ)
structure DT(K:Frag)(X:Cx)(e:Expr)(t:l8):Prop where
 of:∀{b:Bool}(y:Ev X b),PT y.cx e<|Tt K y.E t
abbrev iS:=SD->aw->(List D->aw->Prop)->KX->Prop
def CnA(K:Frag)(H:Hp)(R:List D->aw->Prop)(Q:List V->Hp->Prop):Prop:=∀ds S vs H',R ds S->RvAll K H' ds vs->Rs K S H'->Kp K H H'->Q vs H'
def Ta(K:Frag)(E:St->XK)(t:iS):TA:=λτ H Q=>∃σ S R Z,ip K H σ τ/\Rs K S H/\t σ S R Z/\CnA K H R Q/\Fl K H Z (E τ)
structure DA(K:Frag)(X:Cx)(es:List Expr)(t:iS):Prop where
 of:∀{b:Bool}(y:Ev X b),PA y.cx es<|Ta K y.E t
theorem PE.mono{t t':TE}(h:PE X e t)(i:∀τ H Q,t' τ H Q->t τ H Q):PE X e t':=λpins s τ H Q I q=>h pins s τ H Q I<|i τ H Q q
theorem PT.mono{t t':TT}(h:PT X e t)(i:∀τ H Q,t' τ H Q->t τ H Q):PT X e t':=λpins s τ H Q I q=>h pins s τ H Q I<|i τ H Q q
theorem PA.mono{t t':TA}(h:PA X e t)(i:∀τ H Q,t' τ H Q->t τ H Q):PA X e t':=λpos pins s τ H Q I q=>h pos pins s τ H Q I<|i τ H Q q
section
variable{K:Frag}{X:Cx}
inductive Tz (i:Nat) (σ:SD) (S:aw) (R:KD):Prop where
 |mk (d:D) (h:σ[i]?=some (some d)) (r:R d S)
def TB(i:Nat):TD:=λσ S R _=>Tz i σ S R
inductive Rl (x:D) (S:aw) (R:Bool->aw->Prop):Prop where
 |mk (b:Bool) (h:x=.bl b) (r:R b S)
def dC(d:D):TD:=λ_ S R _=>R d S
theorem dv(i:Nat)(hN:autoParam (X.N[i]?=some x) qQJ)(hv:NV X.env.scope x:=by first|exact Or.inl rfl|exact Or.inr (Or.inl rfl)|exact Or.inr (Or.inr rfl))(hd:autoParam ((x==("__debug__": Str))=false) qQZ) (s_:autoParam ((x==("__classdict__": Str))=false) qQZ):DE K X (.Name x pos) (TB i):=⟨λy=>(N1 (X:=y.cx) hN hv hd s_).mono <| by rintro τ H Q ⟨σ,S,R,Z,aA,hS,⟨d,e,r⟩,hR,_⟩;exact by obtain⟨v,e1,rv⟩:=aA.get e;exact{v,e1,hR d S v H r rv hS<|Kp.refl _}⟩
theorem DE.const(h:∀Y:Cx,Y.env=X.env->Y.mg=X.mg->PE Y e (tC v))(r:∀H,Rv K H d v):DE K X e (dC d):=⟨λy=>(h y.cx rfl rfl).mono <| by rintro τ H Q ⟨σ,S,R,Z,aA,hS,q,hR,_⟩;exact hR d S v H q (r H) hS<|Kp.refl _⟩
theorem di:DE K X (.Constant (.int i) j pos) (dC<|.int i):=.const (λ_ _ _=>N2) λ_=>aO i
theorem ds:DE K X (.Constant (.str i) j pos) (dC<|.str i):=.const (λ_ _ _=>N4) λ_=>jm i
theorem db:DE K X (.Constant (.bool i) j pos) (dC<|.bl i):=.const (λ_ _ _=>MG) λ_=>cw i
theorem dn:DE K X (.Constant .none j pos) (dC .au):=.const (λ_ _ _=>N3) λ_=>dE
theorem dg(hm:X.mg x=some u)(r:RelV v u)(rd:∀H,Rv K H d v)(hg:autoParam (Gl X x) qQJ)(hd:autoParam ((x==("__debug__": Str))=false) qQZ):DE K X (.Name x pos) (dC d):=.const (λY e1 e2=>Dh (X:=Y) (u:=u) (show Y.env.kindOf x=_ by rw[e1];exact hg) (by rw[e2];exact hm) r hd) rd
theorem qx(hm:X.mg x=none)(hv:bootBuiltins x=some (.type n))(hg:autoParam (Gl X x) qQJ)(hn:autoParam (x≠"__name__") qQZ)(hd:autoParam ((x==("__debug__": Str))=false) qQZ):DE K X (.Name x pos) (dC<|.ty n):=.const (λY e1 e2=>J_ (X:=Y) (v:=.ty n) (show Y.env.kindOf x=_ by rw[e1];exact hg) (by rw[e2];exact hm) hv rfl hn hd) λ_=>Tx n
def Lh:iS:=λ_ S R _=>R [] S
def M0(t:TD)(u:iS):iS:=λσ S R Z=>t σ S (λd S1=>u σ S1 (λds S2=>R (d::ds) S2) Z) Z
theorem an:DA K X [] Lh:=⟨λy=>(Bu (X:=y.cx)).mono <| by rintro τ H Q ⟨σ,S,R,Z,aA,hS,q,hR,_⟩;exact hR [] S [] H q br hS<|Kp.refl _⟩
theorem ac{t:TD}(h:DE K X e t)(hr:DA K X es u)(hp:autoParam (isPlain e=true) qQJ):DA K X (e::es) (M0 t u):=
 ⟨λy=>(XU (h.of y) (hr.of y) hp).mono <| by rintro τ H Q ⟨σ,S,R,Z,aA,hS,q,hR,hZ⟩;exact
  ⟨σ,S,_,Z,aA,hS,q,λd S1 x H1 r1 v1 s1 k1=>⟨σ,S1,_,Z,aA.ts k1,s1,r1,λds S2 xs H2 r2 v2 s2 k2=>hR (d::ds) S2 (x::xs) H2 r2 (aI (Rv.ts k2 _ v1) v2) s2<|k1.trans k2,hZ.kp k1⟩,hZ⟩⟩
abbrev vJ:=D->D->aw->KD->Prop
theorem al{x:Str}{pos:Pos}(i:Nat)(hr:DA K X es u)(hN:autoParam (X.N[i]?=some x) qQJ)(hv:NV X.env.scope x:=by first|exact Or.inl rfl|exact Or.inr (Or.inl rfl)|exact Or.inr (Or.inr rfl))(hd:autoParam ((x==("__debug__": Str))=false) qQZ) (s_:autoParam ((x==("__classdict__": Str))=false) qQZ):DA K X (.Name x pos::es) (M0 (TB i) u):=ac (dv i hN hv hd s_) hr rfl
def Lr(K:Frag)(r:vJ):R2:=λx y H Q=>∃d e S R,Rv K H d x/\Rv K H e y/\Rs K S H/\r d e S R/\Cn K H R Q
def qy(K:Frag)(f:Value->Value->Sem Value)(r:vJ):Prop:=∀X:Cx,X.K=K->X.A.units+64<cLine->ia X f (Lr K r)
def Po(r:vJ)(ta tb:TD):TD:=λσ S R Z=>ta σ S (λx S1=>tb σ S1 (λy S2=>r x y S2 R) Z) Z
theorem T.op(h:T K E (Po r ta tb) τ H Q):Q3 (Lr K r) (T K E ta) (T K E tb) τ H Q:=by obtain⟨σ,S,R,Z,aA,hS,q,hR,hZ⟩:=h;exact{σ,S,_,Z,aA,hS,q,λd S1 x H1 r1 v1 s1 k1=>{σ,S1,_,Z,aA.ts k1,s1,r1,λe S2 y H2 r2 v2 s2 k2=>{d,e,S2,R,Rv.ts k2 _ v1,v2,s2,r2,hR.kp<|k1.trans k2},hZ.kp k1},hZ}
theorem bo(ho:qy K (binaryOp op) r)(hu:X.A.units+64<cLine)(ha:DE K X a ta)(hb:DE K X b tb)(hK:autoParam (X.K=K) qQJ):DE K X (.BinOp a op b pos) (Po r ta tb):=⟨λy=>(Se (ho y.cx hK hu) (ha.of y)<|hb.of y).mono λ_ _ _ h=>h.op⟩
theorem cm(ho:qy K (compareOp op) r)(hu:X.A.units+64<cLine)(ha:DE K X a ta)(hb:DE K X b tb)(hm:autoParam (behindInMarks op b=false) qQ2)(hK:autoParam (X.K=K) qQJ):DE K X (.Compare a [op] [b] pos) (Po r ta tb):=⟨λy=>(Dn (ho y.cx hK hu) (ha.of y) (hb.of y) hm).mono λ_ _ _ h=>h.op⟩
def dB(t:TD):l8:=λσ S R Z=>t σ S (λx S1=>Rl x S1 R) Z
theorem Tt.b{t:TD}(h:Tt K E (dB t) τ H Q):T K E t τ H λx H'=>∃k,x=.bl k/\Q k H':=by obtain⟨σ,S,R,Z,aA,hS,q,hR,hZ⟩:=h;exact{σ,S,_,Z,aA,hS,q,by rintro d S1 x H1 ⟨b,e,r1⟩ v1 s1 k1;exact by subst e;exact{b,v1.bl,hR b S1 H1 r1 s1 k1},hZ}
theorem Tt.bop(h:Tt K E (dB<|Po r ta tb) τ H Q):G7 (Q3 (Lr K r) (T K E ta)<|T K E tb) τ H Q:=h.b.op
theorem bj(ho:qy K (compareOp op) r)(hu:X.A.units+64<cLine)(ha:DE K X a ta)(hb:DE K X b tb)(hm:autoParam (behindInMarks op b=false) qQ2)(hK:autoParam (X.K=K) qQJ):DT K X (.Compare a [op] [b] pos) (dB<|Po r ta tb):=⟨λy=>(Kl (ho y.cx hK hu) (ha.of y) (hb.of y) hm).mono λ_ _ _ h=>h.bop⟩
theorem tv{t:TD}(h:DE K X e t)(he:autoParam (∀whole,isTrue e X.env whole=(do let v <-whole;standAt e.pos;holding [v] (truthy v))) qQ0):DT K X e (dB t):=⟨λy=>(N5 (X:=y.cx) (h.of y) he).mono λ_ _ _ h=>h.b⟩
def BY(r r':vJ)(ta tb tc:TD):TD:=λσ S R Z=>ta σ S (λx S1=>tb σ S1 (λy S2=>r x y S2 λz S3=>Rl z S3 λk S3=>if k=true then tc σ S3 (λw S4=>r' y w S4 R) Z else R (.bl false) S3) Z) Z
theorem T.chain(h:T K E (BY r r' ta tb tc) τ H Q):Bl (Lr K r) (Lr K r') (T K E ta) (T K E tb) (T K E tc) τ H Q:=by obtain⟨σ,S,R,Z,aA,hS,q,hR,hZ⟩:=h;refine{σ,S,_,Z,aA,hS,q,λd S1 x H1 r1 v1 s1 k1=>{σ,S1,_,Z,aA.ts k1,s1,r1,λe S2 y H2 r2 v2 s2 k2=>{d,e,S2,_,Rv.ts k2 _ v1,v2,s2,r2,λz S3 v H3 r3 v3 s3 k3=>?_},hZ.kp k1},hZ};obtain⟨k,rfl,r3⟩:=r3;refine{k,v3.bl,?_};cases k with|true=>rw[if_pos rfl]at r3⊢;exact{σ,S3,_,Z,((aA.ts k1).ts k2).ts k3,s3,r3,λw S4 wv H4 r4 v4 s4 k4=>{e,w,S4,R,Rv.ts (k3.trans k4) _ v2,v4,s4,r4,hR.kp<|((k1.trans k2).trans k3).trans k4},hZ.kp<|(k1.trans k2).trans k3}|false=>rw[if_neg ze]at r3⊢;exact hR _ S3 _ H3 r3 (cw false) s3<|(k1.trans k2).trans k3
theorem cc(ho:qy K (compareOp op) r)(Bf:qy K (compareOp ER) r')(hu:X.A.units+64<cLine)(ha:DE K X a ta)(hb:DE K X b tb)(hc:DE K X c tc) (hm:autoParam (lastMarks [op,ER] [b,c]=false) qQ2) (hK:autoParam (X.K=K) qQJ):DE K X (.Compare a [op,ER] [b,c] pos) (BY r r' ta tb tc):=⟨λy=>(G8 (ho y.cx hK hu) (Bf y.cx hK hu) (ha.of y) (hb.of y) (hc.of y) hm).mono λ_ _ _ h=>h.chain⟩
theorem V6(ho:qy K (compareOp op) r)(Bf:qy K (compareOp ER) r')(hu:X.A.units+64<cLine)(ha:DE K X a ta)(hb:DE K X b tb)(hc:DE K X c tc) (hm:autoParam (lastMarks [op,ER] [b,c]=false) qQ2) (hK:autoParam (X.K=K) qQJ):DT K X (.Compare a [op,ER] [b,c] pos) (dB<|BY r r' ta tb tc):=⟨λy=>(G9 (ho y.cx hK hu) (Bf y.cx hK hu) (ha.of y) (hb.of y) (hc.of y) hm).mono λ_ _ _ h=>h.b.chain⟩
def TC(ta tb:TD):TD:=λσ S R Z=>ta σ S (λx S1=>Rl x S1 λc S1=>if c=true then tb σ S1 R Z else R (.bl false) S1) Z
def Yb(ta tb:TD):TD:=λσ S R Z=>ta σ S (λx S1=>Rl x S1 λc S1=>if c=true then R (.bl true) S1 else tb σ S1 R Z) Z
def TF(ta:TD):TD:=λσ S R Z=>ta σ S (λx S1=>Rl x S1 λc S1=>R (.bl<|!c) S1) Z
theorem Fm{t:TD}(h:DE K X a t):DE K X (.BoolOp op [a] pos) t:=⟨λy=>N7<|h.of y⟩
theorem pV{a b:Expr}{rest:List Expr}{ta tb:TD}{pos:Pos}(ha:DE K X a ta)(hb:DE K X (.BoolOp .And (b::rest) pos) tb):DE K X (.BoolOp .And (a::b::rest) pos) (TC ta tb):=
 ⟨λy=>(N8 (ha.of y)<|hb.of y).mono <| by rintro τ H Q ⟨σ,S,R,Z,aA,hS,q,hR,hZ⟩;exact
  ⟨σ,S,_,Z,aA,hS,q,by
   rintro d S1 x H1 ⟨c,e,r1⟩ v1 s1 k1
   subst e
   refine{c,v1.bl,?_}
   cases c with
   |true=>rw[if_pos rfl]at r1⊢;exact{σ,S1,R,Z,aA.ts k1,s1,r1,hR.kp k1,hZ.kp k1}
   |false=>rw[if_neg ze]at r1⊢;exact hR _ S1 _ H1 r1 (cw false) s1 k1,hZ⟩⟩
theorem eor{a b:Expr}{rest:List Expr}{ta tb:TD}{pos:Pos}(ha:DE K X a ta)(hb:DE K X (.BoolOp .Or (b::rest) pos) tb):DE K X (.BoolOp .Or (a::b::rest) pos) (Yb ta tb):=
 ⟨λy=>(R4 (ha.of y)<|hb.of y).mono <| by rintro τ H Q ⟨σ,S,R,Z,aA,hS,q,hR,hZ⟩;exact
  ⟨σ,S,_,Z,aA,hS,q,by
   rintro d S1 x H1 ⟨c,e,r1⟩ v1 s1 k1
   subst e
   refine{c,v1.bl,?_}
   cases c with
   |false=>rw[if_neg ze]at r1⊢;exact{σ,S1,R,Z,aA.ts k1,s1,r1,hR.kp k1,hZ.kp k1}
   |true=>rw[if_pos rfl]at r1⊢;exact hR _ S1 _ H1 r1 (cw true) s1 k1,hZ⟩⟩
theorem Li(ha:DE K X a ta):DE K X (.UnaryOp .Not a pos) (TF ta):=
 ⟨λy=>(N9<|ha.of y).mono <| by rintro τ H Q ⟨σ,S,R,Z,aA,hS,q,hR,hZ⟩;exact
  ⟨σ,S,_,Z,aA,hS,q,by rintro d S1 x H1 ⟨c,e,r1⟩ v1 s1 k1;exact by subst e;exact⟨c,v1.bl,hR _ S1 _ H1 r1 (cw _) s1 k1⟩,hZ⟩⟩
def Yc(t:l8):l8:=λσ S R Z=>t σ S (λc S1=>R (!c) S1) Z
def Yd(t u:l8):l8:=λσ S R Z=>t σ S (λc S1=>if c=true then u σ S1 R Z else R false S1) Z
def dOr(t u:l8):l8:=λσ S R Z=>t σ S (λc S1=>if c=true then R true S1 else u σ S1 R Z) Z
theorem cy{t:l8}(ha:DT K X a t):DT K X (.UnaryOp .Not a pos) (Yc t):=⟨λy=>(N6<|ha.of y).mono <| by rintro τ H Q ⟨σ,S,R,Z,aA,hS,q,hR,hZ⟩;exact{σ,S,_,Z,aA,hS,q,λc S1 H1 r1 s1 k1=>hR _ S1 H1 r1 s1 k1,hZ}⟩
structure DW(K:Frag)(X:Cx)(e:Expr)(t:l8):Prop where
 of:∀{b:Bool}(y:Ev X b),PW y.cx e<|Tt K y.E t
theorem PW.mono{t t':TT}(h:PW X e t)(i:∀τ H Q,t' τ H Q->t τ H Q):PW X e t':=λwh pins s τ H Q I q=>h wh pins s τ H Q I<|i τ H Q q
theorem twd{t:l8}(h:DW K X e t):DT K X e t:=⟨λy=>(h.of y).pt⟩
theorem tw1{t:l8}(h:DT K X a t):DW K X (.BoolOp op [a] pos) t:=⟨λy=>by cases op with|And=>exact pw_and1 (h.of y)|Or=>exact pw_or1<|h.of y⟩
theorem twand{a b:Expr}{rest:List Expr}{t u:l8}{pos:Pos}(ha:DT K X a t)(hb:DW K X (.BoolOp .And (b::rest) pos) u):DW K X (.BoolOp .And (a::b::rest) pos) (Yd t u):=
 ⟨λy=>(pw_and (ha.of y)<|hb.of y).mono <| by rintro τ H Q ⟨σ,S,R,Z,aA,hS,q,hR,hZ⟩;exact
  ⟨σ,S,_,Z,aA,hS,q,λc S1 H1 r1 s1 k1=>by
   cases c with
   |true=>rw[if_pos rfl]at r1⊢;exact{σ,S1,R,Z,aA.ts k1,s1,r1,hR.kp k1,hZ.kp k1}
   |false=>rw[if_neg ze]at r1⊢;exact hR _ S1 H1 r1 s1 k1,hZ⟩⟩
theorem twor{a b:Expr}{rest:List Expr}{t u:l8}{pos:Pos}(ha:DT K X a t)(hb:DW K X (.BoolOp .Or (b::rest) pos) u):DW K X (.BoolOp .Or (a::b::rest) pos) (dOr t u):=
 ⟨λy=>(pw_or (ha.of y)<|hb.of y).mono <| by rintro τ H Q ⟨σ,S,R,Z,aA,hS,q,hR,hZ⟩;exact
  ⟨σ,S,_,Z,aA,hS,q,λc S1 H1 r1 s1 k1=>by
   cases c with
   |false=>rw[if_neg ze]at r1⊢;exact{σ,S1,R,Z,aA.ts k1,s1,r1,hR.kp k1,hZ.kp k1}
   |true=>rw[if_pos rfl]at r1⊢;exact hR _ S1 H1 r1 s1 k1,hZ⟩⟩
def Ye(t:l8)(ta tb:TD):TD:=λσ S R Z=>t σ S (λc S1=>if c=true then ta σ S1 R Z else tb σ S1 R Z) Z
theorem M4{t:l8}(hc:DT K X c t)(ha:DE K X a ta)(hb:DE K X b tb):DE K X (.IfExp c a b pos) (Ye t ta tb):=
 ⟨λy=>(GX (hc.of y) (ha.of y)<|hb.of y).mono <| by rintro τ H Q ⟨σ,S,R,Z,aA,hS,q,hR,hZ⟩;exact
  ⟨σ,S,_,Z,aA,hS,q,λc S1 H1 r1 s1 k1=>by
   cases c with
   |true=>rw[if_pos rfl]at r1⊢;exact{σ,S1,R,Z,aA.ts k1,s1,r1,hR.kp k1,hZ.kp k1}
   |false=>rw[if_neg ze]at r1⊢;exact{σ,S1,R,Z,aA.ts k1,s1,r1,hR.kp k1,hZ.kp k1},hZ⟩⟩
def Yf(t:iS):TD:=λσ S R Z=>t σ S (λds S1=>ds.length<=sizeLine/\∀p,S1 p=none->R (.ref p) (S1.set p<|.lst ds)) Z
def Yg(t:iS):TD:=λσ S R Z=>t σ S (λds S1=>ds.length<=sizeLine/\R (.tup ds) S1) Z
theorem cz{t:iS}(h:DA K X es t):DE K X (.List es pos) (Yf t):=
 ⟨λy=>(OD<|h.of y).mono <| by rintro τ H Q ⟨σ,S,R,Z,aA,hS,q,hR,hZ⟩;exact
  ⟨σ,S,_,Z,aA,hS,q,by rintro ds S1 xs H1 ⟨hl,r1⟩ v1 s1 k1;exact⟨by rw[v1.len];exact hl,λp hp=>hR _ _ _ _ (r1 p<|s1.fresh hp) (ij p) (s1.new hp ⟨xs,aD,RvAll.ts (.new hp) _ v1⟩)<|k1.trans<|.new hp⟩,hZ⟩⟩
theorem bY{t:iS}(h:DA K X es t):DE K X (.Tuple es x1 pos) (Yg t):=
 ⟨λy=>(OC<|h.of y).mono <| by rintro τ H Q ⟨σ,S,R,Z,aA,hS,q,hR,hZ⟩;exact
  ⟨σ,S,_,Z,aA,hS,q,by rintro ds S1 xs H1 ⟨hl,r1⟩ v1 s1 k1;exact⟨by rw[v1.len];exact hl,λp hp=>hR _ _ _ _ r1 (nM aD<|RvAll.ts (.new hp) _ v1) (s1.grow hp)<|k1.trans<|.new hp⟩,hZ⟩⟩
def Yh:TD:=λ_ S R _=>∀p,S p=none->R (.ref p) (S.set p<|.c_ [])
theorem TH:DE K X (.Dict [] [] pos) Yh:=⟨λy=>(Hl (X:=y.cx)).mono <| by rintro τ H Q ⟨σ,S,R,Z,aA,hS,q,hR,hZ⟩ p hp;exact hR _ _ _ _ (q p<|hS.fresh hp) (ij p) (hS.new hp {[],aD,.nil})<|.new hp⟩
def Lc(K:Frag)(r:List D->aw->KD->Prop):List V->Hp->VK->Prop:=λxs H Q=>∃ds S R,RvAll K H ds xs/\Rs K S H/\r ds S R/\Cn K H R Q
def gG(K:Frag)(f:Value)(r:List D->aw->KD->Prop):Prop:=∀X:Cx,X.K=K->X.calm=true->eF X f (Lc K r)
def V7(r:List D->aw->KD->Prop)(t:iS):TD:=λσ S R Z=>t σ S (λds S1=>r ds S1 R) Z
theorem T.cb{t:iS}(h:T K E (V7 r t) τ H Q):Xn (Lc K r) (Ta K E t) τ H Q:=by obtain⟨σ,S,R,Z,aA,hS,q,hR,hZ⟩:=h;exact{σ,S,_,Z,aA,hS,q,λds S1 xs H1 r1 v1 s1 k1=>{ds,S1,R,v1,s1,r1,hR.kp k1},hZ}
theorem cb{x:Str}{id:String}{r:List D->aw->KD->Prop}{e:Expr}{es:List Expr}{t:iS}{p pos:Pos}(hc:gG K (.builtin id) r)(hm:X.mg x=none)(hv:bootBuiltins x=some (.builtin id))(ha:DA K X (e::es) t)(hg:autoParam (Gl X x) qQJ) (hn:autoParam (x≠"__name__") qQZ) (pS:autoParam ((x==("__debug__": Str))=false) qQZ) (he:autoParam (starEach (e::es) X.env=(false,eval e X.env)::starEach es X.env) qQJ) (cU:autoParam ((backTo pos<|starEach es X.env).any (·.1)=false) qQJ) (hK:autoParam (X.K=K) qQJ) (hC:autoParam (X.calm=true) qQJ): DE K X (.Call (.Name x p) (e::es) [] pos) (V7 r t):=⟨λy=>(xE (X:=y.cx) (hc _ hK hC) hg hm hv (ha.of y) hn pS he cU).mono λ_ _ _ h=>h.cb⟩
theorem ct{x:Str}{id:String}{r:List D->aw->KD->Prop}{e:Expr}{es:List Expr}{t:iS}{p pos:Pos}(hc:gG K (.type id) r)(hm:X.mg x=none)(hv:bootBuiltins x=some (.type id))(ha:DA K X (e::es) t)(hg:autoParam (Gl X x) qQJ) (hn:autoParam (x≠"__name__") qQZ) (pS:autoParam ((x==("__debug__": Str))=false) qQZ) (he:autoParam (starEach (e::es) X.env=(false,eval e X.env)::starEach es X.env) qQJ) (cU:autoParam ((backTo pos<|starEach es X.env).any (·.1)=false) qQJ) (hK:autoParam (X.K=K) qQJ) (hC:autoParam (X.calm=true) qQJ): DE K X (.Call (.Name x p) (e::es) [] pos) (V7 r t):=⟨λy=>(uA (X:=y.cx) (hc _ hK hC) hg hm hv (ha.of y) hn pS he cU).mono λ_ _ _ h=>h.cb⟩
end
section
variable{K:Frag}
theorem Cn.now(h:Cn K H R Q)(hS:Rs K S H)(r:R d S)(rv:Rv K H d v):Q v H:=h d S v H r rv hS<|.refl _
theorem Cn.new{H:Hp}{R:KD}{Q:VK}{S:aw}{p:Addr}{ds:List D}{xs:List V}(h:Cn K H R Q)(hS:Rs K S H)(hp:H p=none)(r:S p=none->R (.ref p) (S.set p<|.lst ds))(rv:RvAll K H ds xs):Q (.ref p) (upd H p<|.lst xs):=h _ _ _ _ (r<|hS.fresh hp) (ij p) (hS.new hp {xs,aD,RvAll.ts (.new hp) _ rv})<|.new hp
theorem Cn.TJ{H:Hp}{R:KD}{Q:VK}{S:aw}{p:Addr}{ds:List D}{xs:List V}(h:Cn K H R Q)(hS:Rs K S H)(hp:H p=none)(r:R (.tup ds) S)(rv:RvAll K H ds xs):Q (.ref p) (upd H p<|.tup xs):=h _ _ _ _ r (nM aD<|RvAll.ts (.new hp) _ rv) (hS.grow hp)<|.new hp
theorem Cn.put{H:Hp}{R:KD}{Q:VK}{S:aw}{p:Addr}{ds es:List D}{xs:List V}{d:D}{v:V}(h:Cn K H R Q)(hS:Rs K S H)(hp:S p=some (.lst es))(r:R d<|S.set p<|.lst ds)(rd:Rv K H d v)(rv:RvAll K H ds xs):Q v (upd H p<|.lst xs):=h _ _ _ _ r (Rv.ts (hS.ik hp) _ rd) (hS.put hp {xs,aD,RvAll.ts (hS.ik hp) _ rv})<|hS.ik hp
def xY(S:aw):D->List D->Prop|.ref a,ds=>S a=some (.lst ds)|.j6 es,ds=>es=ds|_,_=>False
theorem xY.at{H:Hp}{S:aw}{d:D}{ds:List D}{v:V}(h:xY S d ds)(hS:Rs K S H)(r:Rv K H d v):∃a xs,v=.ref a/\jf K H a xs/\RvAll K H ds xs:=by cases d with|ref a=>(obtain⟨xs,e,q⟩:=hS.lst h;exact{a,xs,r.ref,.of e,q})|j6 es=>(have h:es=ds:=h;subst h;obtain⟨a,xs,e,q,t⟩:=r.j6;exact⟨a,xs,e,q.sq,t⟩)|_=>exact h.elim
def Yi:vJ:=λx y S R=>match x,y with|.int i,.int j=>R (.int<|i-j) S|_,_=>False
theorem rn:qy K (binaryOp .Sub) Yi:=by rintro X hK hu pins s σ H x y v u Q I rx ry ⟨d,e,S,R,r1,r2,hS,h,hR⟩;cases d<;>cases e<;>first|exact False.elim h|exact Ot pins s σ H x y v u Q I rx ry {_,_,r1.int,r2.int,hR.now hS h<|aO _}
def Yj:vJ:=λx y S R=>match x,y with|.int i,.int j=>Kj i j/\R (.int<|i*j) S|.str z,.int n=>MulOk z n/\R (.str<|PySem.Txt.mul z n) S|_,_=>False
theorem rq:qy K (binaryOp .Mult) Yj:=by rintro X hK hu pins s σ H x y v u Q I rx ry ⟨d,e,S,R,r1,r2,hS,h,hR⟩;cases d<;>cases e<;>first|exact False.elim h|exact Ou pins s σ H x y v u Q I rx ry {_,_,r1.int,r2.int,h.1,hR.now hS h.2<|aO _}|exact BQ pins s σ H x y v u Q I rx ry {_,_,r1.str,r2.int,h.1,hR.now hS h.2<|jm _}
def Yk:vJ:=λx y S R=>match x,y with|.int i,.int j=>0<j/\R (.int<|i%j) S|_,_=>False
theorem bp:qy K (binaryOp .Mod) Yk:=by rintro X hK hu pins s σ H x y v u Q I rx ry ⟨d,e,S,R,r1,r2,hS,h,hR⟩;cases d<;>cases e<;>first|exact False.elim h|exact Ov pins s σ H x y v u Q I rx ry {_,_,r1.int,r2.int,h.1,hR.now hS h.2<|aO _}
def TK:vJ:=λx y S R=>match x,y with|.int i,.int j=>MT i j/\R (.int<|i/j) S|_,_=>False
theorem bR:qy K (binaryOp .FloorDiv) TK:=by rintro X hK hu pins s σ H x y v u Q I rx ry ⟨d,e,S,R,r1,r2,hS,h,hR⟩;cases d<;>cases e<;>first|exact False.elim h|exact Hq pins s σ H x y v u Q I rx ry {_,_,r1.int,r2.int,h.1,hR.now hS h.2<|aO _}
def Yl:vJ:=λx y S R=>match x,y with|.int i,.int j=>Si i j/\R (.int<|i^j.toNat) S|_,_=>False
theorem l9:qy K (binaryOp .Pow) Yl:=by rintro X hK hu pins s σ H x y v u Q I rx ry ⟨d,e,S,R,r1,r2,hS,h,hR⟩;cases d<;>cases e<;>first|exact False.elim h|exact Ow pins s σ H x y v u Q I rx ry {_,_,r1.int,r2.int,h.1,hR.now hS h.2<|aO _}
def HG(f:Int->Int->Bool)(g:Str->Str->Bool):vJ:=λx y S R=>match x,y with|.int i,.int j=>R (.bl<|f i j) S|.str i,.str j=>R (.bl<|g i j) S|_,_=>False
theorem DH(h1:∀X:Cx,ia X (compareOp op)<|Kh λi j=>.bl<|f i j) (h2:∀X:Cx,ia X (compareOp op) λx y H Q=>∃i j,x=.str i/\y=.str j/\Q (.bl<|g i j) H):qy K (compareOp op) (HG f g):=by rintro X hK hu pins s σ H x y v u Q I rx ry ⟨d,e,S,R,r1,r2,hS,h,hR⟩;cases d<;>cases e<;>first|exact False.elim h|exact h1 X pins s σ H x y v u Q I rx ry {_,_,r1.int,r2.int,hR.now hS h<|cw _}|exact h2 X pins s σ H x y v u Q I rx ry {_,_,r1.str,r2.str,hR.now hS h<|cw _}
theorem pW:qy K (compareOp .Lt) (HG (λi j=>decide<|i<j) λi j=>nJ i j):=DH (λ_=>Sk) λ_=>EN
theorem jn:qy K (compareOp .LtE) (HG (λi j=>decide<|i<=j) λi j=>GK i j):=DH (λ_=>Sl) λ_=>E8
theorem pX:qy K (compareOp .Gt) (HG (λi j=>decide<|j<i) λi j=>nJ j i):=DH (λ_=>Sm) λ_=>E_
theorem Ym:qy K (compareOp .GtE) (HG (λi j=>decide<|j<=i) λi j=>GK j i):=DH (λ_=>Sn) λ_=>E9
noncomputable def ah:D->Bool|.au=>true|_=>false
theorem xZ(r:Rv K H d v):decide (v=.au)=ah d:=by cases d with|au=>rw[r.au];rfl|bl b=>rw[r.bl];rfl|int b=>rw[r.int];rfl|str b=>rw[r.str];rfl|ref b=>rw[r.ref];rfl|ty b=>rw[r.ty];rfl|tup b=>(obtain⟨a,xs,rfl,_⟩:=r.tup;rfl)|j6 b=>(obtain⟨a,xs,rfl,_⟩:=r.j6;rfl)|kt b=>obtain⟨a,xs,rfl,_⟩:=r.kt;rfl
def Yn:vJ:=λx y S R=>match y with|.au=>R (.bl<|ah x) S|_=>False
def TL:vJ:=λx y S R=>match y with|.au=>R (.bl<|!ah x) S|_=>False
theorem eP:qy K (compareOp .Is) Yn:=by rintro X hK hu pins s σ H x y v u Q I rx ry ⟨d,e,S,R,r1,r2,hS,h,hR⟩;cases e<;>first|exact False.elim h|exact Oy pins s σ H x y v u Q I rx ry {r2.au,by rw[xZ r1];exact hR.now hS h<|cw _}
theorem nN:qy K (compareOp .IsNot) TL:=by rintro X hK hu pins s σ H x y v u Q I rx ry ⟨d,e,S,R,r1,r2,hS,h,hR⟩;cases e<;>first|exact False.elim h|exact Kk pins s σ H x y v u Q I rx ry {r2.au,by rw[xZ r1];exact hR.now hS h<|cw _}
mutual
def Dp(S:aw):D->PyData->Prop|.au,p=>p=.none|.bl b,p=>p=.bool b|.int i,p=>p=.int i|.str z,p=>p=.str z|.tup ds,p=>∃ps,p=.tuple ps/\DpAll S ds ps|.j6 ds,p=>∃ps,p=.list ps/\DpAll S ds ps|.kt _,_=>False|.ref _,_=>False|.ty _,_=>False
def DpAll(S:aw):List D->List PyData->Prop|[],ps=>ps=[]|d::ds,ps=>∃q qs,ps=q::qs/\Dp S d q/\DpAll S ds qs
end
mutual
theorem Dp.dt:∀(d:D){p:PyData}{v:V},Dp S d p->Rv K H d v->Dt K H p v|.au,p,v,h,r=>by simp only[Dp]at h;subst h;simp only[Dt];exact r.au|.bl b,p,v,h,r=>by simp only[Dp]at h;subst h;simp only[Dt];exact r.bl|.int b,p,v,h,r=>by simp only[Dp]at h;subst h;simp only[Dt];exact r.int|.str b,p,v,h,r=>by simp only[Dp]at h;subst h;simp only[Dt];exact r.str|.tup ds,p,v,h,r=>(by simp only[Dp]at h;obtain⟨ps,rfl,h⟩:=h;obtain⟨a,xs,rfl,q,t⟩:=r.tup;simp only[Dt];exact{a,xs,rfl,.of q,DpAll.dt ds h t})|.j6 ds,p,v,h,r=>(by simp only[Dp]at h;obtain⟨ps,rfl,h⟩:=h;obtain⟨a,xs,rfl,q,t⟩:=r.j6;simp only[Dt];exact{a,xs,rfl,q.sq,DpAll.dt ds h t})|.kt a,p,v,h,r=>by simp only[Dp]at h|.ref a,p,v,h,r=>by simp only[Dp]at h|.ty a,p,v,h,r=>by simp only[Dp]at h
theorem DpAll.dt:∀(ds:List D){ps:List PyData}{vs:List V},DpAll S ds ps->RvAll K H ds vs->DtAll K H ps vs|[],ps,vs,h,r=>by simp only[DpAll]at h;subst h;rw[r.nil];simp only[DtAll]|d::ds,ps,vs,h,r=>by simp only[DpAll]at h;obtain⟨q,qs,rfl,h1,h2⟩:=h;obtain⟨y,ys,rfl,r1,r2⟩:=r.cons;simp only[DtAll];exact{y,ys,rfl,Dp.dt d h1 r1,DpAll.dt ds h2 r2}
end
def Dl(S:aw):D->PyData->Prop|.ref a,p=>∃ds ps,S a=some (.lst ds)/\p=.list ps/\DpAll S ds ps|d,p=>Dp S d p
theorem Dl.dt(h:Dl S d p)(hS:Rs K S H)(r:Rv K H d v):Dt K H p v:=by cases d with|ref a=>(obtain⟨ds,ps,e,rfl,h⟩:=h;obtain⟨xs,e1,t⟩:=hS.lst e;rw[r.ref];simp only[Dt];exact{a,xs,rfl,.of e1,DpAll.dt ds h t})|_=>exact Dp.dt _ h r
def DJ(neg:Bool):vJ:=λx y S R=>match x,y with|.int i,.int j=>(R (.bl<|if neg then !decide (i=j) else decide (i=j)) S)|.str i,.str j=>(R (.bl<|if neg then !decide (i=j) else decide (i=j)) S)|x,y=>∃p q,Dl S x p/\Dl S y q/\p.canLay0=true/\q.canLay0=true/\(p.depth<=64\/q.depth<=64)/\R (.bl<|if neg then !PyData.eqv p q else PyData.eqv p q) S
theorem HH(h:DJ neg x y S R):(∃i j,x=.int i/\y=.int j/\R (.bl<|if neg then !decide (i=j) else decide (i=j)) S)\/(∃i j,x=.str i/\y=.str j/\R (.bl<|if neg then !decide (i=j) else decide (i=j)) S)\/∃p q,Dl S x p/\Dl S y q/\p.canLay0=true/\q.canLay0=true/\(p.depth<=64\/q.depth<=64)/\R (.bl<|if neg then !PyData.eqv p q else PyData.eqv p q) S:=by cases x<;>cases y<;>first|exact .inl {_,_,rfl,rfl,h}|exact .inr (.inl {_,_,rfl,rfl,h})|exact .inr (.inr h)
theorem aU:qy K (compareOp .Eq) (DJ false):=by
 rintro X hK hu pins s σ H x y v u Q I rx ry ⟨d,e,S,R,r1,r2,hS,h,hR⟩;subst hK;rcases HH h with⟨i,j,rfl,rfl,h⟩|⟨i,j,rfl,rfl,h⟩|⟨p,q,h1,h2,c1,c2,dp,h⟩;cases r1.int;cases r2.int;refine ML pins s σ H _ _ v u Q I rx ry {rfl,?_};have e:decide (V.int i=V.int j)=decide (i=j):=by simp
 rw[e];exact hR.now hS h<|cw _;cases r1.str;cases r2.str;refine ML pins s σ H _ _ v u Q I rx ry {rfl,?_};have e:decide (V.str i=V.str j)=decide (i=j):=by simp
 rw[e];exact hR.now hS h<|cw _;exact O8 hu pins s σ H x y v u Q I rx ry {p,q,h1.dt hS r1,h2.dt hS r2,c1,c2,dp,hR.now hS h<|cw _}
theorem gH:qy K (compareOp .NotEq) (DJ true):=by
 rintro X hK hu pins s σ H x y v u Q I rx ry ⟨d,e,S,R,r1,r2,hS,h,hR⟩;subst hK;rcases HH h with⟨i,j,rfl,rfl,h⟩|⟨i,j,rfl,rfl,h⟩|⟨p,q,h1,h2,c1,c2,dp,h⟩;cases r1.int;cases r2.int;refine MM pins s σ H _ _ v u Q I rx ry {rfl,?_};have e:decide (V.int i=V.int j)=decide (i=j):=by simp
 rw[e];exact hR.now hS h<|cw _;cases r1.str;cases r2.str;refine MM pins s σ H _ _ v u Q I rx ry {rfl,?_};have e:decide (V.str i=V.str j)=decide (i=j):=by simp
 rw[e];exact hR.now hS h<|cw _;exact O9 hu pins s σ H x y v u Q I rx ry {p,q,h1.dt hS r1,h2.dt hS r2,c1,c2,dp,hR.now hS h<|cw _}
noncomputable def bZ(kvs:List<|Key×D)(k:Key):Option D:=(kvs.find? λkv=>decide<|kv.1=k).map (·.2)
noncomputable def dput(kvs:List<|Key×D)(k:Key)(v:D):List (Key×D):=if (kvs.any λkv=>decide<|kv.1=k)=true then kvs.map (λkv=>if kv.1=k then (kv.1,v) else kv) else kvs++[(k,v)]
noncomputable def x5(kvs:List<|Key×D)(k:Key):List (Key×D):=kvs.filter λkv=>decide<|kv.1≠k
theorem bX.val(h:bX K H ks vs)(k:Key):(∀d,bZ ks k=some d->∃v,fQ vs k=some v/\Rv K H d v)/\(bZ ks k=none->fQ vs k=none):=by induction h with|nil=>(exact{λd e=>(by cases e),λ_=>rfl})|@cons a b l m r t ih=>obtain⟨k',d⟩:=a;obtain⟨k'',v⟩:=b;obtain⟨e0,r⟩:=r;dsimp only at e0;subst e0;unfold bZ fQ;simp only[yc];by_cases q:k'=k;rw[zu q];exact{λd' e=>{v,rfl,(by cases e;exact r)},λe=>(by cases e)};rw[zt q];exact ih
theorem bX.any(h:bX K H ks vs)(k:Key):(ks.any λkv=>decide<|kv.1=k)=(vs.any λkv=>decide<|kv.1=k):=by induction h with|nil=>rfl|cons r t ih=>rw[yR,yR,ih,r.1]
theorem bX.len(h:bX K H ks vs):vs.length=ks.length:=(yN h).symm
theorem bX.app:∀{ks ls:List (κ×D)}{vs ws:List (κ×V)},bX K H ks vs->bX K H ls ws->bX K H (ks++ls) (vs++ws)|_,_,_,_,.nil,h=>h|_,_,_,_,.cons r t,h=>.cons r<|bX.app t h
theorem bX.OS(h:bX K H ks vs)(k:Key)(rd:Rv K H d v):bX K H (ks.map λkv=>if kv.1=k then (kv.1,d) else kv) (vs.map λkv=>if kv.1=k then (kv.1,v) else kv):=by induction h with|nil=>exact .nil|@cons a b l m r t ih=>refine .cons ?_ ih;dsimp only;by_cases q:b.1=k;rw[if_pos q,if_pos<|r.1.trans q];exact⟨r.1,rd⟩;rw[if_neg q,if_neg λz=>q<|r.1.symm.trans z];exact r
theorem bX.put(h:bX K H ks vs)(k:Key)(rd:Rv K H d v):bX K H (dput ks k d) (putK vs k v):=by unfold dput putK;rw[h.any k];split;exact h.OS k rd;exact h.app<|.cons ⟨rfl,rd⟩ .nil
theorem bX.drop(h:bX K H ks vs)(k:Key):bX K H (x5 ks k) (oS vs k):=by unfold x5 oS;induction h with|nil=>exact .nil|@cons a b l m r t ih=>rw[yq,yq,r.1];by_cases q:b.1=k;rw[if_neg<|by simp[q],if_neg<|by simp[q]];exact ih;rw[if_pos<|by simp[q],if_pos<|by simp[q]];exact .cons r ih
noncomputable def BZ:D->Option Key|.int i=>some (.inl i)|.str z=>some (.inr z)|_=>none
theorem nO(h:BZ d=some k)(r:Rv K H d v):v=kV k:=by cases d with|int i=>(cases h;exact r.int)|str i=>(cases h;exact r.str)|_=>cases h
noncomputable def jo:D->Bool|.au=>true|.bl _=>true|.int _=>true|.str _=>true|_=>false
noncomputable def kB:D->V|.au=>.au|.bl b=>.bl b|.int i=>.int i|.str z=>.str z|.ref a=>.ref a|.ty n=>.ty n|_=>.au
theorem rA(h:jo d=true)(r:Rv K H d v):v=kB d/\gF v=true:=by cases d with|au=>(cases r.au;exact⟨rfl,rfl⟩)|bl b=>(cases r.bl;exact⟨rfl,rfl⟩)|int b=>(cases r.int;exact⟨rfl,rfl⟩)|str b=>(cases r.str;exact⟨rfl,rfl⟩)|_=>cases h
theorem l_:∀{ds:List D}{vs:List V},ds.all jo=true->RvAll K H ds vs->vs=ds.map kB/\vs.all gF=true|[],vs,_,r=>by rw[r.nil];exact⟨rfl,rfl⟩|d::ds,vs,h,r=>by obtain⟨y,ys,rfl,r1,r2⟩:=r.cons;rw[List.all_cons,zI]at h;obtain⟨e1,f1⟩:=rA h.1 r1;obtain⟨e2,f2⟩:=l_ h.2 r2;refine{by rw[e1,e2];rfl,?_};rw[List.all_cons,f1,f2];rfl
def inD(neg:Bool):vJ:=λx y S R=>match y with|.str j=>(∃i,x=.str i/\R (.bl<|if neg then !(!(Builtin.Str.occurrences j i 0 j.length 1).isEmpty) else !(Builtin.Str.occurrences j i 0 j.length 1).isEmpty) S)|.kt ds=>(jo x=true/\ds.all jo=true/\R (.bl<|if neg then !Bz (kB x) (ds.map kB) else Bz (kB x) (ds.map kB)) S)|.tup ds=>(jo x=true/\ds.all jo=true/\R (.bl<|if neg then !Bz (kB x) (ds.map kB) else Bz (kB x) (ds.map kB)) S)|.ref a=>((∃ds,S a=some (.lst ds)/\jo x=true/\ds.all jo=true/\R (.bl<|if neg then !Bz (kB x) (ds.map kB) else Bz (kB x) (ds.map kB)) S)\/∃kvs k,S a=some (.c_ kvs)/\BZ x=some k/\R (.bl<|if neg then !(bZ kvs k).isSome else (bZ kvs k).isSome) S)|_=>False
theorem vK(hS:Rs K S H)(e:S a=some (.c_ kvs)):∃o,pT H a (kV k) o/\o.isSome=(bZ kvs k).isSome/\∀d,bZ kvs k=some d->∃v,o=some v/\Rv K H d v:=by obtain⟨vs,e1,t⟩:=hS.c_ e;refine{_,pT.k e1,?_,λd h=>(t.val k).1 d h};cases q:bZ kvs k with|none=>rw[(t.val k).2 q];rfl|some d=>obtain⟨v,e2,_⟩:=(t.val k).1 d q;rw[e2];rfl
theorem vL:qy K (compareOp .In) (inD false):=by rintro X hK hu pins s σ H x y v u Q I rx ry ⟨d,e,S,R,r1,r2,hS,h,hR⟩;subst hK;cases e with|str j=>(obtain⟨i,rfl,h⟩:=h;exact EO pins s σ H x y v u Q I rx ry {i,j,r1.str,r2.str,hR.now hS h<|cw _})|tup ds=>(obtain⟨f1,f2,h⟩:=h;obtain⟨a,xs,rfl,q,t⟩:=r2.tup;obtain⟨e1,g1⟩:=rA f1 r1;obtain⟨e2,g2⟩:=l_ f2 t;subst e1 e2;exact nH pins s σ H _ _ v u Q I rx ry {a,_,rfl,.inr<|.of q,g1,g2,hR.now hS h<|cw _})|kt ds=>(obtain⟨f1,f2,h⟩:=h;obtain⟨a,xs,rfl,q,t⟩:=r2.kt;obtain⟨e1,g1⟩:=rA f1 r1;obtain⟨e2,g2⟩:=l_ f2 t;subst e1 e2;exact nH pins s σ H _ _ v u Q I rx ry {a,_,rfl,.inr<|.inr q,g1,g2,hR.now hS h<|cw _})|ref a=>(cases r2.ref;rcases h with⟨ds,e,f1,f2,h⟩|⟨kvs,k,e,hk,h⟩;obtain⟨xs,e1,t⟩:=hS.lst e;obtain⟨e2,g1⟩:=rA f1 r1;obtain⟨e3,g2⟩:=l_ f2 t;subst e2 e3;exact nH pins s σ H _ _ v u Q I rx ry {a,_,rfl,.inl<|.of e1,g1,g2,hR.now hS h<|cw _};cases nO hk r1;cases ry;obtain⟨o,g,e1,_⟩:=vK (k:=k) hS e;refine Xy (by lia) I g rx λs' I'=>{.bl o.isSome,H,I',rfl,?_};rw[e1];exact hR.now hS h<|cw _)|_=>exact h.elim
def IxD(K:Frag)(r:vJ):Prop:=∀X:Cx,X.K=K->X.A.units+64<cLine->Sy X (Lr K r)
inductive V8 (ds:List D) (i:Int) (S:aw) (R:KD):Prop where
 |mk (d:D) (h:gE ds i=some d) (r:R d S)
inductive Yo (a:Addr) (i:Int) (S:aw) (R:KD):Prop where
 |mk (ds:List D) (d:D) (e:S a=some (.lst ds)) (h:gE ds i=some d) (r:R d S)
def ixD:vJ:=λx y S R=>match x,y with|.tup ds,.int i=>V8 ds i S R|.kt ds,.int i=>V8 ds i S R|.j6 ds,.int i=>V8 ds i S R|.str z,.int i=>∃c,z.length<=sizeLine/\gE z.cps.toList i=some c/\R (.str ⟨#[c]⟩) S|.ref a,.int i=>Yo a i S R|.ref a,.str z=>∃kvs d,S a=some (.c_ kvs)/\bZ kvs (.inr z)=some d/\R d S|_,_=>False
theorem RvAll.at{H:Hp}{ds:List D}{xs:List V}{i:Int}{d:D}(h:RvAll K H ds xs)(e:gE ds i=some d):∃v,gE xs i=some v/\Rv K H d v:=by unfold gE at e⊢;rw[h.len];cases q:Ds ds.length i with|none=>(rw[q]at e;cases e)|some j=>rw[q]at e;exact h.get e
theorem Yp:IxD K ixD:=by rintro X hK hu value slice pins s σ H x y v u Q I rx ry ⟨d,e,S,R,r1,r2,hS,h,hR⟩ hs;subst hK;cases d with|tup ds=>(cases e with|int i=>(obtain⟨d,e,h⟩:=h;obtain⟨a,xs,rfl,q,t⟩:=r1.tup;obtain⟨z,e1,r⟩:=t.at e;exact Hb value slice pins s σ H _ _ v u Q I rx ry {a,xs,i,z,rfl,r2.int,.of q,e1,hR.now hS h r} hs)|_=>exact h.elim)|kt ds=>(cases e with|int i=>(obtain⟨d,e,h⟩:=h;obtain⟨a,xs,rfl,q,t⟩:=r1.kt;obtain⟨z,e1,r⟩:=t.at e;exact Hb value slice pins s σ H _ _ v u Q I rx ry {a,xs,i,z,rfl,r2.int,.inr q,e1,hR.now hS h r} hs)|_=>exact h.elim)|j6 ds=>(cases e with|int i=>(obtain⟨d,e,h⟩:=h;obtain⟨a,xs,rfl,q,t⟩:=r1.j6;obtain⟨z,e1,r⟩:=t.at e;exact Dx value slice pins s σ H _ _ v u Q I rx ry {a,xs,i,z,rfl,r2.int,q.sq,e1,hR.now hS h r} hs)|_=>exact h.elim)|str w=>(cases e with|int i=>(obtain⟨c,e0,e,h⟩:=h;exact OH value slice pins s σ H _ _ v u Q I rx ry {w,i,c,r1.str,r2.int,e0,e,hR.now hS h<|jm _} hs)|_=>exact h.elim)|ref a=>(cases e with|int i=>(obtain⟨ds,d,e,e1,h⟩:=h;obtain⟨xs,e2,t⟩:=hS.lst e;obtain⟨z,e3,r⟩:=t.at e1;exact Dx value slice pins s σ H _ _ v u Q I rx ry {a,xs,i,z,r1.ref,r2.int,.of e2,e3,hR.now hS h r} hs)|str w=>(obtain⟨kvs,d,e,e1,h⟩:=h;cases r1.ref;cases r2.str;cases rx;obtain⟨o,g,_,e2⟩:=vK (k:=.inr w) hS e;obtain⟨z,rfl,r⟩:=e2 d e1;exact tail_any (xJ I g) PySem.F.slot_dict_getitem.lookup (EZ (by lia) I g ry λw' s' I' nE=>{z,H,I',nE,hR.now hS h r}) hs)|_=>exact h.elim)|_=>exact h.elim
theorem ix(hu:X.A.units+64<cLine)(ha:DE K X a ta)(hb:DE K X b tb)(hs:Dw b:=by exact λ_ _=>rfl)(hK:autoParam (X.K=K) qQJ):DE K X (.Subscript a b pos) (Po ixD ta tb):=⟨λy=>(Sz (Yp y.cx hK hu) (ha.of y) (hb.of y) hs).mono λ_ _ _ h=>h.op⟩
end
section
variable{K:Frag}{X:Cx}
abbrev M5:=SD->aw->(Option Int->aw->Prop)->KX->Prop
def To(K:Frag)(E:St->XK)(t:M5):TO:=λτ H Q=>∃σ S R Z,ip K H σ τ/\Rs K S H/\t σ S R Z/\(∀o S' H',R o S'->Rs K S' H'->Kp K H H'->Q o H')/\Fl K H Z (E τ)
structure DO(K:Frag)(X:Cx)(e:Option Expr)(t:M5):Prop where
 of:∀{b:Bool}(y:Ev X b),PO y.cx e<|To K y.E t
theorem PO.mono{t t':TO}(h:PO X e t)(i:∀τ H Q,t' τ H Q->t τ H Q):PO X e t':=λpins s τ H Q I q=>h pins s τ H Q I<|i τ H Q q
def TM:M5:=λ_ S R _=>R none S
inductive TN (d:D) (S:aw) (R:Option Int->aw->Prop):Prop where
 |mk (i:Int) (h:d=.int i) (r:R (some i) S)
def TQ(t:TD):M5:=λσ S R Z=>t σ S (λd S1=>TN d S1 R) Z
theorem o0:DO K X none TM:=⟨λy=>(Ku (X:=y.cx)).mono <| by rintro τ H Q ⟨σ,S,R,Z,aA,hS,q,hR,hZ⟩;exact hR _ S H q hS<|.refl _⟩
theorem o1{t:TD}(h:DE K X e t):DO K X (some e) (TQ t):=⟨λy=>(Kv<|h.of y).mono <| by rintro τ H Q ⟨σ,S,R,Z,aA,hS,q,hR,hZ⟩;exact{σ,S,_,Z,aA,hS,q,by rintro d S1 x H1 ⟨i,e,r1⟩ v1 s1 k1;exact by subst e;exact{i,v1.int,hR _ S1 H1 r1 s1 k1},hZ}⟩
noncomputable def b_{α:Type}(xs:List α)(lo hi:Option Int):List α:=(xs.drop<|HT.sIx xs.length 0 lo).take<|HT.sIx xs.length xs.length hi-HT.sIx xs.length 0 lo
theorem RvAll.cut{H:Hp}{ds:List D}{xs:List V}(h:RvAll K H ds xs)(lo hi:Option Int):RvAll K H (b_ ds lo hi) (xH xs lo hi):=by unfold b_ xH;rw[h.len];exact(h.drop _).take _
def slD:D->Option Int->Option Int->aw->KD->Prop:=λx lo hi S R=>match x with|.str z=>z.length<=sizeLine/\R (.str<|PySem.Txt.slice z lo hi) S|.tup ds=>¬(HT.sIx ds.length 0 lo=0/\HT.sIx ds.length ds.length hi=ds.length)/\R (.tup<|b_ ds lo hi) S|.ref a=>∃ds,S a=some (.lst ds)/\∀p,S p=none->R (.ref p) (S.set p<|.lst<|b_ ds lo hi)|.j6 ds=>∀p,S p=none->R (.ref p) (S.set p<|.lst<|b_ ds lo hi)|_=>False
def Lsl(K:Frag):V->Option Int->Option Int->Hp->VK->Prop:=λx lo hi H Q=>∃d S R,Rv K H d x/\Rs K S H/\slD d lo hi S R/\Cn K H R Q
theorem Yq(hK:X.K=K):Q6 X (Lsl K):=by rintro pins s σ H x v vl vu lo hi sl Q I rx hs pl pu ⟨d,S,R,r1,hS,h,hR⟩;subst hK;cases d with|str z=>exact Pm pins s σ H x v vl vu lo hi sl Q I rx hs pl pu {z,r1.str,h.1,hR.now hS h.2<|jm _}|tup ds=>(obtain⟨a,xs,rfl,q,t⟩:=r1.tup;exact OG pins s σ H _ v vl vu lo hi sl Q I rx hs pl pu {a,xs,rfl,.of q,by rw[t.len];exact h.1,λp hp=>hR.TJ hS hp h.2<|t.cut lo hi})|ref a=>(obtain⟨ds,e,h⟩:=h;obtain⟨xs,e1,t⟩:=hS.lst e;exact qv pins s σ H _ v vl vu lo hi sl Q I rx hs pl pu {a,xs,r1.ref,.of e1,λp hp=>hR.new hS hp (h p)<|t.cut lo hi})|j6 ds=>(obtain⟨a,xs,rfl,q,t⟩:=r1.j6;exact qv pins s σ H _ v vl vu lo hi sl Q I rx hs pl pu {a,xs,rfl,q.sq,λp hp=>hR.new hS hp (h p)<|t.cut lo hi})|_=>exact h.elim
def dSl(te:TD)(tl th:M5):TD:=λσ S R Z=>te σ S (λx S1=>tl σ S1 (λl S2=>th σ S2 (λu S3=>slD x l u S3 R) Z) Z) Z
theorem sl{e:Expr}{lo hi:Option Expr}{te:TD}{tl th:M5}{p2 pos:Pos}(he:DE K X e te)(hl:DO K X lo tl)(hu:DO K X hi th)(hK:autoParam (X.K=K) qQJ):DE K X (.Subscript e (.Slice lo hi none p2) pos) (dSl te tl th):=
 ⟨λy=>(xG (X:=y.cx) (Yq hK) (he.of y) (hl.of y)<|hu.of y).mono <| by rintro τ H Q ⟨σ,S,R,Z,aA,hS,q,hR,hZ⟩;exact
  ⟨σ,S,_,Z,aA,hS,q,λd S1 x H1 r1 v1 s1 k1=>⟨σ,S1,_,Z,aA.ts k1,s1,r1,λl S2 H2 r2 s2 k2=>⟨σ,S2,_,Z,aA.ts<|k1.trans k2,s2,r2,λu S3 H3 r3 s3 k3=>⟨d,S3,R,Rv.ts (k2.trans k3) _ v1,s3,r3,hR.kp<|(k1.trans k2).trans k3⟩,hZ.kp<|k1.trans k2⟩,hZ.kp k1⟩,hZ⟩⟩
def Yr(te:TD):TD:=λσ S R Z=>te σ S (λx S1=>∃i,x=.int i/\R (.int (-i)) S1) Z
theorem x6(he:DE K X e te):DE K X (.UnaryOp .USub e pos) (Yr te):=⟨λy=>(Sf Ox<|he.of y).mono <| by rintro τ H Q ⟨σ,S,R,Z,aA,hS,q,hR,hZ⟩;exact{σ,S,_,Z,aA,hS,q,by rintro d S1 x H1 ⟨i,e,r1⟩ v1 s1 k1;exact by subst e;exact{i,v1.int,hR _ S1 _ H1 r1 (aO _) s1 k1},hZ}⟩
def Ys(T:String)(S:aw):D->Prop|.str _=>T ="str"|.ref a=>T ="list"/\∃ds,S a=some (.lst ds)|.j6 _=>T ="list"|_=>False
theorem M6{H:Hp}{S:aw}{T:String}{d:D}{v:V}(h:Ys T S d)(hS:Rs K S H)(r:Rv K H d v):VY K T v H:=by cases d with|str z=>rw[r.str];exact h|ref a=>(obtain⟨e,ds,h⟩:=h;obtain⟨xs,e1,_⟩:=hS.lst h;rw[r.ref];exact .inl {e,xs,.of e1})|j6 ds=>(obtain⟨a,xs,rfl,q,_⟩:=r.j6;exact .inl ⟨h,xs,q.sq⟩)|_=>exact h.elim
abbrev Fn:=D->List D->aw->KD->Prop
def Lm(K:Frag)(r:Fn):V->List V->Hp->VK->Prop:=λx xs H Q=>∃d ds S R,Rv K H d x/\RvAll K H ds xs/\Rs K S H/\r d ds S R/\Cn K H R Q
def Lj(K:Frag)(id:String)(r:Fn):Prop:=∀X:Cx,X.K=K->Q7 X id (Lm K r)
def dBM(T:String)(r:Fn)(to:TD)(t:iS):TD:=λσ S R Z=>to σ S (λx S1=>Ys T S1 x/\t σ S1 (λds S2=>r x ds S2 R) Z) Z
def Yt(T:String)(r:Fn)(to:TD):TD:=λσ S R Z=>to σ S (λx S1=>Ys T S1 x/\r x [] S1 R) Z
theorem bm{o e:Expr}{es:List Expr}{T id:String}{name:Str}{r:Fn}{to:TD}{t:iS}{apos aN:Pos}(pa:PlainAttrs T)(slot:Slot T name id)(OM:typeOf (.builtin id)=pure (.type "method_descriptor"))(hm:Lj K id r)(ho:DE K X o to)(ha:DA K X (e::es) t) (l4:autoParam (attributeBase o name X.env (eval o X.env)=eval o X.env) qQJ) (ON:autoParam (((backTo aN<|starEach (e::es) X.env).all (λx=>!x.1)&&(backToKw aN<|keywordEach [] X.env).all (λx=>x.1.isSome)&&decide ((e::es).length+([]:List Keyword).length+(if ([]:List Keyword).isEmpty then 0 else 1)<30))=true) qQJ) (qS:autoParam ((apos.endLine==aN.line)=true) qQJ) (hs:autoParam (starEach (e::es) X.env=(false,eval e X.env)::starEach es X.env) qQJ) (BA:autoParam ((backTo aN<|starEach es X.env).any (·.1)=false) qQJ) (hK:autoParam (X.K=K) qQJ): DE K X (.Call (.Attribute o name apos) (e::es) [] aN) (dBM T r to t):=by
 subst hK
 exact⟨λy=>(SF (X:=y.cx) pa slot OM (hm _ rfl) (ho.of y) (ha.of y) l4 ON qS hs BA).mono <| by rintro τ H Q ⟨σ,S,R,Z,aA,hS,q,hR,hZ⟩;exact
  ⟨σ,S,_,Z,aA,hS,q,by rintro d S1 x H1 ⟨h1,r1⟩ v1 s1 k1;exact⟨M6 h1 s1 v1,σ,S1,_,Z,aA.ts k1,s1,r1,λds S2 xs H2 r2 v2 s2 k2=>⟨d,ds,S2,R,Rv.ts k2 _ v1,v2,s2,r2,hR.kp<|k1.trans k2⟩,hZ.kp k1⟩,hZ⟩⟩
theorem bm0{o:Expr}{T id:String}{name:Str}{r:Fn}{to:TD}{apos aN:Pos}(pa:PlainAttrs T)(slot:Slot T name id)(OM:typeOf (.builtin id)=pure (.type "method_descriptor"))(hm:Lj K id r)(ho:DE K X o to) (l4:autoParam (attributeBase o name X.env (eval o X.env)=eval o X.env) qQJ) (qS:autoParam ((apos.endLine==aN.line)=true) qQJ) (hK:autoParam (X.K=K) qQJ): DE K X (.Call (.Attribute o name apos) [] [] aN) (Yt T r to):=by
 subst hK
 exact⟨λy=>(OL (X:=y.cx) pa slot OM (hm _ rfl) (ho.of y) l4 qS).mono <| by rintro τ H Q ⟨σ,S,R,Z,aA,hS,q,hR,hZ⟩;exact
  ⟨σ,S,_,Z,aA,hS,q,by rintro d S1 x H1 ⟨h1,r1⟩ v1 s1 k1;exact⟨M6 h1 s1 v1,d,[],S1,R,v1,br,s1,r1,hR.kp k1⟩,hZ⟩⟩
theorem RvAll.one(h:RvAll K H [d] xs):∃v,xs=[v]/\Rv K H d v:=by obtain⟨y,ys,rfl,h1,h2⟩:=h.cons;rw[h2.nil];exact⟨y,rfl,h1⟩
inductive TR (x:D) (ds:List D) (S:aw) (R:KD):Prop where
 |mk (a:Addr) (es:List D) (d:D) (e1:x=.ref a) (e2:ds=[d]) (e3:S a=some (.lst es)) (e4:es.length<sizeLine) (r:R .au<|S.set a<|.lst<|es++[d])
def Lk:Fn:=λx ds S R=>TR x ds S R
theorem cA:Lj K "list.append" Lk:=by rintro X hK pins s σ H x xs v us Q I rx rs ⟨d,ds,S,R,r1,r2,hS,⟨a,es,y,e1,e2,e3,hl,h⟩,hR⟩;subst e1 e2;obtain⟨w0,rfl,q2⟩:=r2.one;obtain⟨zs,e4,t⟩:=hS.lst e3;exact EY pins s σ H x _ v us Q I rx rs {a,zs,w0,r1.ref,rfl,e4,by rw[t.len];exact hl,hR.put hS e3 h dE<|t.app<|aI q2 br}
def Yu:Fn:=λx ds S R=>∃a es d,x=.ref a/\ds=[]/\S a=some (.lst es)/\es[es.length-1]?=some d/\R d (S.set a<|.lst es.dropLast)
theorem TU:Lj K "list.pop" Yu:=by rintro X hK pins s σ H x xs v us Q I rx rs ⟨d,ds,S,R,r1,r2,hS,⟨a,es,y,e1,e2,e3,hl,h⟩,hR⟩;subst e1 e2;obtain⟨zs,e4,t⟩:=hS.lst e3;obtain⟨w,e5,r⟩:=t.get hl;exact OO pins s σ H x _ v us Q I rx rs {a,zs,w,r1.ref,r2.nil,e4,by rw[t.len];exact e5,hR.put hS e3 h r t.dropLast}
def Pp:Fn:=λx ds S R=>∃a es i k d,x=.ref a/\ds=[.int i]/\S a=some (.lst es)/\-(2^63)<=i/\i<2^63/\seqIndex? i es.length=some k/\es[k]?=some d/\R d (S.set a<|.lst<|es.eraseIdx k)
theorem Ll:Lj K "list.pop" Pp:=by rintro X hK pins s σ H x xs v us Q I rx rs ⟨d,ds,S,R,r1,r2,hS,⟨a,es,i,k,y,e1,e2,e3,h1,h2,h3,h4,h⟩,hR⟩;subst e1 e2;obtain⟨w0,rfl,q2⟩:=r2.one;obtain⟨zs,e4,t⟩:=hS.lst e3;obtain⟨w,e5,r⟩:=t.get h4;exact Hg pins s σ H x _ v us Q I rx rs {a,zs,i,k,w,r1.ref,by rw[q2.int],e4,h1,h2,by rw[t.len];exact h3,e5,hR.put hS e3 h r<|t.erase k}
def Ln:Fn:=λx ds S R=>∃(es:List D)(d:D)(j:Nat),ds=[d]/\xY S x es/\jo d=true/\es.all jo=true/\(∃z,es[j]?=some z/\eqV (kB z) (kB d)=true)/\(∀m u,m<j->es[m]?=some u->eqV (kB u) (kB d)=false)/\R (.int j) S
theorem rB:Lj K "list.index" Ln:=by rintro X hK pins s σ H x xs v us Q I rx rs ⟨d,ds,S,R,r1,r2,hS,⟨es,y,j,e2,e3,f1,f2,⟨z,e4,e5⟩,h4,h⟩,hR⟩;subst hK e2;obtain⟨w0,rfl,q2⟩:=r2.one;obtain⟨a,zs,rfl,q,t⟩:=e3.at hS r1;obtain⟨g1,g2⟩:=rA f1 q2;obtain⟨g3,g4⟩:=l_ f2 t;subst g1 g3;refine Fi pins s σ H _ _ v us Q I rx rs {a,_,_,kB z,j,rfl,rfl,q,g2,g4,by rw[zg,e4];rfl,e5,λm u hm e=>?_,hR.now hS h<|aO _};rw[zg]at e;cases q2:es[m]? with|none=>(rw[q2]at e;cases e)|some u'=>rw[q2]at e;cases e;exact h4 m u' hm q2
def Lo:Fn:=λx ds S R=>∃z y,x=.str z/\ds=[.str y]/\R (.bl<|PySem.Txt.startswith z y) S
theorem HJ:Lj K "str.startswith" Lo:=by rintro X hK pins s σ H x xs v us Q I rx rs ⟨d,ds,S,R,r1,r2,hS,⟨z,y,e1,e2,h⟩,hR⟩;subst e1 e2;obtain⟨w0,rfl,q2⟩:=r2.one;exact tP pins s σ H _ _ v us Q I rx rs {z,y,r1.str,by rw[q2.str],hR.now hS h<|cw _}
def TV(S:aw)(R:KD):D->Prop|.str z=>z.length<=sizeLine/\R (.int z.length) S|.tup es=>R (.int es.length) S|.kt es=>R (.int es.length) S|.j6 es=>R (.int es.length) S|.ref a=>(∃es,S a=some (.lst es)/\R (.int es.length) S)\/∃kvs,S a=some (.c_ kvs)/\R (.int kvs.length) S|_=>False
inductive TY (ds:List D) (S:aw) (R:KD):Prop where
 |mk (x:D) (h:ds=[x]) (r:TV S R x)
def Yv:List D->aw->KD->Prop:=λds S R=>TY ds S R
theorem ba:gG K (.builtin "len") Yv:=by rintro X hK hc pins s σ H xs us Q I rx ⟨ds,S,R,r,hS,⟨x,e,h⟩,hR⟩;subst hK e;obtain⟨w,rfl,r'⟩:=r.one;cases x with|str z=>(cases r'.str;exact jh pins s σ H _ us Q I rx {_,_,rfl,⟨h.1,rfl⟩,hR.now hS h.2<|aO _})|tup es=>(obtain⟨a,xs,rfl,q,t⟩:=r'.tup;exact jh pins s σ H _ us Q I rx {_,_,rfl,.inr {xs,.of q,t.len.symm},hR.now hS h<|aO _})|kt es=>(obtain⟨a,xs,rfl,q,t⟩:=r'.kt;exact jh pins s σ H _ us Q I rx {_,_,rfl,.inr {xs,.inr q,t.len.symm},hR.now hS h<|aO _})|j6 es=>(obtain⟨a,xs,rfl,q,t⟩:=r'.j6;exact jh pins s σ H _ us Q I rx {_,_,rfl,.inl ⟨xs,q.sq,t.len.symm⟩,hR.now hS h<|aO _})|ref a=>(cases r'.ref;rcases h with⟨es,e,h⟩|⟨kvs,e,h⟩;obtain⟨xs,e1,t⟩:=hS.lst e;exact jh pins s σ H _ us Q I rx {_,_,rfl,.inl {xs,.of e1,t.len.symm},hR.now hS h<|aO _};obtain⟨xs,e1,t⟩:=hS.c_ e;exact E7 pins s σ H _ us Q I rx {a,xs,rfl,e1,by rw[t.len];exact hR.now hS h<|aO _})|_=>exact h.elim
def Pq(S:aw):D->Kd->Prop|.au,k=>k=.au|.bl _,k=>k=.bl|.int _,k=>k=.int|.str _,k=>k=.str|.ref a,k=>(k=.lst/\∃ds,S a=some (.lst ds))\/(k=.c_/\∃ds,S a=some (.c_ ds))|.tup _,k=>k=.tup|_,_=>False
theorem TZ(h:Pq S d k)(hS:Rs K S H)(r:Rv K H d v):q9 H v k:=by cases d with|au=>(cases h;rw[r.au];exact .au)|bl b=>(cases h;rw[r.bl];exact .bl b)|int b=>(cases h;rw[r.int];exact .int b)|str b=>(cases h;rw[r.str];exact .str b)|tup b=>(cases h;obtain⟨a,xs,rfl,q,_⟩:=r.tup;exact .tup q)|ref a=>(rw[r.ref];rcases h with⟨rfl,ds,h⟩|⟨rfl,ds,h⟩;obtain⟨xs,e,_⟩:=hS.lst h;exact .lst e;obtain⟨xs,e,_⟩:=hS.c_ h;exact .c_ e)|_=>exact h.elim
inductive T4 (ds:List D) (S:aw) (R:KD):Prop where
 |mk (x:D) (n:String) (k:Kd) (g:Kd->Bool) (e:ds=[x,.ty n]) (a:vB n=some g) (b:Pq S x k) (r:R (.bl<|g k) S)
def Yw:List D->aw->KD->Prop:=λds S R=>T4 ds S R
theorem RvAll.two(h:RvAll K H [d,e] xs):∃v u,xs=[v,u]/\Rv K H d v/\Rv K H e u:=by obtain⟨y,ys,rfl,h1,h2⟩:=h.cons;obtain⟨u,rfl,h3⟩:=h2.one;exact⟨y,u,rfl,h1,h3⟩
theorem cH:gG K (.builtin "isinstance") Yw:=by rintro X hK hc pins s σ H xs us Q I rx ⟨ds,S,R,r,hS,⟨x,n,k,g,e,h1,h2,h⟩,hR⟩;subst hK e;obtain⟨v,u,rfl,r1,r2⟩:=r.two;rw[r2.ty]at rx;exact Hx pins s σ H _ us Q I rx {v,n,k,g,rfl,h1,TZ h2 hS r1,hR.now hS h<|cw _}
inductive T5 (ds:List D) (S:aw) (f:List Bool->Bool) (R:KD):Prop where
 |mk (x:D) (bs:List Bool) (e:ds=[x]) (h:xY S x<|bs.map D.bl) (r:R (.bl<|f bs) S)
def T6:List D->aw->KD->Prop:=λds S R=>T5 ds S (λbs=>bs.all id) R
theorem jq:gG K (.builtin "all") T6:=by rintro X hK hc pins s σ H xs us Q I rx ⟨ds,S,R,r,hS,⟨x,bs,e,h1,h⟩,hR⟩;subst hK e;obtain⟨v,rfl,r1⟩:=r.one;obtain⟨a,zs,rfl,q,t⟩:=h1.at hS r1;rw[t.bools]at q;exact tK hc pins s σ H _ us Q I rx {a,bs,rfl,q,hR.now hS h<|cw _}
def Yx:List D->aw->KD->Prop:=λds S R=>∃(x:D)(bs:List Bool),ds=[x]/\xY S x (bs.map D.bl)/\R (.bl<|bs.any id) S
theorem M7:gG K (.builtin "any") Yx:=by rintro X hK hc pins s σ H xs us Q I rx ⟨ds,S,R,r,hS,⟨x,bs,e,h1,h⟩,hR⟩;subst hK e;obtain⟨v,rfl,r1⟩:=r.one;obtain⟨a,zs,rfl,q,t⟩:=h1.at hS r1;rw[t.bools]at q;exact tL hc pins s σ H _ us Q I rx {a,bs,rfl,q,hR.now hS h<|cw _}
def intD:List D->aw->KD->Prop:=λds S R=>(∃i,ds=[.int i]/\R (.int i) S)\/∃k,ds=[.bl k]/\R (.int<|if k then 1 else 0) S
theorem DK:gG K (.type "int") intD:=by rintro X hK hc pins s σ H xs us Q I rx ⟨ds,S,R,r,hS,h,hR⟩;rcases h with⟨i,rfl,h⟩|⟨k,rfl,h⟩;obtain⟨v,rfl,r1⟩:=r.one;exact uv pins s σ H _ us Q I rx<|.inl {i,by rw[r1.int],hR.now hS h<|aO _};obtain⟨v,rfl,r1⟩:=r.one;exact uv pins s σ H _ us Q I rx<|.inr {k,by rw[r1.bl],hR.now hS h<|aO _}
inductive T7 (ds:List D) (S:aw) (R:KD):Prop where
 |mk (x:D) (es:List D) (e:ds=[x]) (h:xY S x es\/x=.tup es) (r:R (.tup es) S)
def Pr:List D->aw->KD->Prop:=λds S R=>T7 ds S R
theorem fU:gG K (.type "tuple") Pr:=by rintro X hK hc pins s σ H xs us Q I rx ⟨ds,S,R,r,hS,⟨x,es,e,h1,h⟩,hR⟩;subst hK e;obtain⟨v,rfl,r1⟩:=r.one;rcases h1 with h1|rfl;obtain⟨a,zs,rfl,q,t⟩:=h1.at hS r1;exact kO pins s σ H _ us Q I rx {a,zs,rfl,.inl {q,λp hp=>hR.TJ hS hp h t}};obtain⟨a,zs,rfl,q,t⟩:=r1.tup;exact kO pins s σ H _ us Q I rx {a,zs,rfl,.inr {.of q,hR.now hS h<|nM q t}}
def minD(f:Int->Int->Bool):List D->aw->KD->Prop:=λds S R=>∃i j,ds=[.int i,.int j]/\R (.int<|if f j i then j else i) S
theorem M8:gG K (.builtin "min") (minD λa b=>decide<|a<b):=by rintro X hK hc pins s σ H xs us Q I rx ⟨ds,S,R,r,hS,⟨i,j,e,h⟩,hR⟩;subst e;obtain⟨v,u,rfl,r1,r2⟩:=r.two;refine ET hc pins s σ H _ us Q I rx {i,j,by rw[r1.int,r2.int],?_};have:=hR.now hS h<|aO _;simpa using this
theorem T8:gG K (.builtin "max") (minD λa b=>decide<|b<a):=by rintro X hK hc pins s σ H xs us Q I rx ⟨ds,S,R,r,hS,⟨i,j,e,h⟩,hR⟩;subst e;obtain⟨v,u,rfl,r1,r2⟩:=r.two;refine ES hc pins s σ H _ us Q I rx {i,j,by rw[r1.int,r2.int],?_};have:=hR.now hS h<|aO _;simpa using this
end
abbrev kC:=List D->aw->KD->KX->Prop
def qz(K:Frag)(sp:kC):Sp:=λvs H Q e=>∃ds S R Z,RvAll K H ds vs/\Rs K S H/\sp ds S R Z/\Cn K H R Q/\Fl K H Z e
section
variable{K:Frag}{X:Cx}{k:Nat}{f C:Addr}{fd:FuncData}{ps:List Str}{sp:Sp}{pR:List V}{ds:List Value}{x m:Str}{p pos apos:Pos}{e o:Expr}{es:List Expr}{b:Bool}{y:Ev X b}
theorem vM(F:bI X.prog X.w X.K X.mg X.base (fN X.prog X.w X.mg) k f fd ps sp)(hr:bW k X.A)(hb:Binds X.K fd ps ds)(hd:Vals pR ds) (I:Inv y.cx p2 σ H s) (r:Vals vs us) (h:sp (vs++pR) H Q<|y.E σ):wpAny (model X.prog X.w) X.A (call (.ref f) us) (EP y.cx p2 σ Q) y.xe s:=by
 have r2:Vals (vs++pR) (us++ds):=r.append hd;have hl:(us++ds).length=ps.length:=by rw[<-r2.length];exact F.len _ _ _ _ h
 refine wpAny_call<|yV (F.run X.A X.stack s H {us,[]} (us++ds) (vs++pR) Q (y.E σ) hr I.Sr (hb s us I.oO hl) r2 h) λres s' hq=>?_;cases res with|error e=>exact y.ok.call p2 σ H s e s' I hq|ok fl=>cases fl with|ret u=>exact I.after hq|next=>exact False.elim hq|brk=>exact False.elim hq|cont=>exact False.elim hq
theorem HK{t:TA}(F:bI X.prog X.w X.K X.mg X.base (fN X.prog X.w X.mg) k f fd ps sp)(hr:bW k X.A)(hg:Gl X x)(hm:X.mg x=some (.ref f))(hk:keepIn X.K (.ref f)=true)(hb:Binds X.K fd ps ds)(hd:Vals pR ds) (ha:PA y.cx (e::es) t) (pS:(x==("__debug__": Str))=false) (he:starEach (e::es) X.env=(false,eval e X.env)::starEach es X.env) (cU:(backTo pos<|starEach es X.env).any (·.1)=false): PE y.cx (.Call (.Name x p) (e::es) [] pos) (λσ H Q=>t σ H λvs H1=>sp (vs++pR) H1 Q<|y.E σ):=by intro p2 s σ H Q I h;refine wpAny_Call_Name_kw<|qq I hg hm ?_ pS;refine callWith_K (h₀:=X.base) I.ok.mod.Q2 hk (bz (ha pos p2 s σ H _ I h) λus s1 ⟨vs,H1,I1,r,q⟩=>{I1.oO,?_}) he cU;exact vM F hr hb hd I1 r q
theorem HL{pl:Sem Bool}{ta:TE}{t:TA}(he:PE y.cx o ta)(c:qQ X.K C)(hm:Meth X.K C m f)(F:bI X.prog X.w X.K X.mg X.base (fN X.prog X.w X.mg) k f fd ps sp)(hr:bW k X.A)(hb:Binds X.K fd ps ds)(hd:Vals pR ds)(ha:PA y.cx (e::es) t)
  (xB:starEach (e::es) X.env=(false,eval e X.env)::starEach es X.env) (cU:(backTo pos<|starEach es X.env).any (·.1)=false)
  (ht:eval (.Call (.Attribute o m apos) (e::es) [] pos) X.env=(do
   let ov <-eval o X.env
   standAt apos.atName
   let (f,first) <-holding [ov] (getMethod ov m pl)
   callWith pos f first (backTo pos<|starEach (e::es) X.env) (backToKw pos<|keywordEach [] X.env))):
  PE y.cx (.Call (.Attribute o m apos) (e::es) [] pos) (λσ H Q=>ta σ H λx H1=>∃a dx fs,x=.ref a/\H1 a=some (.ins C dx fs)/\fs.lookup m=none/\t σ H1 λvs H2=>sp (x::(vs++pR)) H2 Q<|y.E σ):=by
 intro p2 s σ H Q I h
 refine methodCall_KW (pl:=pl) (bz (he p2 s σ H _ I h) λu s1 ⟨x,H1,I1,rx,a,dx,fs,ex,ea,l,q⟩=>?_) ht
 subst ex
 obtain rfl:u=Value.ref a:=rx
 refine qR I1 ea c hm l ?_
 refine callWith_K (first:=[.ref a]) (h₀:=X.base) I.ok.mod.Q2 hm.kp (bz (ha pos p2 s1 σ H1 _ I1 q) λus s2 ⟨vs,H2,I2,r,q2⟩=>{I2.oO,?_}) xB cU
 exact vM (us:=.ref a::us) (vs:=.ref a::vs) F hr hb hd I2 (.cons rfl r) q2
theorem Fp(he:PE y.cx o ta)(c:qQ X.K C)(hm:Meth X.K C m f)(F:bI X.prog X.w X.K X.mg X.base (fN X.prog X.w X.mg) k f fd ps sp)(hr:bW k X.A)(hb:Binds X.K fd ps ds)(hd:Vals pR ds)
  (ht:eval (.Call (.Attribute o m apos) [] [] pos) X.env=(do
   let ov <-eval o X.env
   standAt apos.atName
   let (f,first) <-holding [ov] (getMethod ov m pl)
   callWith pos f first (backTo pos<|starEach [] X.env) (backToKw pos<|keywordEach [] X.env))):
  PE y.cx (.Call (.Attribute o m apos) [] [] pos) (λσ H Q=>ta σ H λx H1=>∃a dx fs,x=.ref a/\H1 a=some (.ins C dx fs)/\fs.lookup m=none/\sp (x::pR) H1 Q (y.E σ)):=by
 intro p2 s σ H Q I h
 refine methodCall_KW (pl:=pl) (bz (he p2 s σ H _ I h) λu s1 ⟨x,H1,I1,rx,a,dx,fs,ex,ea,l,q⟩=>?_) ht
 subst ex
 obtain rfl:u=Value.ref a:=rx
 refine qR I1 ea c hm l ?_
 exact PySem.W.callWith_K0 (first:=[.ref a]) I1.oO hm.kp<|vM (us:=[.ref a]) (vs:=[.ref a]) F hr hb hd I1 (.cons rfl .nil) q
theorem Fq(M:Mk X.K C f)(F:bI X.prog X.w X.K X.mg X.base (fN X.prog X.w X.mg) k f fd ps sp)(hr:bW (k+1) X.A)(hb:Binds X.K fd ps ds)(hd:Vals pR ds) (I:Inv y.cx p2 σ H s) (r:Vals vs us) (h:∀x dx,H x=none->H dx=none->dx≠x->sp (.ref x::(vs++pR)) (upd (upd H dx<|.own x) x<|.ins C dx []) (λv H2=>v=.au/\Q (.ref x) H2) (y.E σ)): wpAny (model X.prog X.w) X.A (call (.ref C) us) (EP y.cx p2 σ Q) y.xe s:=by
 have hq:=h (s.heap.objs.size+1) s.heap.objs.size (I.aK.fresh<|yT _) (I.aK.fresh<|zq _)<|zB<|Nat.lt_succ_self _;have I2:=Inv.made (C:=C) I;have r2:Vals (V.ref (s.heap.objs.size+1)::(vs++pR)) (Value.ref (s.heap.objs.size+1)::(us++ds)):=.cons rfl<|r.append hd;have hl:(Value.ref (s.heap.objs.size+1)::us++ds).length=ps.length:=by have e:=r2.length;rw[F.len _ _ _ _ hq]at e;exact e.symm
 refine wpAny_call<|Ha (f:=f) I.oO M.makes M.init (beq_iff_eq.mp M.fn)<|yV (F.run _ X.stack _ _ {Value.ref (s.heap.objs.size+1)::us,[]} (Value.ref (s.heap.objs.size+1)::(us++ds)) _ _ (y.E σ) (hr.make C us []) (I2.Sr.make C us []) (hb _ (Value.ref (s.heap.objs.size+1)::us) I2.oO hl) r2 hq) λr s' GN=>?_;cases r with|error e=>exact y.ok.call p2 σ _ _ e s' I2 GN|ok fl=>cases fl with|ret u=>(obtain⟨v,H',I3,rv,ev,q3⟩:=I2.after GN;subst ev;exact{rv,{V.ref<|s.heap.objs.size+1,H',I3,rfl,q3}})|next=>exact False.elim GN|brk=>exact False.elim GN|cont=>exact False.elim GN
theorem HM{t:TA}(M:Mk X.K C f)(F:bI X.prog X.w X.K X.mg X.base (fN X.prog X.w X.mg) k f fd ps sp)(hr:bW (k+1) X.A)(hg:Gl X x)(hm:X.mg x=some (.ref C))(hb:Binds X.K fd ps ds)(hd:Vals pR ds) (ha:PA y.cx (e::es) t) (pS:(x==("__debug__": Str))=false) (he:starEach (e::es) X.env=(false,eval e X.env)::starEach es X.env) (cU:(backTo pos<|starEach es X.env).any (·.1)=false): PE y.cx (.Call (.Name x p) (e::es) [] pos) (λσ H Q=>t σ H λvs H1=>∀x dx,H1 x=none->H1 dx=none->dx≠x->sp (.ref x::(vs++pR)) (upd (upd H1 dx<|.own x) x<|.ins C dx []) (λv H2=>v=.au/\Q (.ref x) H2) (y.E σ)):=by intro p2 s σ H Q I h;refine wpAny_Call_Name_kw<|qq I hg hm ?_ pS;refine callWith_K (h₀:=X.base) I.ok.mod.Q2 M.kp (bz (ha pos p2 s σ H _ I h) λus s1 ⟨vs,H1,I1,r,q⟩=>{I1.oO,?_}) he cU;exact Fq M F hr hb hd I1 r q
end
section
variable{K:Frag}{X:Cx}{k:Nat}{f C:Addr}{fd:FuncData}{ps:List Str}{sp:kC}{x8:List D}{pR:List V}{ds:List Value}{x m:Str}{p pos apos:Pos}{e o:Expr}{es:List Expr}
structure M9(K:Frag)(x8:List D)(pR:List V)(ds:List Value):Prop where
 v:Vals pR ds
 d:∀H,RvAll K H x8 pR
theorem d0:M9 K [] [] []:={.nil,λ_=>br}
theorem d1:M9 K [.au] [.au] [.none]:={.cons rfl .nil,λ_=>aI dE br}
theorem d2:M9 K [.au,.au] [.au,.au] [.none,.none]:={.cons rfl<|.cons rfl .nil,λ_=>aI dE<|aI dE br}
theorem d3:M9 K [.au,.au,.au] [.au,.au,.au] [.none,.none,.none]:={.cons rfl<|.cons rfl<|.cons rfl .nil,λ_=>aI dE<|aI dE<|aI dE br}
def M_(sp:kC)(x8:List D)(t:iS):TD:=λσ S R Z=>t σ S (λds S1=>sp (ds++x8) S1 R Z) Z
theorem cf{t:iS}(F:bI X.prog X.w K X.mg X.base (fN X.prog X.w X.mg) k f fd ps<|qz K sp)(hr:bW k X.A)(hm:X.mg x=some (.ref f))(hk:keepIn K (.ref f)=true)(hb:Binds K fd ps ds)(hd:M9 K x8 pR ds)(ha:DA K X (e::es) t) (hg:autoParam (Gl X x) qQJ) (pS:autoParam ((x==("__debug__": Str))=false) qQZ) (he:autoParam (starEach (e::es) X.env=(false,eval e X.env)::starEach es X.env) qQJ) (cU:autoParam ((backTo pos<|starEach es X.env).any (·.1)=false) qQJ) (hK:autoParam (X.K=K) qQJ): DE K X (.Call (.Name x p) (e::es) [] pos) (M_ sp x8 t):=by
 subst hK
 exact⟨λy=>(HK F hr hg hm hk hb hd.v (ha.of y) pS he cU).mono <| by rintro τ H Q ⟨σ,S,R,Z,aA,hS,q,hR,hZ⟩;exact
  ⟨σ,S,_,Z,aA,hS,q,λes S1 xs H1 r1 v1 s1 k1=>⟨es++x8,S1,R,Z,v1.app<|hd.d _,s1,r1,hR.kp k1,hZ.kp k1⟩,hZ⟩⟩
inductive MeR (C:Addr) (m:Str) (x:D) (S:aw) (p:Prop):Prop where
 |mk (a:Addr) (fs:List<|Str×D) (e1:x=.ref a) (e2:S a=some (.ins C fs)) (e3:fs.lookup m=none) (r:p)
def DL(C:Addr)(m:Str)(sp:kC)(x8:List D)(ta:TD)(t:iS):TD:=λσ S R Z=>ta σ S (λx S1=>MeR C m x S1<|t σ S1 (λds S2=>sp (x::(ds++x8)) S2 R Z) Z) Z
theorem Yy{t:iS}(he:DE K X o ta)(c:qQ K C)(hm:Meth K C m f)(F:bI X.prog X.w K X.mg X.base (fN X.prog X.w X.mg) k f fd ps<|qz K sp)(hr:bW k X.A)(hb:Binds K fd ps ds)(hd:M9 K x8 pR ds)(ha:DA K X (e::es) t)
  (xB:autoParam (starEach (e::es) X.env=(false,eval e X.env)::starEach es X.env) qQJ) (cU:autoParam ((backTo pos<|starEach es X.env).any (·.1)=false) qQJ)
  (ht:autoParam (eval (.Call (.Attribute o m apos) (e::es) [] pos) X.env=(do
   let ov <-eval o X.env
   standAt apos.atName
   let (f,first) <-holding [ov] (getMethod ov m pl)
   callWith pos f first (backTo pos<|starEach (e::es) X.env) (backToKw pos<|keywordEach [] X.env))) qQJ) (hK:autoParam (X.K=K) qQJ):
  DE K X (.Call (.Attribute o m apos) (e::es) [] pos) (DL C m sp x8 ta t):=by
 subst hK
 exact⟨λy=>(HL (he.of y) c hm F hr hb hd.v (ha.of y) xB cU ht).mono <| by rintro τ H Q ⟨σ,S,R,Z,aA,hS,q,hR,hZ⟩;exact
  ⟨σ,S,_,Z,aA,hS,q,by
   rintro d S1 x H1 ⟨a,fs,e1,e2,e3,r1⟩ v1 s1 k1
   subst e1
   obtain⟨dx,vs,e4,t4⟩:=s1.ins e2
   exact{a,dx,vs,v1.ref,e4,(t4.look m).2 e3,σ,S1,_,Z,aA.ts k1,s1,r1,λes S2 xs H2 r2 v2 s2 k2=>{_,S2,R,Z,aI (Rv.ts k2 _ v1)<|v2.app<|hd.d _,s2,r2,hR.kp<|k1.trans k2,hZ.kp<|k1.trans k2},hZ.kp k1},hZ⟩⟩
theorem T9(he:DE K X o ta)(c:qQ K C)(hm:Meth K C m f)(F:bI X.prog X.w K X.mg X.base (fN X.prog X.w X.mg) k f fd ps<|qz K sp)(hr:bW k X.A)(hb:Binds K fd ps ds)(hd:M9 K x8 pR ds)
  (ht:autoParam (eval (.Call (.Attribute o m apos) [] [] pos) X.env=(do
   let ov <-eval o X.env
   standAt apos.atName
   let (f,first) <-holding [ov] (getMethod ov m pl)
   callWith pos f first (backTo pos<|starEach [] X.env) (backToKw pos<|keywordEach [] X.env))) qQJ) (hK:autoParam (X.K=K) qQJ):
  DE K X (.Call (.Attribute o m apos) [] [] pos) (DL C m sp x8 ta Lh):=by
 subst hK
 exact⟨λy=>(Fp (he.of y) c hm F hr hb hd.v ht).mono <| by rintro τ H Q ⟨σ,S,R,Z,aA,hS,q,hR,hZ⟩;exact
  ⟨σ,S,_,Z,aA,hS,q,by
   rintro d S1 x H1 ⟨a,fs,e1,e2,e3,r1⟩ v1 s1 k1
   subst e1
   obtain⟨dx,vs,e4,t4⟩:=s1.ins e2
   exact{a,dx,vs,v1.ref,e4,(t4.look m).2 e3,_,S1,R,Z,aI v1<|hd.d _,s1,r1,hR.kp k1,hZ.kp k1},hZ⟩⟩
def T_(C:Addr)(sp:kC)(x8:List D)(t:iS):TD:=λσ S R Z=>t σ S (λds S1=>∀x,S1 x=none->sp (.ref x::(ds++x8)) (S1.set x<|.ins C []) (λd S2=>d=.au/\R (.ref x) S2) Z) Z
theorem mk{t:iS}(M:Mk K C f)(F:bI X.prog X.w K X.mg X.base (fN X.prog X.w X.mg) k f fd ps<|qz K sp)(hr:bW (k+1) X.A)(hm:X.mg x=some (.ref C))(hb:Binds K fd ps ds)(hd:M9 K x8 pR ds)(ha:DA K X (e::es) t) (hg:autoParam (Gl X x) qQJ) (pS:autoParam ((x==("__debug__": Str))=false) qQZ) (he:autoParam (starEach (e::es) X.env=(false,eval e X.env)::starEach es X.env) qQJ) (cU:autoParam ((backTo pos<|starEach es X.env).any (·.1)=false) qQJ) (hK:autoParam (X.K=K) qQJ): DE K X (.Call (.Name x p) (e::es) [] pos) (T_ C sp x8 t):=by
 subst hK
 exact⟨λy=>(HM M F hr hg hm hb hd.v (ha.of y) pS he cU).mono <| by rintro τ H Q ⟨σ,S,R,Z,aA,hS,q,hR,hZ⟩;exact
  ⟨σ,S,_,Z,aA,hS,q,λes S1 xs H1 r1 v1 s1 k1 x dx hx hdx ne=>by
   have Lp:upd H1 dx (.own x) x=none:=by rw[ax ne.symm];exact hx
   have k2:Kp X.K H1 (upd (upd H1 dx<|.own x) x<|.ins C dx []):=(Kp.new hdx).trans<|Kp.new Lp
   exact{_,_,_,Z,aI (ij x)<|RvAll.ts k2 _<|v1.app<|hd.d _,(s1.grow hdx).new (c:=.ins C []) Lp {dx,[],aD,.nil},r1 x<|s1.fresh hx,by rintro d S2 v H2 ⟨e,r2⟩ v2 s2 k3;exact by subst e;exact{v2.au,hR _ _ _ _ r2 (ij x) s2<|(k1.trans k2).trans k3},(hZ.kp k1).kp k2},hZ⟩⟩
inductive FlR (C:Addr) (f:Str) (x:D) (S:aw) (R:KD):Prop where
 |mk (a:Addr) (fs:List<|Str×D) (d:D) (e1:x=.ref a) (e2:S a=some (.ins C fs)) (e3:fs.lookup f=some d) (r:R d S)
def Yz(C:Addr)(f:Str)(ta:TD):TD:=λσ S R Z=>ta σ S (λx S1=>FlR C f x S1 R) Z
theorem fl{f:Str}{ta:TD}(c:qQ K C)(n:ji K C f)(he:DE K X e ta)(hb:autoParam (attributeBase e f X.env (eval e X.env)=eval e X.env) qQJ)(hK:autoParam (X.K=K) qQJ):DE K X (.Attribute e f pos) (Yz C f ta):=by
 subst hK
 exact⟨λy=>(OA (X:=y.cx) (he.of y) hb).mono <| by rintro τ H Q ⟨σ,S,R,Z,aA,hS,q,hR,hZ⟩;exact
  ⟨σ,S,_,Z,aA,hS,q,by
   rintro d S1 x H1 ⟨a,fs,y,e1,e2,e3,r1⟩ v1 s1 k1
   subst e1
   obtain⟨dx,vs,e4,t4⟩:=s1.ins e2
   obtain⟨v,e5,r5⟩:=(t4.look f).1 y e3
   exact{a,C,dx,vs,v,v1.ref,e4,c,n,e5,(hR.kp k1).now s1 r1 r5},hZ⟩⟩
end
structure uJ where
 nx:SD->aw->Prop
 rt:KD
 bk:SD->aw->Prop:=λ_ _=>False
 ct:SD->aw->Prop:=λ_ _=>False
abbrev lU:=uJ->SD->aw->(SD->KX)->Prop
def Na(K:Frag)(H:Hp)(R:SD->aw->Prop)(Q:St->Hp->Prop):Prop:=∀σ S τ H',R σ S->ip K H' σ τ->Rs K S H'->Kp K H H'->Q τ H'
structure V9(K:Frag)(H:Hp)(De:uJ)(Dv:Ends):Prop where
 nx:Na K H De.nx Dv.nx
 rt:Cn K H De.rt Dv.rt
 bk:Na K H De.bk Dv.bk
 ct:Na K H De.ct Dv.ct
def x9(K:Frag)(H:Hp)(Z:SD->KX)(E:St->XK):Prop:=∀σ τ C S H',Z σ C S->ip K H' σ τ->Rs K S H'->Kp K H H'->E τ (.ref C) none H'
section
variable{K:Frag}{H H1:Hp}{De:uJ}{Dv:Ends}{Z:SD->KX}{E:St->XK}{σ:SD}{τ:St}{S:aw}
theorem Na.kp(h:Na K H R Q)(k:Kp K H H1):Na K H1 R Q:=λσ S τ H' r a b c=>h σ S τ H' r a b<|k.trans c
theorem V9.kp(h:V9 K H De Dv)(k:Kp K H H1):V9 K H1 De Dv:={h.nx.kp k,h.rt.kp k,h.bk.kp k,h.ct.kp k}
theorem x9.kp(h:x9 K H Z E)(k:Kp K H H1):x9 K H1 Z E:=λσ τ C S H' r a b c=>h σ τ C S H' r a b<|k.trans c
theorem x9.at(h:x9 K H Z E)(r:ip K H σ τ):Fl K H (Z σ) (E τ):=λC S H' z s k=>h σ τ C S H' z (r.ts k) s k
theorem x9.on(h:x9 K H Z E)(k:Kp K H H1)(r:ip K H1 σ τ):Fl K H1 (Z σ) (E τ):=(h.kp k).at r
end
def Tl(K:Frag)(E:St->XK)(t:lU):TS:=λDv τ H=>∃σ S De Z,ip K H σ τ/\Rs K S H/\t De σ S Z/\V9 K H De Dv/\x9 K H Z E
structure DS(K:Frag)(X:Cx)(b:Bool)(st:Stmt)(t:lU):Prop where
 of:∀y:Ev X b,PS y.cx st<|Tl K y.E t
structure GO(K:Frag)(X:Cx)(b:Bool)(st:List Stmt)(t:lU):Prop where
 of:∀y:Ev X b,Df y.cx st<|Tl K y.E t
theorem PS.mono{t t':TS}(h:PS X e t)(i:∀D τ H,t' D τ H->t D τ H):PS X e t':=λpins s τ H D I q=>h pins s τ H D I<|i D τ H q
theorem Df.mono{t t':TS}(h:Df X e t)(i:∀D τ H,t' D τ H->t D τ H):Df X e t':=λpins s τ H D I q=>h pins s τ H D I<|i D τ H q
section
variable{K:Frag}{X:Cx}{b:Bool}{pos:Pos}
def Ua:lU:=λDe σ S _=>De.nx σ S
def YA(t u:lU):lU:=λDe σ S Z=>t {De with nx:=λaB S'=>u De aB S' Z} σ S Z
theorem s0:GO K X b [] Ua:=⟨λy=>(Ka (X:=y.cx)).mono <| by rintro D τ H ⟨σ,S,De,Z,aA,hS,q,hD,hZ⟩;exact hD.nx _ _ _ _ q aA hS<|.refl _⟩
theorem sc{st:Stmt}{r:List Stmt}{t u:lU}(h1:DS K X b st t)(h2:GO K X b r u):GO K X b (st::r) (YA t u):=
 ⟨λy=>(GY (h1.of y)<|h2.of y).mono <| by rintro D τ H ⟨σ,S,De,Z,aA,hS,q,hD,hZ⟩;exact
  ⟨σ,S,_,Z,aA,hS,q,⟨λxo S1 YB H1 r1 a b c=>⟨xo,S1,De,Z,a,b,r1,hD.kp c,hZ.kp c⟩,hD.rt,hD.bk,hD.ct⟩,hZ⟩⟩
theorem s1{st:Stmt}{t:lU}(h:DS K X b st t):GO K X b [st] t:=⟨λy=>Kb<|h.of y⟩
def Ub(t:TD):lU:=λDe σ S Z=>t σ S (λ_ S1=>De.nx σ S1)<|Z σ
theorem se{t:TD}(h:DE K X e t)(hs:autoParam (swapsWith e none pos.line X.env=pure false) qQJ):DS K X b (.Expr e pos) (Ub t):=⟨λy=>(Kc (X:=y.cx) (h.of y) hs).mono <| by rintro D τ H ⟨σ,S,De,Z,aA,hS,q,hD,hZ⟩;exact{σ,S,_,_,aA,hS,q,λd S1 v H1 r1 _ s1 k1=>hD.nx _ _ _ _ r1 (aA.ts k1) s1 k1,hZ.at aA}⟩
def YC(t:TD):lU:=λDe σ S Z=>t σ S De.rt<|Z σ
theorem sr{t:TD}(h:DE K X e t):DS K X b (.Return (some e) pos) (YC t):=⟨λy=>(N_<|h.of y).mono <| by rintro D τ H ⟨σ,S,De,Z,aA,hS,q,hD,hZ⟩;exact{σ,S,_,_,aA,hS,q,hD.rt,hZ.at aA}⟩
def dIf(c:l8)(t u:lU):lU:=λDe σ S Z=>c σ S (λb S1=>if b=true then t De σ S1 Z else u De σ S1 Z)<|Z σ
theorem si{t u:lU}(hc:DT K X c tc)(ha:GO K X b a t)(hb:GO K X b a' u):DS K X b (.If c a a' pos) (dIf tc t u):=
 ⟨λy=>(R7 (hc.of y) (ha.of y)<|hb.of y).mono <| by rintro D τ H ⟨σ,S,De,Z,aA,hS,q,hD,hZ⟩;exact
  ⟨σ,S,_,_,aA,hS,q,λc S1 H1 r1 s1 k1=>by
   cases c with
   |true=>rw[if_pos rfl]at r1⊢;exact{σ,S1,De,Z,aA.ts k1,s1,r1,hD.kp k1,hZ.kp k1}
   |false=>rw[if_neg ze]at r1⊢;exact{σ,S1,De,Z,aA.ts k1,s1,r1,hD.kp k1,hZ.kp k1},hZ.at aA⟩⟩
abbrev x_:=D->SD->aw->(SD->aw->Prop)->Prop
def Tg(K:Frag)(g:x_):TG:=λv τ H Q=>∃d σ S R,Rv K H d v/\ip K H σ τ/\Rs K S H/\g d σ S R/\Na K H R Q
structure DG(K:Frag)(X:Cx)(e:Expr)(g:x_):Prop where
 of:∀Y:Cx,Y.K=X.K->Y.N=X.N->Y.env=X.env->Y.fn=X.fn->Y.calm=X.calm->PG Y e (Tg K g)
theorem PG.mono{t t':TG}(h:PG X e t)(i:∀v τ H Q,t' v τ H Q->t v τ H Q):PG X e t':=λpins s τ H v u Q I r q=>h pins s τ H v u Q I r<|i v τ H Q q
def V_(i:Nat):x_:=λd σ S R=>R (σ.set i<|some d) S
theorem gn(hN:X.N.Nodup)(hi:autoParam (X.N[i]?=some x) qQJ)(hx:autoParam (Loc X.env.scope x) qJK)(hf:autoParam (X.fn x=true\/X.env.scope.names.lookup x=some .local) qQ8):DG K X (.Name x pos) (V_ i):=⟨λY _ e2 e3 e4 _=>(qr (X:=Y) (by rw[e2];exact hN) (by rw[e2];exact hi) (by rw[e3];exact hx)<|by rw[e3,e4];exact hf).mono <| by rintro v τ H Q ⟨d,σ,S,R,rv,aA,hS,q,hR⟩;exact hR _ S _ H q (aA.set i rv) hS<|.refl _⟩
abbrev Ft:=List D->SD->aw->(SD->aw->Prop)->Prop
def Tgs(K:Frag)(g:Ft):MH:=λvs τ H Q=>∃ds σ S R,RvAll K H ds vs/\ip K H σ τ/\Rs K S H/\g ds σ S R/\Na K H R Q
structure Wa(K:Frag)(X:Cx)(es:List Expr)(g:Ft):Prop where
 of:∀Y:Cx,Y.K=X.K->Y.N=X.N->Y.env=X.env->Y.fn=X.fn->Y.calm=X.calm->MI Y es (Tgs K g)
theorem MI.mono{t t':MH}(h:MI X e t)(i:∀v τ H Q,t' v τ H Q->t v τ H Q):MI X e t':=λpins s τ H v u Q I r q=>h pins s τ H v u Q I r<|i v τ H Q q
def Nb:Ft:=λds σ S R=>ds=[]/\R σ S
def B4(g:x_)(u:Ft):Ft:=λds σ S R=>∃d r,ds=d::r/\g d σ S λxo S1=>u r xo S1 R
theorem g0:Wa K X [] Nb:=⟨λY _ _ _ _ _=>(Di (X:=Y)).mono <| by rintro vs τ H Q ⟨ds,σ,S,R,rv,aA,hS,⟨e,q⟩,hR⟩;exact by subst e;exact{rv.nil,hR _ _ _ _ q aA hS<|.refl _}⟩
theorem gc(h1:DG K X e g)(h2:Wa K X es u)(hs:autoParam (∀env:Env,(assignEach (e::es) env).map (·.2)=assign e env::(assignEach es env).map (·.2)) qQ0):Wa K X (e::es) (B4 g u):=⟨λY a b c d f=>(qM (h1.of Y a b c d f) (h2.of Y a b c d f)<|hs _).mono <| by rintro vs τ H Q ⟨ds,σ,S,R,rv,aA,hS,⟨d,r,e,q⟩,hR⟩;subst e;obtain⟨y,ys,e1,r1,r2⟩:=rv.cons;exact{y,ys,e1,d,σ,S,_,r1,aA,hS,q,λxo S1 YB H1 q1 a b c=>{r,xo,S1,R,RvAll.ts c _ r2,a,b,q1,hR.kp c}}⟩
def Nc(n:Nat)(g:Ft):x_:=λd σ S R=>∃ds,d=.tup ds/\ds.length=n/\g ds σ S R
theorem gt(h:Wa K X es g)(hn:autoParam (∀env:Env,(assignEach es env).length=n) qQ0)(xB:autoParam (∀env:Env,(assignEach es env).findIdx? (·.1)=none) qQ0)(hK:autoParam (X.K=K) qQJ)(hc:autoParam (X.calm=true) qQJ):DG K X (.Tuple es j pos) (Nc n g):=⟨λY a b c d f=>(GZ (X:=Y) (by rw[f];exact hc) (h.of Y a b c d f) (hn _)<|xB _).mono <| by rintro v τ H Q ⟨d,σ,S,R,rv,aA,hS,⟨ds,e,hl,q⟩,hR⟩;subst e;obtain⟨p,xs,e1,e2,t⟩:=rv.tup;exact{p,xs,e1,.of e2,by rw[t.len];exact hl,ds,σ,S,R,t,aA,hS,q,hR}⟩
def Uc(i:Nat)(t:TD):lU:=λDe σ S Z=>t σ S (λd S1=>De.nx (σ.set i<|some d) S1)<|Z σ
theorem cj{t:TD}(hN:X.N.Nodup)(h:DE K X e t)(hi:autoParam (X.N[i]?=some x) qQJ)(hx:autoParam (Loc X.env.scope x) qJK)(hs:autoParam (swapsWith e (some<|.Name x pos') pos.line X.env=pure false) qQJ) (hf:autoParam (X.fn x=true\/X.env.scope.names.lookup x=some .local) qQ8):DS K X b (.Assign [.Name x pos'] e pos) (Uc i t):=⟨λy=>(Od (X:=y.cx) (i:=i) hN hi hx (h.of y) hs hf).mono <| by rintro D τ H ⟨σ,S,De,Z,aA,hS,q,hD,hZ⟩;exact{σ,S,_,_,aA,hS,q,λd S1 v H1 r1 v1 s1 k1=>hD.nx _ _ _ _ r1 ((aA.ts k1).set i v1) s1 k1,hZ.at aA}⟩
def YD(t:TD)(g:x_):lU:=λDe σ S Z=>t σ S (λd S1=>g d σ S1 De.nx)<|Z σ
theorem sa{t:TD}(h:DE K X e t)(hg:DG K X tg g)(hs:autoParam (swapsWithSole [tg] e pos.line X.env=pure false) qQJ)(hw:autoParam (swappedStores [tg] e X.env=pure none) qQJ)(h1:autoParam ((assignEach [tg] X.env).map (·.2)=[assign tg X.env]) qQJ): DS K X b (.Assign [tg] e pos) (YD t g):=⟨λy=>(G0 (X:=y.cx) (h.of y) (hg.of _ rfl rfl rfl rfl rfl) hs hw h1).mono <| by rintro D τ H ⟨σ,S,De,Z,aA,hS,q,hD,hZ⟩;exact{σ,S,_,_,aA,hS,q,λd S1 v H1 r1 v1 s1 k1=>{d,σ,S1,_,v1,aA.ts k1,s1,r1,hD.nx.kp k1},hZ.at aA}⟩
def YE(td ty tv:TD):lU:=λDe σ S Z=>tv σ S (λv S1=>td σ S1 (λx S2=>ty σ S2 (λy S3=>∃a kvs k,x=.ref a/\S3 a=some (.c_ kvs)/\BZ y=some k/\kvs.length<sizeLine/\De.nx σ (S3.set a<|.c_<|dput kvs k v))<|Z σ)<|Z σ)<|Z σ
theorem sd{o i value:Expr}{td ty tv:TD}{pos':Pos}(hu:X.A.units+64<cLine)(ho:DE K X o td)(hi:DE K X i ty)(hv:DE K X value tv)(hs:autoParam (swapsWith value (some<|.Subscript o i pos') pos.line X.env=pure false) qQJ):DS K X b (.Assign [.Subscript o i pos'] value pos) (YE td ty tv):=
 ⟨λy=>(Kx (X:=y.cx) (by show X.A.units+1<cLine;lia) (ho.of y) (hi.of y) (hv.of y) hs).mono <| by rintro D τ H ⟨σ,S,De,Z,aA,hS,q,hD,hZ⟩;exact
  ⟨σ,S,_,_,aA,hS,q,λv S1 vv H1 r1 v1 s1 k1=>⟨σ,S1,_,_,aA.ts k1,s1,r1,λx S2 xv H2 r2 v2 s2 k2=>⟨σ,S2,_,_,aA.ts<|k1.trans k2,s2,r2,by
   rintro y S3 yv H3 ⟨a,kvs,k,e1,e2,e3,hl,r3⟩ v3 s3 k3
   subst e1
   obtain⟨vs,e4,t⟩:=s3.c_ e2
   have kk:=s3.ik (o:=.dK<|putK vs k vv) e2
   refine{a,_,(Rv.ts k3 _ v2).ref,by rw[nO e3 v3];exact Hj.k e4<|by rw[t.len];exact hl,?_}
   exact hD.nx _ _ _ _ r3 (aA.ts<|((k1.trans k2).trans k3).trans kk) (s3.put (c:=.c_ _) e2 {_,aD,(t.put k<|Rv.ts (k2.trans k3) _ v1).ts kk})<|((k1.trans k2).trans k3).trans kk,hZ.on (k1.trans k2)<|aA.ts<|k1.trans k2⟩,hZ.on k1<|aA.ts k1⟩,hZ.at aA⟩⟩
end
section
variable{X:Cx}{pins:List (Addr×Obj)}{σ:St}{H:Hp}{s:Shared}{A:Around}{E:Value->Shared->Prop}{a:Addr}{kvs:List (Key×V)}{k:Key}{u:Value}
theorem Pt(I:Inv X pins σ H s)(e:H a=some (.dK kvs))(ry:RelV (kV k) u)(rz:RelV z r)(hl:kvs.length<sizeLine) (h1:∀v w' s',fQ kvs k=some v->Inv X pins σ H s'->RelV v w'->Q w' s') (h2:fQ kvs k=none->∀s',Inv X pins σ (upd H a<|.dK<|putK kvs k z) s'->Q r s'): wpAny (model X.prog X.w) A (call (.builtin "dict.setdefault") [.ref a,u,r]) Q E s:=by
 obtain⟨zz,hd,vs,rel,dd⟩:=Dy I.aK e;have hp:=oU kvs k z;refine call_meetsIn PySem.F.slot_dict_setdefault dd.typeIs PySem.F.entry_dict_setdefault (PySem.F.args_dict_setdefault_3 _ _ _) (PySem.kt_meets_setdefault (aE X.prog X.w) a (kP ry) hd r) {vs,dd,by rw[<-rel.length];exact zz,λw' hw=>?_,λhn h' MS hs=>?_};cases q:fQ kvs k with|none=>(have:=fO.none_of (o:=valueAt vs k) (by rw[<-q];exact rel.val k);rw[this]at hw;cases hw)|some v=>obtain⟨w2,Ud,rw2⟩:=fO.some_of (v:=v) (o:=valueAt vs k) (by rw[<-q];exact rel.val k);rw[Ud]at hw;cases hw;exact h1 v _ _ q (I.tok _) rw2
 cases q:fQ kvs k with|some v=>(obtain⟨w2,Ud,rw2⟩:=fO.some_of (v:=v) (o:=valueAt vs k) (by rw[<-q];exact rel.val k);rw[Ud]at hn;cases hn)|none=>have he:∃q,h'.get? a=some q:=(by obtain⟨q,_,_,hq,_⟩:=MS;exact⟨q,hq⟩);exact h2 q _<|vq I (by rw[e];exact True.intro) hs he<|BC (by lia) hd (rel.put k rz) MS
end
section
variable{X:Cx}{o e f:Expr}{apos aN:Pos}{td ty tx:TE}
def Ue(td ty tx:TE):TE:=λσ H Q=>td σ H λx H1=>∃a,x=.ref a/\Q8 H1 a/\ty σ H1 λy H2=>tx σ H2 λz H3=>∃kvs k,H3 a=some (.dK kvs)/\y=kV k/\kvs.length<sizeLine/\(∀v,fQ kvs k=some v->Q v H3)/\(fQ kvs k=none->Q z (upd H3 a<|.dK<|putK kvs k z))
theorem HN(ho:PE X o td)(he:PE X e ty)(hf:PE X f tx)(m:M2 X o "setdefault" apos e f aN):PE X (.Call (.Attribute o "setdefault" apos) [e,f] [] aN) (Ue td ty tx):=by intro pins s σ H Q I h;refine wpAny_Call_method m.base m.GJ m.line PySem.F.plainAttrs_dict PySem.F.slot_dict_setdefault PySem.F.type_dict_setdefault<|bz (ho pins s σ H _ I h) λu s1 ⟨x,H1,I1,rx,a,ex,d,q1⟩=>?_;subst ex;obtain rfl:u=Value.ref a:=rx;obtain⟨t1,t2,_⟩:=vt I1 d;refine{t1,t2,?_};rw[m.trees];refine Calls.callWith_builtin rfl<|Calls.evalArgs_plain<|yI<|bz (he pins s1 σ H1 _ I1 q1) λiv s2 ⟨y,H2,I2,ry,q2⟩=>yI<|bz (hf pins s2 σ H2 _ I2 q2) λfv s3 ⟨z,H3,I3,rz,kvs,k,ea,ey,hl,q3,q4⟩=>Calls.spliced_nil ?_;subst ey;exact Pt I3 ea ry rz hl (λv w' s4 l I4 nE=>{v,H3,I4,nE,q3 v l}) λl s4 I4=>{z,_,I4,rz,q4 l}
end
section
variable{K:Frag}{X:Cx}{b:Bool}{o e f:Expr}{apos aN pos:Pos}{td ty tx:TD}
theorem vN(hS:Rs K S H)(e:S a=some (.c_ kvs)):Q8 H a:=by obtain⟨vs,e1,_⟩:=hS.c_ e;exact .inl {vs,.inl e1}
def Ug(td ty:TD):TD:=λσ S R Z=>td σ S (λx S1=>∃a kvs,x=.ref a/\S1 a=some (.c_ kvs)/\ty σ S1 (λy S2=>∃kvs k,S2 a=some (.c_ kvs)/\BZ y=some k/\R ((bZ kvs k).getD .au) S2) Z) Z
theorem HP(hS:Rs K S H)(e:S a=some (.c_ kvs))(r:Rv K H d v):∃o,pT H a (kV k) o/\Rv K H ((bZ kvs k).getD d) (o.getD v):=by obtain⟨o,g,h1,h2⟩:=vK (k:=k) hS e;refine{o,g,?_};cases q:bZ kvs k with|none=>(rw[q]at h1;cases o with|none=>exact r|some _=>cases h1)|some d'=>obtain⟨v',rfl,r'⟩:=h2 d' q;exact r'
theorem mg1(hu:X.A.units+64<cLine)(ho:DE K X o td)(he:DE K X e ty)(m:autoParam (M1 X o "get" apos e aN) qQ4):DE K X (.Call (.Attribute o "get" apos) [e] [] aN) (Ug td ty):=
 ⟨λy=>(Hm (X:=y.cx) (by show X.A.units+1<cLine;lia) (ho.of y) (he.of y) ⟨m.base,m.GJ,m.line,m.trees⟩).mono <| by rintro τ H Q ⟨σ,S,R,Z,aA,hS,q,hR,hZ⟩;exact
  ⟨σ,S,_,Z,aA,hS,q,by
   rintro x S1 xv H1 ⟨a,kvs,e1,e2,r1⟩ v1 s1 k1
   subst e1
   exact⟨a,v1.ref,vN s1 e2,σ,S1,_,Z,aA.ts k1,s1,r1,by
    rintro y S2 yv H2 ⟨kvs,k,e3,e4,r2⟩ v2 s2 k2
    obtain⟨o,g,r⟩:=HP (k:=k) s2 e3 dE
    exact{o,by rw[nO e4 v2];exact g,(hR.kp<|k1.trans k2).now s2 r2 r},hZ.kp k1⟩,hZ⟩⟩
def Uh(td ty tx:TD):TD:=λσ S R Z=>td σ S (λx S1=>∃a kvs,x=.ref a/\S1 a=some (.c_ kvs)/\ty σ S1 (λy S2=>tx σ S2 (λz S3=>∃kvs k,S3 a=some (.c_ kvs)/\BZ y=some k/\R ((bZ kvs k).getD z) S3) Z) Z) Z
theorem mg2(hu:X.A.units+64<cLine)(ho:DE K X o td)(he:DE K X e ty)(hf:DE K X f tx)(m:autoParam (M2 X o "get" apos e f aN) qQ4):DE K X (.Call (.Attribute o "get" apos) [e,f] [] aN) (Uh td ty tx):=
 ⟨λy=>(Hn (X:=y.cx) (by show X.A.units+1<cLine;lia) (ho.of y) (he.of y) (hf.of y) ⟨m.base,m.GJ,m.line,m.trees⟩).mono <| by rintro τ H Q ⟨σ,S,R,Z,aA,hS,q,hR,hZ⟩;exact
  ⟨σ,S,_,Z,aA,hS,q,by
   rintro x S1 xv H1 ⟨a,kvs,e1,e2,r1⟩ v1 s1 k1
   subst e1
   exact⟨a,v1.ref,vN s1 e2,σ,S1,_,Z,aA.ts k1,s1,r1,λy S2 yv H2 r2 v2 s2 k2=>⟨σ,S2,_,Z,aA.ts<|k1.trans k2,s2,r2,by
    rintro z S3 zv H3 ⟨kvs,k,e3,e4,r3⟩ v3 s3 k3
    obtain⟨o,g,r⟩:=HP (k:=k) s3 e3 v3
    exact{o,by rw[nO e4 v2];exact g,(hR.kp<|(k1.trans k2).trans k3).now s3 r3 r},hZ.kp<|k1.trans k2⟩,hZ.kp k1⟩,hZ⟩⟩
def Ui(td ty:TD):TD:=λσ S R Z=>td σ S (λx S1=>∃a kvs,x=.ref a/\S1 a=some (.c_ kvs)/\ty σ S1 (λy S2=>∃kvs k d,S2 a=some (.c_ kvs)/\BZ y=some k/\bZ kvs k=some d/\R d (S2.set a<|.c_<|x5 kvs k)) Z) Z
theorem mp1(ho:DE K X o td)(he:DE K X e ty)(m:autoParam (M1 X o "pop" apos e aN) qQ4):DE K X (.Call (.Attribute o "pop" apos) [e] [] aN) (Ui td ty):=
 ⟨λy=>(Ho (X:=y.cx) (ho.of y) (he.of y) ⟨m.base,m.GJ,m.line,m.trees⟩).mono <| by rintro τ H Q ⟨σ,S,R,Z,aA,hS,q,hR,hZ⟩;exact
  ⟨σ,S,_,Z,aA,hS,q,by
   rintro x S1 xv H1 ⟨a,kvs,e1,e2,r1⟩ v1 s1 k1
   subst e1
   exact⟨a,v1.ref,vN s1 e2,σ,S1,_,Z,aA.ts k1,s1,r1,by
    rintro y S2 yv H2 ⟨kvs,k,d,e3,e4,e5,r2⟩ v2 s2 k2
    obtain⟨vs,e6,t⟩:=s2.c_ e3
    obtain⟨v,e7,r7⟩:=(t.val k).1 d e5
    have kk:=s2.ik (o:=.dK<|oS vs k) e3
    exact{vs,k,v,e6,nO e4 v2,e7,hR _ _ _ _ r2 (Rv.ts kk _ r7) (s2.put (c:=.c_ _) e3 {_,aD,(t.drop k).ts kk})<|(k1.trans k2).trans kk},hZ.kp k1⟩,hZ⟩⟩
def Uj(td ty tx:TD):TD:=λσ S R Z=>td σ S (λx S1=>∃a kvs,x=.ref a/\S1 a=some (.c_ kvs)/\ty σ S1 (λy S2=>tx σ S2 (λz S3=>∃kvs k,S3 a=some (.c_ kvs)/\BZ y=some k/\kvs.length<sizeLine/\(∀d,bZ kvs k=some d->R d S3)/\(bZ kvs k=none->R z (S3.set a<|.c_<|dput kvs k z))) Z) Z) Z
theorem ms2(ho:DE K X o td)(he:DE K X e ty)(hf:DE K X f tx)(m:autoParam (M2 X o "setdefault" apos e f aN) qQ4):DE K X (.Call (.Attribute o "setdefault" apos) [e,f] [] aN) (Uj td ty tx):=
 ⟨λy=>(HN (X:=y.cx) (ho.of y) (he.of y) (hf.of y) ⟨m.base,m.GJ,m.line,m.trees⟩).mono <| by rintro τ H Q ⟨σ,S,R,Z,aA,hS,q,hR,hZ⟩;exact
  ⟨σ,S,_,Z,aA,hS,q,by
   rintro x S1 xv H1 ⟨a,kvs,e1,e2,r1⟩ v1 s1 k1
   subst e1
   exact⟨a,v1.ref,vN s1 e2,σ,S1,_,Z,aA.ts k1,s1,r1,λy S2 yv H2 r2 v2 s2 k2=>⟨σ,S2,_,Z,aA.ts<|k1.trans k2,s2,r2,by
    rintro z S3 zv H3 ⟨kvs,k,e3,e4,hl,r3,r4⟩ v3 s3 k3
    obtain⟨vs,e6,t⟩:=s3.c_ e3
    have kk:=s3.ik (o:=.dK<|putK vs k zv) e3
    have hR3:=hR.kp<|(k1.trans k2).trans k3
    refine{vs,k,e6,nO e4<|Rv.ts k3 _ v2,by rw[t.len];exact hl,λv hv=>?_,λhn=>?_}
    ·cases q:bZ kvs k with
     |none=>rw[(t.val k).2 q]at hv;cases hv
     |some d =>
      obtain⟨v',e7,r7⟩:=(t.val k).1 d q
      rw[e7]at hv;cases hv
      exact hR3.now s3 (r3 d q) r7
    ·cases q:bZ kvs k with
     |some d=>obtain⟨v',e7,r7⟩:=(t.val k).1 d q;rw[e7]at hn;cases hn
     |none=>exact hR3 _ _ _ _ (r4 q) (Rv.ts kk _ v3) (s3.put (c:=.c_ _) e3 {_,aD,(t.put k v3).ts kk}) kk,hZ.kp<|k1.trans k2⟩,hZ.kp k1⟩,hZ⟩⟩
noncomputable def B6(f:Str)(d:D):List (Str×D)->List (Str×D)|[]=>[(f,d)]| (g,x)::r=>if g=f then (g,d)::r else (g,x)::B6 f d r
theorem bX.B6{H:Hp}{f:Str}{d:D}{v:V}(rd:Rv K H d v):∀{ks:List (Str×D)}{vs:List (Str×V)},bX K H ks vs->bX K H (B6 f d ks) (putF f v vs)|_,_,.nil=>.cons ⟨rfl,rd⟩ .nil| (g,x)::r,(g',y)::r',.cons h t=>by obtain⟨e,h⟩:=h;dsimp only at e;subst e;show bX K H (if g=f then (g,d)::r else (g,x)::L2.B6 f d r) (if g=f then (g,v)::r' else (g,y)::putF f v r');by_cases q:g=f;rw[if_pos q,if_pos q];exact .cons ⟨rfl,rd⟩ t;rw[if_neg q,if_neg q];exact .cons ⟨rfl,h⟩<|bX.B6 rd t
def Uk(C:Addr)(f:Str)(ta tv:TD):lU:=λDe σ S Z=>tv σ S (λy S1=>ta σ S1 (λx S2=>∃a fs,x=.ref a/\S2 a=some (.ins C fs)/\fs.length<1000/\De.nx σ (S2.set a<|.ins C<|B6 f y fs))<|Z σ)<|Z σ
theorem sf{C:Addr}{f:Str}{value:Expr}{ta tv:TD}{pos':Pos}(c:qQ K C)(n:ji K C f)(ha:DE K X o ta)(hv:DE K X value tv)(hs:autoParam (swapsWith value (some<|.Attribute o f pos') pos.line X.env=pure false) qQJ)(hK:autoParam (X.K=K) qQJ): DS K X b (.Assign [.Attribute o f pos'] value pos) (Uk C f ta tv):=by
 subst hK
 exact⟨λy=>(OB (X:=y.cx) (ha.of y) (hv.of y) hs).mono <| by rintro D τ H ⟨σ,S,De,Z,aA,hS,q,hD,hZ⟩;exact
  ⟨σ,S,_,_,aA,hS,q,λy S1 yv H1 r1 v1 s1 k1=>⟨σ,S1,_,_,aA.ts k1,s1,r1,by
   rintro x S2 xv H2 ⟨a,fs,e1,e2,hl,r2⟩ v2 s2 k2
   subst e1
   obtain⟨dx,vs,e4,t4⟩:=s2.ins e2
   have kk:=s2.ik (o:=.ins C dx<|putF f yv vs) e2
   exact{a,C,dx,vs,v2.ref,e4,c,n,by rw[t4.len];exact hl,hD.nx _ _ _ _ r2 (aA.ts<|(k1.trans k2).trans kk) (s2.put (c:=.ins C _) e2 {dx,_,aD,(bX.B6 (Rv.ts k2 _ v1) t4).ts kk})<|(k1.trans k2).trans kk},hZ.on k1<|aA.ts k1⟩,hZ.at aA⟩⟩
def Pu(C:Addr)(t:iS):lU:=λ_ σ S Z=>t σ S (λds S1=>ds.length<=sizeLine/\Z σ C S1)<|Z σ
end
section
variable{K:Frag}{X:Cx}{C:Addr}{x:Str}{e:Expr}{es:List Expr}{np aN pos:Pos}
theorem Fu{t:TA}{y:Ev X true}(hc:X.calm=true)(c:XC X.K C)(hg:Gl X x)(hm:X.mg x=some (.ref C))(ha:PA y.cx (e::es) t)(pS:(x==("__debug__": Str))=false) (he:starEach (e::es) X.env=(false,eval e X.env)::starEach es X.env) (cU:(backTo aN<|starEach es X.env).any (·.1)=false): PS y.cx (.Raise (some<|.Call (.Name x np) (e::es) [] aN) none pos) (λ_ σ H=>t σ H λvs H1=>vs.length<=sizeLine/\y.E σ (.ref C) none H1):=by intro pins s σ H D I h;obtain⟨bm,N,nm,q,bs,hdct,sn,sub,ab,col,dd,k0,k1,k2,k3,k5,mN,hC,hN,V3,T⟩:=c.at I.mod.Q2;have l4:bm.contains (.type "BaseException")=true:=T.hasType (by decide);refine wpAny_Raise_call_subT (C:=C) (nm:=nm) (q:=q) (N:=N) (bs:=bs) (bm:=bm) (hdct:=hdct) (sn:=sn) (sub:=sub) (ab:=ab) (col:=col) (dd:=dd) (k0:=k0) (k1:=k1) (k2:=k2) (k3:=k3) (k5:=k5) PySem.F.excBase_ValueError (mN:=mN) l4 (I.ok.hd hc) (by show((backTo aN<|starEach (e::es) X.env).any (·.1))=false;rw[he];show(false||(backTo aN<|starEach es X.env).any (·.1))=false;rw[cU];rfl) V3<|qq I hg hm {rfl,?_} pS;have h1:=ha aN pins s σ H _ I h;have Wb:starEach (e::es) y.cx.env=(false,eval e X.env)::starEach es X.env:=he;rw[Wb]at h1⊢;exact Calls.evalArgs_plain<|bz h1 <| by rintro us s2 ⟨vs,H2,I2,r,z,q2⟩;exact{rfl,by show us.length<=sizeLine;rw[<-r.length];exact z,I2.bk _ _ hC,hN.keeps I2.bk,T.keeps I2.bk,λh' a hx=>y.ok.own rfl pins σ H2 s2 h' a _ _ I2 hx q2}
theorem rC{t:iS}(c:XC K C)(hm:X.mg x=some (.ref C))(ha:DA K X (e::es) t)(hg:autoParam (Gl X x) qQJ)(pS:autoParam ((x==("__debug__": Str))=false) qQZ) (he:autoParam (starEach (e::es) X.env=(false,eval e X.env)::starEach es X.env) qQJ) (cU:autoParam ((backTo aN<|starEach es X.env).any (·.1)=false) qQJ) (hc:autoParam (X.calm=true) qQJ) (hK:autoParam (X.K=K) qQJ): DS K X true (.Raise (some<|.Call (.Name x np) (e::es) [] aN) none pos) (Pu C t):=by subst hK;exact⟨λy=>(Fu (y:=y) hc c hg hm (ha.of y) pS he cU).mono λD τ H ⟨σ,S,De,Z,aA,hS,q,hD,hZ⟩=>{σ,S,_,_,aA,hS,q,λds S1 vs H1 ⟨hl,r1⟩ v1 s1 k1=>{by rw[v1.len];exact hl,hZ.at aA C S1 H1 r1 s1 k1},hZ.at aA}⟩
end
structure nQ where
 xs:List D
 ok:aw->Prop
def Ul(K:Frag)(H0:Hp)(J:It)(I:nQ):Prop:=∀i S H,Kp K H0 H->Rs K S H->I.ok S->(∀d,I.xs[i]?=some d->J.go i H/\∀x H',J.R9 i H x H'->Rv K H' d x/\Kp K H H'/\Rs K S H')/\(I.xs.length<=i->J.stop i H)
abbrev A_:=SD->aw->(nQ->aw->Prop)->KX->Prop
def Ti(K:Frag)(E:St->XK)(t:A_):TI:=λτ H R=>∃σ S RI Z,ip K H σ τ/\Rs K S H/\t σ S RI Z/\(∀I S' J H',RI I S'->Ul K H' J I->Rs K S' H'->Kp K H H'->R J H')/\Fl K H Z (E τ)
structure DI(K:Frag)(X:Cx)(tg it:Expr)(t:A_):Prop where
 of:∀{b:Bool}(y:Ev X b),PI y.cx tg it<|Ti K y.E t
theorem PI.mono{t t':TI}(h:PI X tg it t)(i:∀τ H R,t' τ H R->t τ H R):PI X tg it t':=λpins s τ H R I q=>h pins s τ H R I<|i τ H R q
section
variable{K:Frag}{X:Cx}{tg l:Expr}
def YF(t:TD):A_:=λσ S R Z=>t σ S (λx S1=>∃ds,xY S1 x ds/\R {ds,λS=>xY S x ds} S1) Z
theorem il{t:TD}(h:DE K X l t)(hK:autoParam (X.K=K) qQJ):DI K X tg l (YF t):=by subst hK;exact⟨λy=>(Kg (X:=y.cx)<|h.of y).mono <| by rintro τ H R ⟨σ,S,RI,Z,aA,hS,q,hR,hZ⟩;exact{σ,S,_,Z,aA,hS,q,by rintro x S1 v H1 ⟨ds,h1,r1⟩ v1 s1 k1;obtain⟨a,xs,rfl,hq,t⟩:=h1.at s1 v1;refine{a,rfl,⟨xs,hq⟩,hR _ S1 _ H1 r1 (λi S2 H2 k2 s2 Wc=>?_) s1 k1};obtain⟨a',Pw,e',GN,t'⟩:=xY.at Wc s2<|Rv.ts k2 _ v1;cases e';refine{λd hd=>?_,λhl=>{Pw,GN,by rw[t'.len];exact hl}};obtain⟨v,e1,r⟩:=t'.get hd;refine{⟨Pw,v,GN,e1⟩,λx' H' ⟨e2,e3⟩=>?_};subst e2;have:=e3 Pw GN;rw[e1]at this;cases this;exact{r,.refl _,s2},hZ}⟩
def Um(t:TD):A_:=λσ S R Z=>t σ S (λx S1=>∃ds,(x=.tup ds\/x=.kt ds)/\R {ds,λ_=>True} S1) Z
theorem Px{H:Hp}{x:D}{ds:List D}{v:V}(h:x=.tup ds\/x=.kt ds)(r:Rv K H x v):∃a xs,v=.ref a/\(∀H',Kp K H H'->iM K H' a xs)/\RvAll K H ds xs:=by rcases h with rfl|rfl;obtain⟨a,xs,rfl,q,t⟩:=r.tup;exact{a,xs,rfl,λH' k=>.of<|k.t _ _ q,t};obtain⟨a,xs,rfl,q,t⟩:=r.kt;exact{a,xs,rfl,λH' k=>.inr q,t}
theorem GP{t:TD}(h:DE K X l t)(hK:autoParam (X.K=K) qQJ):DI K X tg l (Um t):=by subst hK;exact⟨λy=>(Oj (X:=y.cx)<|h.of y).mono <| by rintro τ H R ⟨σ,S,RI,Z,aA,hS,q,hR,hZ⟩;exact{σ,S,_,Z,aA,hS,q,by rintro x S1 v H1 ⟨ds,h1,r1⟩ v1 s1 k1;obtain⟨a,xs,rfl,hq,t⟩:=Px h1 v1;refine{a,rfl,{xs,hq _<|.refl _},hR _ S1 _ H1 r1 (λi S2 H2 k2 s2 _=>?_) s1 k1};have Rm:=hq H2 k2;refine{λd hd=>?_,λhl=>{xs,Rm,by rw[t.len];exact hl}};obtain⟨v,e1,r⟩:=(RvAll.ts k2 _ t).get hd;refine{⟨xs,v,Rm,e1⟩,λx' H' ⟨e2,e3⟩=>?_};subst e2;have:=e3 xs Rm;rw[e1]at this;cases this;exact{r,.refl _,s2},hZ}⟩
noncomputable def df(lo:Int)(n:Nat):List D:=(List.range n).map λi=>D.int<|lo+(i:Nat)
theorem bL{lo:Int}{n:Nat} : (df lo n).length=n:=by unfold df;rw[zb,List.length_range]
theorem cB{lo:Int}{n i:Nat}{d:D}(h:(df lo n)[i]?=some d):i<n/\d=.int (lo+i):=by unfold df at h;rw[zg]at h;by_cases q:i<n;rw[List.getElem?_range q]at h;exact{q,(zU h).symm};rw[List.getElem?_eq_none<|by rw[List.length_range];omega]at h;cases h
theorem Py{H0:Hp}{lo:Int}{n:Nat} : Ul K H0 (VV lo n) {df lo n,λ_=>True}:=λi S H k s _=>{λd hd=>by obtain⟨h1,rfl⟩:=cB hd;exact{h1,by rintro x H' ⟨e1,e2⟩;exact by subst e1 e2;exact{aO _,.refl _,s}},λhl=>by rw[bL]at hl;exact hl}
def YG(t:iS):A_:=λσ S R Z=>t σ S (λds S1=>∃j:Int,ds=[.int j]/\-(2^62)<=j/\j<2^62/\R {df 0 j.toNat,λ_=>True} S1) Z
theorem JU{t:iS}(hm:X.mg "range"= none)(ha:DA K X [a] t)(hg:autoParam (Gl X "range") qQJ)(hs:autoParam (starEach [a] X.env=[(false,eval a X.env)]) qQJ):DI K X tg (.Call (.Name "range" p) [a] [] pos) (YG t):=⟨λy=>(EL (X:=y.cx) hg hm (ha.of y) hs).mono <| by rintro τ H R ⟨σ,S,RI,Z,aA,hS,q,hR,hZ⟩;exact{σ,S,_,Z,aA,hS,q,by rintro ds S1 vs H1 ⟨j,e,h1,h2,r1⟩ v1 s1 k1;subst e;obtain⟨v,rfl,r⟩:=v1.one;exact{j,by rw[r.int],h1,h2,hR _ S1 _ H1 r1 Py s1 k1},hZ}⟩
end
section
variable{K:Frag}{X:Cx}{tg iter:Expr}{pos:Pos}
def YH(ti:A_)(g:x_)(tb:lU):lU:=λDe σ S Z=>ti σ S (λI S1=>∃P:Nat->SD->aw->Prop,P 0 σ S1/\(∀i σ S,P i σ S->I.ok S)/\(∀i d σ S,I.xs[i]?=some d->P i σ S->g d σ S λqt S2=>tb {De with nx:=P<|i+1,ct:=P<|i+1,bk:=De.nx} qt S2 Z)/\∀σ S,P I.xs.length σ S->De.nx σ S)<|Z σ
theorem DM(hi:DI K X tg iter ti)(hg:DG K X tg g)(hb:GO K X true body tb)(hs:autoParam (∀x,foldedSetIterable iter X.env x=pure x) qQ0)(hc:autoParam (X.calm=true) qQJ):DS K X true (.For tg iter body [] pos) (YH ti g tb):=
 ⟨λy=>(Ol (X:=y.cx) (y.ok.loop rfl) hc (hi.of y) (hg.of _ rfl rfl rfl rfl rfl) (hb.of y) hs).mono <| by rintro D τ H ⟨σ,S,De,Z,aA,hS,q,hD,hZ⟩;exact
  ⟨σ,S,_,_,aA,hS,q,by
   rintro I S1 J H1 ⟨P,p0,YI,YJ,pend⟩ hJ s1 k1
   refine{λi m τ H=>m=I.xs.length-i/\i<=I.xs.length/\∃σ S,ip K H σ τ/\Rs K S H/\P i σ S/\Kp K H1 H,!{zT _,σ,S1,aA.ts k1,s1,p0,.refl _},?_}
   rintro i m τ2 H2 ⟨rfl,Uo,qt,S2,a2,s2,p2,k2⟩
   have ok:=hJ i S2 H2 k2 s2<|YI _ _ _ p2
   by_cases eO:i<I.xs.length
   ·obtain⟨go,yl⟩:=ok.1 _ (zf eO)
    refine .inr {go,λRk H'=>i+1<=I.xs.length/\∃σ S,ip K H' σ Rk/\Rs K S H'/\P (i+1) σ S/\Kp K H1 H',λaB H' h'=>{_,by omega,rfl,h'},λx H' hy=>?_}
    obtain⟨rx,k3,s3⟩:=yl x H' hy
    refine{_,qt,S2,_,rx,a2.ts k3,s3,YJ i _ qt S2 (zf eO) p2,λWd S4 τ4 H4 r4 a4 s4 k4=>?_}
    have kk:=(k2.trans k3).trans k4
    exact{Wd,S4,_,Z,a4,s4,r4,{λPz S5 YK H5 r5 a5 s5 k5=>{eO,Pz,S5,a5,s5,r5,kk.trans k5},hD.rt.kp<|k1.trans kk,(hD.nx.kp<|k1.trans kk),λPz S5 YK H5 r5 a5 s5 k5=>{eO,Pz,S5,a5,s5,r5,kk.trans k5}},hZ.kp<|k1.trans kk}
   ·have e:i=I.xs.length:=by omega
    subst e
    exact .inl {ok.2<|zq _,hD.nx _ _ _ _ (pend _ _ p2) a2 s2<|k1.trans k2},hZ.at aA⟩⟩
end
noncomputable def ma(σ:SD)(src:List<|Option Nat):SD:=src.map λo=>match o with|some j=>(σ[j]?).join|none=>none
theorem ip.pick{K:Frag}{H:Hp}{σ:SD}{τ:St}(h:ip K H σ τ):∀src:List (Option Nat),ip K H (ma σ src) (pick τ src)|[]=>.nil|o::r=>.cons (λd e=>by cases o with|none=>(cases e)|some j=>dsimp only at e⊢;cases q:σ[j]? with|none=>(rw[q]at e;cases e)|some o'=>rw[q]at e;obtain rfl:o'=some d:=e;obtain⟨v,e1,r1⟩:=h.get q;exact{v,by rw[e1];rfl,r1})<|ip.pick h r
def Zf:KX:=λ_ _=>False
def yZ(σ:SD)(src:List<|Option Nat)(g:x_)(tc:l8)(te:TD)(R:KD)(I:nQ)(S1:aw):Prop:=∃P:Nat->List D->aw->Prop,P 0 [] S1/\(∀i out S,P i out S->I.ok S)/\(∀i d out S,I.xs[i]?=some d->P i out S->out.length<sizeLine/\g d (ma σ src) S λfP S3=>tc fP S3 (λb S4=>if b=true then te fP S4 (λv S5=>P (i+1) (out++[v]) S5) Zf else P (i+1) out S4) Zf)/\∀out S2,P I.xs.length out S2->∀p,S2 p=none->R (.ref p) (S2.set p<|.lst out)
def DN(ti:A_)(src:List<|Option Nat)(g:x_)(tc:l8)(te:TD):TD:=λσ S R Z=>ti σ S (λI S1=>yZ σ src g tc te R I S1) Z
theorem Fl.f{K:Frag}{H:Hp}{e:XK} : Fl K H Zf e:=λ_ _ _ z=>z.elim
theorem T.comp{K:Frag}{E E':St->XK}{ti:A_}{src:List<|Option Nat}{g:TG}{gd:x_}{tc:l8}{te:TD}{τ:St}{H:Hp}{Q:VK}(hg:∀v τ H Q,Tg K gd v τ H Q->g v τ H Q) (h:T K E (DN ti src gd tc te) τ H Q):Hs (Ti K E ti) src g (Tt K E' tc) (T K E' te) τ H Q:=by
 obtain⟨σ,S,R,Z,aA,hS,q,hR,hZ⟩:=h;refine{σ,S,_,Z,aA,hS,q,λI S1 J H1 ⟨P,p0,YI,YJ,pend⟩ hJ s1 k1=>?_,hZ};refine{λi m out H=>m=I.xs.length-i/\i<=I.xs.length/\∃ds S,RvAll K H ds out/\Rs K S H/\P i ds S/\Kp K H1 H,!{zT _,[],S1,br,s1,p0,.refl _},?_};rintro i m out H2 ⟨rfl,Uo,ds,S2,v2,s2,p2,k2⟩;have ok:=hJ i S2 H2 k2 s2<|YI _ _ _ p2;by_cases eO:i<I.xs.length;obtain⟨go,yl⟩:=ok.1 _<|zf eO;obtain⟨hz,st⟩:=YJ i _ ds S2 (zf eO) p2;refine .inr {go,by rw[v2.len];exact hz,λx H' hy=>?_};obtain⟨rx,k3,s3⟩:=yl x H' hy;refine hg _ _ _ _ {_,_,S2,_,rx,(((aA.ts k1).ts k2).ts k3).pick src,s3,st,λWd S4 τ4 H4 r4 a4 s4 k4=>?_};refine{Wd,S4,_,Zf,a4,s4,r4,λc S5 H5 r5 s5 k5=>?_,.f};cases c with|true=>rw[if_pos rfl]at r5⊢;exact{Wd,S5,_,Zf,a4.ts k5,s5,r5,λd S6 v H6 r6 v6 s6 k6=>{_,by omega,rfl,eO,ds++[d],S6,(RvAll.ts (((k3.trans k4).trans k5).trans k6) _ v2).app<|aI v6 br,s6,r6,(((k2.trans k3).trans k4).trans k5).trans k6},.f}|false=>rw[if_neg ze]at r5⊢;exact{_,by omega,rfl,eO,ds,S5,RvAll.ts ((k3.trans k4).trans k5) _ v2,s5,r5,((k2.trans k3).trans k4).trans k5}
 have e:i=I.xs.length:=by omega
 subst e;exact .inl {ok.2<|zq _,λp hp=>(hR.kp<|k1.trans k2).new s2 hp (pend _ _ p2 p) v2}
noncomputable def Ev.none(X:Cx)(h:X.xe=λ_ _=>False):Ev X false:={X.pn,X.xe,λ_=>E0,{by rintro p2 τ H s e s' _ ⟨_,_,_,_,_,_,_,_,_,z⟩;exact z.elim,λe=>(by cases e),λe=>(by cases e)}}
section
variable{K:Frag}{X:Cx}{b:Bool}{N:List Str}{src:List (Option Nat)}{scope:Scope}{tg iter elt:Expr}{ifs:List Expr}{pos:Pos}{ti:A_}{g:TG}{gd:x_}{tc:l8}{te:TD}
structure We(K:Frag)(X:Cx)(ifs:List Expr)(t:l8):Prop where
 of:∀{b:Bool}(y:Ev X b),Q9 y.cx ifs<|Tt K y.E t
def mf:l8:=λ_ S R _=>R true S
theorem nR:We K X [] mf:=⟨λy pins s τ H Q I ⟨σ,S,R,Z,aA,hS,q,hR,hZ⟩=>KA pins s τ H Q I<|hR true S H q hS<|.refl _⟩
theorem if1{t:l8}(h:DT K X c t):We K X [c] t:=⟨λy=>KC<|h.of y⟩
theorem tQ(S:bK X N src scope)(hit:DI K X tg iter ti)(hg:∀C s H ex pn,PG (iO X N scope C s H ex pn) tg g)(hx:BD g src)(YL:∀v τ H Q,Tg K gd v τ H Q->g v τ H Q) (hi:∀C s H ex pn,We K (iO X N scope C s H ex pn) ifs tc) (he:∀C s H ex pn,DE K (iO X N scope C s H ex pn) elt te) (hs:autoParam (∀x,foldedSetIterable iter X.env x=pure x) qQ0) (hc:autoParam (X.calm=true) qQJ):DE K X (.ListComp elt [{tg,iter,ifs,0}] scope pos) (DN ti src gd tc te):=⟨λy=>(KH (X:=y.cx) (tc:=Tt K (λ_=>E0) tc) (te:=T K (λ_=>E0) te) ⟨S.kind,S.gw,S.loc,S.A8,S.len,S.src⟩ hc (hit.of y) hg hx (λC s H ex pn=>(hi C s H ex pn).of<|.none _ rfl) (λC s H ex pn=>(he C s H ex pn).of<|.none _ rfl) hs).mono λ_ _ _ h=>h.comp YL⟩
theorem HQ(hN:X.N.Nodup)(S:bK X N src scope)(hit:DI K X tg iter ti)(hg:∀C s H ex pn,PG (iO X N scope C s H ex pn) tg g)(hx:BD g src)(YL:∀v τ H Q,Tg K gd v τ H Q->g v τ H Q) (hi:∀C s H ex pn,We K (iO X N scope C s H ex pn) ifs tc) (he:∀C s H ex pn,DE K (iO X N scope C s H ex pn) elt te) (XS:autoParam (X.N[i]?=some x) qQJ) (xQ:autoParam (X.env.scope.names.lookup x=some .local) qQJ) (XT:autoParam (swapsWith (.ListComp elt [{tg,iter,ifs,0}] scope pos) (some<|.Name x pos') KJ.line X.env=pure true) qQJ) (hs:autoParam (∀x,foldedSetIterable iter X.env x=pure x) qQ0) (hc:autoParam (X.calm=true) qQJ):DS K X b (.Assign [.Name x pos'] (.ListComp elt [{tg,iter,ifs,0}] scope pos) KJ) (Uc i<|DN ti src gd tc te):=⟨λy=>(BE (X:=y.cx) (i:=i) (tc:=Tt K (λ_=>E0) tc) (te:=T K (λ_=>E0) te) hN XS xQ ⟨S.kind,S.gw,S.loc,S.A8,S.len,S.src⟩ hc (hit.of y) hg hx (λC s H ex pn=>(hi C s H ex pn).of<|.none _ rfl) (λC s H ex pn=>(he C s H ex pn).of<|.none _ rfl) XT hs).mono <| by rintro D τ H ⟨σ,S,De,Z,aA,hS,q,hD,hZ⟩;exact T.comp YL {σ,S,_,_,aA,hS,q,λd S1 v H1 r1 v1 s1 k1=>hD.nx _ _ _ _ r1 ((aA.ts k1).set i v1) s1 k1,hZ.at aA}⟩
theorem aS:∀v τ H Q,Tg K (V_ i) v τ H Q->iN i v τ H Q:=by rintro v τ H Q ⟨d,σ,S,R,rv,aA,hS,q,hR⟩;exact hR _ S _ H q (aA.set i rv) hS<|.refl _
end
structure vO(K:Frag)(x qual:Str)(st:Stmt)(f:Addr)(fd:FuncData):Prop where
 ex:∃(oc:Value)(od:Option Addr)(dV kV doc pm:Value)(an:Option Addr)(fT ct:Value)(OF:Array (Option Value)),
  fd=fnOf x qual (bc st) (aZ st) (ae st) dV kV doc pm an fT ct/\K.lookup f=some {oc,od,.func fd,OF}/\codeIn K fT qual=true
noncomputable def jr(N:List Str)(ds:List D):SD:=ds.map some++List.replicate (N.length-ds.length) none
section
variable{i:Nat}{P:Program}{w:World}{K:Frag}{mg:Str->Option Value}{base:Heap}
theorem vO.okD{x qual:Str}{st:Stmt}{f:Addr}{fd:FuncData}{N ps:List Str}{k:Nat}{sp:kC}(F:vO K x qual st f fd)(S:fS N ps<|ae st)(len:∀ds S R Z,sp ds S R Z->ds.length=ps.length) (lY:∀(fT:Value)(A:Around)(outer:List Env)(s:Shared)(H:Hp)(E:XK)(ds:List D)(S:aw)(R:KD)(Z:KX),bW k (A.deeper<|envOfC qual (ae st) s.heap.objs.size f fT)->sp ds S R Z->∃t,GO K (kx (fN P w mg) P w K mg base N qual (ae st) f fT A outer s H E) true (aZ st) t/\t {nx:=λ_ S'=>R .au S',rt:=R} (jr N ds) S λ_=>Z):bI P w K mg base (fN P w mg) (k+1) f fd ps (qz K sp):=by
 obtain⟨oc,od,dV,kV,doc,pm,an,fT,ct,OF,rfl,lk,s_⟩:=F.ex;have cU:ps.length<=N.length:=by have:=congrArg List.length S.pre;rw[yp]at this;lia
 refine MQ lk s_ S (by rintro vs H Q E ⟨ds,S',R,Z,v,_,h,_⟩;exact by rw[v.len];exact len _ _ _ _ h) λA outer s H vs Q E hr ⟨ds,S',R,Z,v,hS,h,hR,hZ⟩=>?_;obtain⟨t,ht,q⟩:=lY fT A outer s H E ds S' R Z hr h;have L:cW (kx (fN P w mg) P w K mg base N qual (ae st) f fT A outer s H E) E:=uH;let y:Ev (kx (fN P w mg) P w K mg base N qual (ae st) f fT A outer s H E) true:={_,(kx (fN P w mg) P w K mg base N qual (ae st) f fT A outer s H E).xe,λ_=>E,{λp2 τ H1 s1 e s' I h=>MW L p2 τ H1 s1 e s' I h,λ_ p2 τ H1 s1 h' a cls args I hx he=>oW L I hx he,λ_=>PassesOwn.leaving}};refine{Tl K (λ_=>E) t,ht.of y,jr N ds,S',_,λ_=>Z,?_,hS,q,{λσ S1 τ H1 r a b c=>hR.kp c |>.now b r dE,hR,λ_ _ _ _ z=>z.elim,λ_ _ _ _ z=>z.elim},λσ τ C S1 H1 z a b c=>hZ C S1 H1 z b c};unfold jr start;refine(rm v).app ?_;rw[v.len];exact rl _ _<|by rw[List.length_replicate]
theorem bI.Lq(F:bI P w K mg base (fN P w mg) k f fd ps<|qz K sp)(h:∀ds S R Z,VX ds S R Z->sp ds S R Z):bI P w K mg base (fN P w mg) k f fd ps (qz K VX):=F.imp <| by rintro vs H Q E ⟨ds,S,R,Z,a,b,c,d⟩;exact{ds,S,R,Z,a,b,h _ _ _ _ c,d}
theorem bI.calm(F:bI P w K mg base (fN P w mg) k f fd ps sp):bI P w K mg base VZ k f fd ps λvs H Q _=>sp vs H Q E0:=by refine{λvs H Q E h=>F.len vs H Q E0 h,λA outer s H args us vs Q E hr e0 hb r h=>yV (F.run A outer s H args us vs Q E0 hr e0 hb r h) λres s' q=>?_};cases res with|error e=>(obtain⟨_,_,_,_,_,_,_,_,_,z⟩:=q;exact z.elim)|ok fl=>cases fl<;>exact q
noncomputable def uJ.less(De:uJ)(i:Nat):uJ:={nx:=λσ S=>De.nx (σ.set i none) S,rt:=De.rt,bk:=λσ S=>De.bk (σ.set i none) S,ct:=λσ S=>De.ct (σ.set i none) S}
end
theorem uK{P:Program}{w:World} : ∀{ss:List Str}{vs:List Value},vs.length=ss.length->(∀(j:Nat)(v:Value),vs[j]?=some v->∃x,ss[j]?=some x/\keyIs (.inr x) v=true)->StrsAre vs ss|[],[],_,_=>.nil|[],_::_,h,_=>by simp at h|_::_,[],h,_=>by simp at h|x::ss,v::vs,h,k=>by obtain⟨x',e,q⟩:=k 0 v rfl;cases e;rcases bC q with⟨i,t,e,_⟩|⟨y,t,e,rfl⟩;cases e;cases e;exact .cons x t<|uK (P:=P) (w:=w) (by simpa using h) λj v e=>k (j+1) v<|by simpa using e
theorem uL:∀{vs:List Value}{ss:List Str},StrsAre vs ss->Vals (ss.map V.str) vs|_,_,.nil=>.nil|_,_,.cons y t h=>.cons ⟨t,rfl⟩<|uL h
theorem KV.YM{κ:Type}{kvs:List<|κ×V}{vs:List<|κ×Value}(h:KV kvs vs):vs.map (·.1)=kvs.map (·.1):=by unfold KV at h;induction h with|nil=>rfl|cons r t ih=>rw[zA,zA,ih,r.1]
theorem HR{prog:Program}{w:World}{A:Around}{E:Value->Shared->Prop}{s:Shared}{T:String}{r d:Addr}{n:Nat}{P:Nat->Value->Prop}{OK:Heap->Prop}{R:List Value->Shared->Prop}(K:PySem.W.KdlSrc prog w T r d n P OK)(hh:A.handled=none)(aK:OK s.heap)(hn:n<=sizeLine) (h:∀(h':Heap) (tk:Nat) (acc:Array Value),(∀b o,s.heap.get? b=some o->h'.get? b=some o)->s.heap.objs.size<=h'.objs.size->ItemsOf P acc n->R acc.toList {s with heap:=h',toks:=tk}): wpAny (model prog w) A (collect<|.ref r) R E s:=by have eO:=K.there _ aK;unfold collect;refine zc<|wpAny_runValue<|yQ entry_proto_collect' ?_;rw[Around.under_plainId PySem.F.plain_proto_collect _];show wpAny _ A.in1 (newList [] >>=λl=>again<|.builtin "list.__iadd__" {[l,.ref r],[]}) _ _ s;refine zc<|yj ?_;refine zm {plainId_quiet PySem.F.plain_list_iadd _,yQ entry_list_iadd' ?_};rw[Around.under_plainId PySem.F.plain_list_iadd _];have Up:(s.heap.push {cls:=.type "list",data:=.seq ([]:List Value).toArray}).get? s.heap.objs.size=some {cls:=.type "list",data:=.seq #[]}:=zk _ rfl;show wpAny _ A.in1 (Builtin.List.listExtendWith (.ref s.heap.objs.size) (.ref r)<|.ref s.heap.objs.size) _ _ _;have key:=PySem.W.kdl_extend (A:=A) (s:={s with heap:=s.heap.push {cls:=.type "list",data:=.seq ([]:List Value).toArray}}) (R:=λ(q:Result) (s':Shared)=>∃(h':Heap) (tk:Nat) (y0:Array Value) (c':Nat),q=.ok (.ret<|.ref s.heap.objs.size)/\s'={s with heap:=h',toks:=tk}/\(∀b o,s.heap.get? b=some o->h'.get? b=some o)/\h'.get? s.heap.objs.size=some {cls:=.type "list",dict:=none,data:=.seq y0 c',slots:=#[]}/\ItemsOf P y0 n) K hh (K.keep _ _ aK λb _ o e=>za _ e) s.heap.objs.size (yx eO.1) (yx eO.2) (.ref s.heap.objs.size) 0 Up (λh' tk y0 c' hk qA qZ=>{h',tk,y0,c',rfl,rfl,λb o e=>hk b o (zB<|zw e)<|za _ e,qA,qZ}) hn;refine yL key (λfin s' x=>?_) λe s' x=>?_;{cases fin with|done f=>(obtain⟨h',tk,y0,c',e,rfl,hk,qA,qZ⟩:=x;cases e;show wpAny _ A (load s.heap.objs.size >>=_) _ _ _;exact zc<|wpAny_load qA<|zm<|h h' tk y0 hk (yH<|zw qA) qZ)|again c₁=>refine{x.1,yV x.2 λq bV y=>?_};obtain⟨h',tk,y0,c',rfl,rfl,hk,qA,qZ⟩:=y;show wpAny _ A (load s.heap.objs.size >>=_) _ _ _;exact zc<|wpAny_load qA<|zm<|h h' tk y0 hk (yH<|zw qA) qZ};obtain⟨_,_,_,_,e',_⟩:=x;cases e'
theorem vP{X:Cx}(hc:X.calm=true):eF X (.builtin "sorted") (λxs H Q=>∃(a:Addr)(kvs:List (Key×V))(ss:List Str),xs=[.ref a]/\H a=some (.dK kvs)/\kvs.map (·.1)=ss.map Sum.inr/\kvs.length<64/\∀DP,DP.Perm ss->sortedS DP=true->∀l,H l=none->Q (.ref l) (upd H l<|.lst<|DP.map V.str)):=by
 intro pins s σ H xs us Q I r h;obtain⟨a,kvs,ss,rfl,e,hk,hl,q⟩:=h;obtain⟨u,rfl,ru⟩:=vals1 r;cases ru;obtain⟨z,hd,vs,rel,dd⟩:=Dy I.aK e;obtain⟨ep,Wf⟩:=dd.dictAt;have hlen:vs.length<64:=by rw[<-rel.length];exact hl
 have hh:=I.ok.hd hc;refine PySem.Calls.call_function_entry kind_sorted plain_sorted entry_sorted (args_sorted1 _) ?_;unfold Builtin.«sorted»;refine zc (m:=checkCount "sorted" 1 1 _)<|zm ?_;refine zc<|HR (A:=X.A.in1) (PySem.W.kdl_dict (knd:=aE X.prog X.w) (kvs:=vs) (ep:=ep) hd) hh Wf (by rw[yg];omega) λh' tk acc hkp hB qZ=>?_;have GI:acc.toList.length=vs.length:=by rw[z0];exact qZ.1
 refine zc<|wpAny_newList ?_ (by rw[GI,yg];omega);have hS:StrsAre acc.toList ss:=by have hkv:=rel.YM;refine uK (P:=X.prog) (w:=X.w) (by rw[GI,<-rel.length];have:=congrArg List.length hk;simpa using this) λj v ev=>?_;obtain⟨k,x,e1,e2⟩:=qZ.2 j v (by rw[<-Array.getElem?_toList];exact ev);have e3:(vs.map (·.1))[j]?=some k:=(by rw[zg,e1];rfl);rw[hkv,hk,zg]at e3;cases q2:ss[j]? with|none=>(rw[q2]at e3;cases e3)|some y=>rw[q2]at e3;cases e3;exact⟨y,rfl,e2⟩
 have GH:(h'.push<|seqObj "list" acc.toList.toArray 0).get? h'.objs.size=some (seqObj "list" acc.toList.toArray 0):=zk _ rfl;show wpAny _ _ _ _ _ {s with heap:=h'.push<|seqObj "list" acc.toList.toArray 0,toks:=tk};refine zc<|yK<|yJ slot_list_sort {_,GH,rfl} entry_list_sort (list_sort_treeK (s:={s with heap:=h'.push<|seqObj "list" acc.toList.toArray 0,toks:=tk}) strKind_oneLt GH hS.keysOf (λnS nU rest e=>keyKind_strs<|by rw[<-e];exact hS) (by rw[GI];exact hlen) λeN hp hs=>!⟨?_⟩)<|args_list_sort _;refine zm !⟨?_⟩;obtain⟨DP,h1,h2,h3⟩:=sorted_out_str hS hp hs;obtain⟨e1,he1⟩:=sortedHeap_at (vs:=acc.toList) (n:=0) (out:=(arrOf eN).map (·.2)) GH;have Uq:DP.length<=sizeLine:=by rw[h2.length_eq,yg];have:=congrArg List.length hk;rw[zb,zb]at this;omega
 refine{.ref h'.objs.size,_,I.laid (a:=h'.objs.size) (o:=.lst<|DP.map V.str) (λb u hb=>?_) hB {by rw[zb];exact Uq,_,e1,uL h1,he1},rfl,q DP h2 h3 _<|I.aK.fresh hB};have eO:=zw<|hkp b u hb;rw[sortedHeap_old (zB eO)<|by rw[yd];exact Nat.lt_succ_of_lt eO,za _<|hkp b u hb]
section
variable{K:Frag}
def Ls:List D->aw->KD->Prop:=λds S R=>∃(a:Addr)(kvs:List (Key×D))(ss:List Str),ds=[.ref a]/\S a=some (.c_ kvs)/\kvs.map (·.1)=ss.map Sum.inr/\kvs.length<64/\∀DP,DP.Perm ss->sortedS DP=true->∀p,S p=none->R (.ref p) (S.set p<|.lst<|DP.map D.str)
theorem bX.keys{κ:Type}{H:Hp}{ks:List<|κ×D}{vs:List<|κ×V}(h:bX K H ks vs):vs.map (·.1)=ks.map (·.1):=by unfold bX at h;induction h with|nil=>rfl|cons r t ih=>rw[zA,zA,ih,r.1]
theorem y1:gG K (.builtin "sorted") Ls:=by rintro X hK hc pins s σ H xs us Q I rx ⟨ds,S,R,r,hS,⟨a,kvs,ss,e,e1,hk,hl,h⟩,hR⟩;subst e;obtain⟨v,rfl,r1⟩:=r.one;obtain⟨vs,e2,t⟩:=hS.c_ e1;exact vP hc pins s σ H _ us Q I rx {a,vs,ss,by rw[r1.ref],e2,by rw[t.keys];exact hk,by rw[t.len];exact hl,λDP p1 p2 l hl=>hR.new hS hl (h DP p1 p2 l)<|vI DP}
end
def Nd(K:Frag)(a:Addr)(n:Nat):It:={λi H=>∃xs x,jf K H a xs/\xs.length=n/\i<n/\xs[n-1-i]?=some x,λi H x H'=>H'=H/\∀xs,jf K H a xs->xs.length=n->xs[n-1-i]?=some x,λi _=>n<=i}
theorem HS{P:Program}{w:World}{K:Frag}{tg:Expr}(a it:Addr)(n:Nat):Turn P w K tg (Nd K a n) [it] it (λi h=>i<=n/\h.IsRevIter it a ((n:Int)-1-(i:Int))) where
 mem:=by simp
 obj:=λi h st b hb=>by
  have e:b=it:=by simpa using hb
  subst e
  obtain⟨_,o,e,c,d⟩:=st
  exact{o,e,λv z=>by rw[d]at z;cases z}
 keep:=λi h h' st k=>{st.1,st.2.at λo e=>k it (by simp) o e}
 item:=by
  intro X hP hw hK hc i pins s σ H E I hf st hg
  subst hP hw hK
  obtain⟨xs,x,hq,hn,hi,hx⟩:=hg
  obtain⟨az,rv,p,hz⟩:=I.list hq
  obtain⟨u,hu,ru⟩:=rv.get hx
  obtain⟨f0,f1,f2,f3,f4,f5⟩:=hf it<|by simp
  have e:(n:Int)-1-(i:Int)=((n-1-i:Nat):Int):=by lia
  have hit:=st.2
  rw[e]at hit
  refine wpAny_pyNext_rev_item hit p.isList (x:=u) (by simpa using hu) λh' eN sb=>?_
  have I1:Inv X pins σ H {s with heap:=h'}:=I.turned (t':=s.toks) (λb o hb e=>(sb.2 b hb).trans e) f0 f1 f3 f4 f5
  obtain⟨o,e1,c,d⟩:=id eN
  refine{u,rfl,uu (s:={s with heap:=h'}) e1 c d (by decide) {x,H,I1,ru,{rfl,λys hy _=>by rw[I.xA hy hq];exact hx},{hi,?_},λb hb=>(hf b hb).1}}
  have e2:(n:Int)-1-((i+1:Nat):Int)=((n-1-i:Nat):Int)-1:=by lia
  rw[e2];exact eN
 done:=by
  intro X hP hw hK hc i pins s σ H E I hf st hg
  subst hP hw hK
  obtain⟨f0,f1,f2,f3,f4,f5⟩:=hf it<|by simp
  have hg:n<=i:=hg
  have e:(n:Int)-1-(i:Int) = -1:=by have:=st.1;lia
  have hit:=st.2
  rw[e]at hit
  exact wpAny_pyNext_rev_end (I.ok.hd hc) hit λh' eb=>{rfl,I.turned (t':=s.toks) (λb o hb e=>eb b o hb e) f0 f1 f3 f4 f5}
 self:=λ_ _ _ _ _ st h=>wpAny_pyIter_revIter st.2 h
def YN(K:Frag)(ta:TA):TI:=λσ H R=>ta σ H λvs H1=>∃a xs,vs=[.ref a]/\jf K H1 a xs/\R (Nd K a xs.length) H1
theorem PB{X:Cx}{tg a:Expr}{ta:TA}{p pos:Pos}(hg:Gl X "reversed")(hm:X.mg "reversed"= none)(ha:PA X [a] ta)(hs:starEach [a] X.env=[(false,eval a X.env)]):PI X tg (.Call (.Name "reversed" p) [a] [] pos) (YN X.K ta):=by
 intro pins s σ H R I h;refine Call_<|gu I hg hm boot_reversed<|PyProof.Rows.callWith_type1 (bz (ha pos pins s σ H _ I h) λus s1 ⟨vs,H1,I1,r1,q1⟩=>?_) hs rfl;obtain⟨l,xs,e,q,hR⟩:=q1;subst e;obtain⟨u,rfl,ru⟩:=vals1 r1;cases ru;obtain⟨az,rv,pl,hz⟩:=I1.list q;have hn:az.toArray.size=xs.length:=by rw[zo,rv.length]
 refine call_reversed_list pl.isList ?_;rw[hn];have st:(s1.heap.push<|revObj l<|(xs.length:Int)-1).IsRevIter s1.heap.objs.size l ((xs.length:Int)-1-((0:Nat):Int)):={_,zk _ rfl,rfl,by show Data.fields _=Data.fields _;simp};have I2:Inv X pins σ H1 {s1 with heap:=s1.heap.push<|revObj l<|(xs.length:Int)-1}:=I1.kept (t':=s1.toks) λb o e=>za _ e;refine wpAny_pyIter_revIter st {_,_,_,_,H1,rfl,I2,HS l s1.heap.objs.size xs.length,{zT _,st},λb hb=>?_,hR};have hb:b=s1.heap.objs.size:=by simpa using hb
 subst hb;exact I1.pQ (zq _)<|I1.aK.fresh<|zq _
section
variable{K:Frag}{X:Cx}{tg:Expr}
def Ur(t:iS):A_:=λσ S R Z=>t σ S (λds S1=>∃x es,ds=[x]/\xY S1 x es/\R {es.reverse,λS=>xY S x es} S1) Z
theorem irv{t:iS}(hm:X.mg "reversed"= none)(ha:DA K X [a] t)(hg:autoParam (Gl X "reversed") qQJ)(hs:autoParam (starEach [a] X.env=[(false,eval a X.env)]) qQJ)(hK:autoParam (X.K=K) qQJ):DI K X tg (.Call (.Name "reversed" p) [a] [] pos) (Ur t):=by subst hK;exact⟨λy=>(PB (X:=y.cx) hg hm (ha.of y) hs).mono <| by rintro τ H R ⟨σ,S,RI,Z,aA,hS,q,hR,hZ⟩;exact{σ,S,_,Z,aA,hS,q,by rintro ds S1 vs H1 ⟨x,es,e,h1,r1⟩ v1 s1 k1;subst e;obtain⟨v,rfl,r⟩:=v1.one;obtain⟨a,xs,rfl,hq,t⟩:=h1.at s1 r;refine{a,xs,rfl,hq,hR _ S1 _ H1 r1 (λi S2 H2 k2 s2 Wc=>?_) s1 k1};obtain⟨a',Pw,e',GN,t'⟩:=xY.at Wc s2<|Rv.ts k2 _ r;cases e';have hl:xs.length=es.length:=t.len;have hl':Pw.length=es.length:=t'.len;refine{λd hd=>?_,λh=>by rw[yG]at h;show xs.length<=i;lia};have hi:i<es.length:=(by have:=(zd.mp hd).1;rwa [yG]at this);rw[List.getElem?_reverse hi]at hd;obtain⟨v,e1,r⟩:=t'.get hd;rw[<-hl]at e1;refine{{Pw,v,GN,by lia,by lia,e1},λx' H' ⟨e2,e3⟩=>?_};subst e2;have:=e3 Pw GN (by lia);rw[e1]at this;cases this;exact{r,.refl _,s2},hZ}⟩
noncomputable def cG(xs ys:List D):List D:=List.zipWith (λa b=>D.tup [a,b]) xs ys
def Us(t:iS):A_:=λσ S R Z=>t σ S (λds S1=>∃xs ys,ds=[.tup xs,.tup ys]/\xs.length=ys.length/\R {cG xs ys,λ_=>True} S1) Z
theorem j7:∀v τ H Q,Tg K (Nc 2<|B4 (V_ i)<|B4 (V_ j) Nb) v τ H Q->Kf K 2 (qL (iN i)<|qL (iN j) Ke) v τ H Q:=by rintro v τ H Q ⟨d,σ,S,R,rv,aA,hS,⟨ds,e,hl,a,r,e1,b,r',e2,e3,q⟩,hR⟩;subst e e1 e2 e3;obtain⟨p,xs,rfl,hp,t⟩:=rv.tup;obtain⟨v1,v2,rfl,r1,r2⟩:=t.two;exact{p,_,rfl,.of hp,rfl,v1,[v2],rfl,v2,[],rfl,rfl,hR _ S _ H q ((aA.set i r1).set j r2) hS<|.refl _}
end
section
variable{K:Frag}{X:Cx}{b:Bool}{pos:Pos}
def Ut(tl ti tv:TD):lU:=λDe σ S Z=>tv σ S (λv S1=>tl σ S1 (λx S2=>ti σ S2 (λy S3=>∃a es i j,x=.ref a/\y=.int i/\S3 a=some (.lst es)/\Ds es.length i=some j/\De.nx σ (S3.set a<|.lst<|es.set j v))<|Z σ)<|Z σ)<|Z σ
theorem sls{o i value:Expr}{tl ti tv:TD}{pos':Pos}(ho:DE K X o tl)(hi:DE K X i ti)(hv:DE K X value tv)
  (ha:autoParam (∀v,assign (.Subscript o i pos') X.env v=(do
   let ov <-holding [v] (eval o X.env)
   let iv <-holding [v,ov] (eval i X.env)
   standAt pos'
   holding [v,ov,iv] (setItem ov iv v)
   release [v,ov,iv] [])) qQ0)
  (hs:autoParam (swapsWithSole [.Subscript o i pos'] value pos.line X.env=pure false) qQJ) (hw:autoParam (swappedStores [.Subscript o i pos'] value X.env=pure none) qQJ) (h1:autoParam ((assignEach [.Subscript o i pos'] X.env).map (·.2)=[assign (.Subscript o i pos') X.env]) qQJ):
  DS K X b (.Assign [.Subscript o i pos'] value pos) (Ut tl ti tv):=
 ⟨λy=>(G0 (X:=y.cx) (hv.of y) (Ob (ho.of y) (hi.of y) set_list ha) hs hw h1).mono <| by rintro D τ H ⟨σ,S,De,Z,aA,hS,q,hD,hZ⟩;exact
  ⟨σ,S,_,_,aA,hS,q,λv S1 vv H1 r1 v1 s1 k1=>⟨σ,S1,_,_,aA.ts k1,s1,r1,λx S2 xv H2 r2 v2 s2 k2=>⟨σ,S2,_,_,aA.ts<|k1.trans k2,s2,r2,by
   rintro y S3 yv H3 ⟨a,es,i,j,e1,e2,e3,e4,r3⟩ v3 s3 k3
   subst e1 e2
   obtain⟨xs,e5,t⟩:=s3.lst e3
   have kk:=s3.ik (o:=.lst<|xs.set j vv) e3
   refine{a,xs,i,j,(Rv.ts k3 _ v2).ref,v3.int,e5,by rw[t.len];exact e4,?_}
   exact hD.nx _ _ _ _ r3 (aA.ts<|((k1.trans k2).trans k3).trans kk) (s3.put (c:=.lst _) e3 {_,aD,RvAll.ts kk _<|t.set j<|Rv.ts (k2.trans k3) _ v1})<|((k1.trans k2).trans k3).trans kk,hZ.on (k1.trans k2)<|aA.ts<|k1.trans k2⟩,hZ.on k1<|aA.ts k1⟩,hZ.at aA⟩⟩
noncomputable def fi(z:Str):List D:=z.cps.toList.map λc=>D.str ⟨#[c]⟩
def Nf(t:TD):A_:=λσ S R Z=>t σ S (λx S1=>∃z,x=.str z/\R {fi z,λ_=>True} S1) Z
theorem PC{t:TD}(h:DE K X l t):DI K X tg l (Nf t):=⟨λy=>(O3 (X:=y.cx)<|h.of y).mono <| by rintro τ H R ⟨σ,S,RI,Z,aA,hS,q,hR,hZ⟩;exact⟨σ,S,_,Z,aA,hS,q,by
 rintro x S1 v H1 ⟨z,e,r1⟩ v1 s1 k1;subst e;refine{z,v1.str,hR _ S1 _ H1 r1 (λi S2 H2 k2 s2 _=>{λd hd=>?_,λhl=>?_}) s1 k1};unfold fi at hd;rw[zg,Array.getElem?_toList]at hd;cases q:z.cps[i]? with|none=>(rw[q]at hd;cases hd)|some c=>rw[q]at hd;cases hd;refine{(Array.getElem?_eq_some_iff.mp q).1,λx' H' ⟨e1,c',e2,e3⟩=>?_};rw[q]at e2;cases e2;subst e1 e3;exact{jm _,.refl _,s2}
 unfold fi at hl;rw[zb,z0]at hl;exact hl,hZ⟩⟩
def Lu(t:TD):TD:=λσ S R Z=>t σ S (λx S1=>∃ss:List Str,xY S1 x (ss.map D.str)/\ss.length<4000/\R (.int (iQ ss).length) S1) Z
theorem lse{t:TD}(h:DE K X e t)(hm:X.mg "len"= none)(hm':X.mg "set"= none)(hp:autoParam (isPlain e=true) qQJ)(hg:autoParam (Gl X "len") qQJ)(Uu:autoParam (Gl X "set") qQJ)(he:autoParam (starEach [e] X.env=[(false,eval e X.env)]) qQJ) (he2:autoParam (starEach [Expr.Call (.Name "set" p') [e] [] pos'] X.env=[(false,eval (.Call (.Name "set" p') [e] [] pos') X.env)]) qQJ) (hK:autoParam (X.K=K) qQJ) (hc:autoParam (X.calm=true) qQJ): DE K X (.Call (.Name "len" p) [.Call (.Name "set" p') [e] [] pos'] [] pos) (Lu t):=by subst hK;refine⟨λy=>(xE (X:=y.cx) (Fd (X:=y.cx) rfl rfl) hg hm aF (XU (uA (X:=y.cx) (Fc (X:=y.cx) rfl rfl rfl hc) Uu hm' O7 (XU (h.of y) Bu hp) (by decide) (by decide) he rfl) Bu rfl) (by decide) (by decide) he2 rfl).mono λτ H Q ⟨σ,S,R,Z,aA,hS,q,hR,hZ⟩=>?_⟩;refine{σ,S,_,Z,aA,hS,q,λx S1 v H1 ⟨ss,h1,hl,r1⟩ v1 s1 k1=>?_,hZ};obtain⟨a,xs,rfl,hq,t⟩:=h1.at s1 v1;rw[t.strs]at hq;exact{a,ss,rfl,hq,hl,λl hl=>{l,ss,rfl,aD,hR _ _ _ _ r1 (aO _) (s1.grow hl)<|k1.trans<|.new hl}}
end
theorem e_:bootBuiltins "sorted"= some (.builtin "sorted"):=by trivial
def Sub(S S':aw):Prop:=∀b c,S b=some c->S' b=some c
theorem Sub.refl(S:aw):Sub S S:=λ_ _ h=>h
theorem Sub.trans(a:Sub S S1)(b:Sub S1 S2):Sub S S2:=λp c h=>b p c<|a p c h
theorem Sub.new(h:S p=none):Sub S (S.set p c):=λb c' hb=>by rw[ag<|gx hb h];exact hb
theorem Rs.sub{K:Frag}{S S':aw}{H:Hp}(h:Rs K S' H)(s:Sub S S'):Rs K S H:=λa c e=>h a c<|s a c e
inductive Fo (S':aw) (p:aw->Prop):Prop where
 |mk (S:aw) (h:Sub S S') (r:p S):Fo S' p
theorem fo(h:p S):Fo S p:={S,.refl S,h}
section
variable{P:Program}{w:World}{K:Frag}{mg:Str->Option Value}{base:Heap}
theorem vO.ok{x qual:Str}{st:Stmt}{f:Addr}{fd:FuncData}{N ps:List Str}{k:Nat}{sp:kC}(F:vO K x qual st f fd)(S:fS N ps<|ae st)(len:∀ds S R Z,sp ds S R Z->ds.length=ps.length) (lY:∀(fT:Value)(A:Around)(outer:List Env)(s:Shared)(H:Hp)(E:XK)(ds:List D)(S:aw)(R:KD)(Z:KX),bW k (A.deeper<|envOfC qual (ae st) s.heap.objs.size f fT)->sp ds S R Z->∃t,GO K (kx (fN P w mg) P w K mg base N qual (ae st) f fT A outer s H E) true (aZ st) t/\t {nx:=λ_ S'=>Fo S'<|R .au,rt:=λd S'=>Fo S'<|R d} (jr N ds) S λ_ C S'=>Fo S'<|Z C):bI P w K mg base (fN P w mg) (k+1) f fd ps (qz K sp):=by
 have F2:bI P w K mg base (fN P w mg) (k+1) f fd ps (qz K λds S R' Z'=>∃R Z,sp ds S R Z/\R'=(λd S'=>Fo S'<|R d)/\Z'=λC S'=>Fo S'<|Z C):=by refine F.okD S (by rintro ds S R Z ⟨R0,Z0,h,_⟩;exact len _ _ _ _ h) λfT A outer s H E ds S R Z hr ⟨R0,Z0,h,e1,e2⟩=>?_;subst e1 e2;exact lY fT A outer s H E ds S R0 Z0 hr h
 refine F2.imp <| by rintro vs H Q E ⟨ds,S,R,Z,v,hS,h,hR,hZ⟩;exact{ds,S,_,_,v,hS,⟨R,Z,h,rfl,rfl⟩,by rintro d S' u H' ⟨S2,sb,r⟩ rv rs kp;exact hR d S2 u H' r rv (rs.sub sb) kp,by rintro C S' H' ⟨S2,sb,r⟩ rs kp;exact hZ C S2 H' r (rs.sub sb) kp}
end
section
variable{K:Frag}{X:Cx}{b:Bool}
def Uv(t:lU):lU:=λDe σ S Z=>∃P:SD->aw->Prop,t {De with nx:=λaB S'=>Fo S'<|P aB} σ S Z/\∀aB S',P aB S'->De.nx aB S'
theorem vQ{st:Stmt}{t:lU}(h:DS K X b st t):DS K X b st (Uv t):=⟨λy=>(h.of y).mono <| by rintro D τ H ⟨σ,S,De,Z,aA,hS,⟨P,q,hP⟩,hD,hZ⟩;exact{σ,S,_,Z,aA,hS,q,{by rintro xo S1 YB H1 ⟨S2,sb,r1⟩ a b c;exact hD.nx _ _ _ _ (hP _ _ r1) a (b.sub sb) c,hD.rt,hD.bk,hD.ct},hZ}⟩
def dFo(t:TD):TD:=λσ S R Z=>t σ S (λd S'=>Fo S'<|R d) Z
theorem uM{t:TD}(h:DE K X e t):DE K X e (dFo t):=⟨λy=>(h.of y).mono <| by rintro τ H Q ⟨σ,S,R,Z,aA,hS,q,hR,hZ⟩;exact{σ,S,_,Z,aA,hS,q,by rintro d S' v H' ⟨S2,sb,r⟩ rv rs kp;exact hR d S2 v H' r rv (rs.sub sb) kp,hZ}⟩
theorem oX(nd:N.Nodup)(h0:autoParam (N[0]?=some a) qQJ)(hx:autoParam (∀C s H ex pn,Loc (iO X N scope C s H ex pn).env.scope a/\(iO X N scope C s H ex pn).env.scope.names.lookup a=some .local) qJQ): ∀C s H ex pn,PG (iO X N scope C s H ex pn) (.Name a p) (iN 0):=λC s H ex pn=>qr (i:=0) nd h0 (hx C s H ex pn).1<|.inr (hx C s H ex pn).2
theorem Rn(nd:N.Nodup)(h0:autoParam (N[0]?=some a) qQJ)(h1:autoParam (N[1]?=some c) qQJ) (hx:autoParam (∀C s H ex pn,Loc (iO X N scope C s H ex pn).env.scope a/\(iO X N scope C s H ex pn).env.scope.names.lookup a=some .local) qJQ) (hy:autoParam (∀C s H ex pn,Loc (iO X N scope C s H ex pn).env.scope c/\(iO X N scope C s H ex pn).env.scope.names.lookup c=some .local) qJQ) (hl:∀env:Env,(assignEach [.Name a p,.Name c p'] env).length=2/\(assignEach [.Name a p,.Name c p'] env).findIdx? (·.1)=none/\(assignEach [.Name a p,.Name c p'] env).map (·.2)=assign (.Name a p) env::(assignEach [.Name c p'] env).map (·.2)/\(assignEach [.Name c p'] env).map (·.2)=assign (.Name c p') env::(assignEach [] env).map (·.2):=by intro _;exact⟨rfl,rfl,rfl,rfl⟩) (hK:autoParam (X.K=K) qQJ) (hc:autoParam (X.calm=true) qQJ): ∀C s H ex pn,PG (iO X N scope C s H ex pn) (.Tuple [.Name a p,.Name c p'] j p2) (Kf K 2<|qL (iN 0)<|qL (iN 1) Ke):=λC s H ex pn=>by subst hK;have e:=hl (iO X N scope C s H ex pn).env;exact GZ (X:=iO X N scope C s H ex pn) hc (qM (qr (i:=0) nd h0 (hx C s H ex pn).1<|.inr (hx C s H ex pn).2) (qM (qr (i:=1) nd h1 (hy C s H ex pn).1<|.inr (hy C s H ex pn).2) Di e.2.2.2) e.2.2.1) e.1 e.2.1
end
theorem rD:∀{ss:List Str}{az:List Value},Vals (ss.map V.str) az->StrsAre az ss|[],_,.nil=>.nil|z::ss,_,.cons r t=>by obtain⟨tk,rfl⟩:=r;exact .cons z tk<|rD t
section
variable{K:Frag}
def PD:Fn:=λx ds S R=>∃a es,x=.ref a/\ds=[]/\S a=some (.lst es)/\R .au (S.set a<|.lst [])
theorem Lv:Lj K "list.clear" PD:=by rintro X hK pins s σ H x xs v us Q I rx rs ⟨d,ds,S,R,r1,r2,hS,⟨a,es,e1,e2,e3,h⟩,hR⟩;subst e1 e2;obtain⟨zs,e4,t⟩:=hS.lst e3;exact Hh pins s σ H x _ v us Q I rx rs {a,zs,r1.ref,r2.nil,e4,hR.put hS e3 h dE br}
end
end L2
namespace HT
open PySem PySem.Spec PyProof.Rows
end HT
namespace L2
open PySem PySem.Spec PyProof.Rows
section
variable{K:Frag}
theorem HU(r:Rv K H d v):∀n:Nat,RvAll K H (List.replicate n d) (List.replicate n v)|0=>br|n+1=>aI r<|HU r n
end
inductive HV (S:aw):List D->List PyData->Prop where
 |nil:HV S [] []
 |cons {d:D}{p:PyData}{ds:List D}{ps:List PyData} : Dl S d p->HV S ds ps->HV S (d::ds) (p::ps)
section
variable{K:Frag}
noncomputable def DQ(p:Str×D):D:=.tup [.str p.1,p.2]
noncomputable def fj(l:List<|Str×D):List (Key×D):=l.foldl (λc p=>dput c (.inr p.1) p.2) []
theorem DR:∀{kvs:List (Str×D)}{ys:List V},RvAll K H (kvs.map DQ) ys->∃kv:List (Str×V),Prs H ys kv/\∀c c',bX K H c c'->bX K H (kvs.foldl (λc p=>dput c (.inr p.1) p.2) c) (kv.foldl (λc p=>putK c (.inr p.1) p.2) c')|[],ys,h=>(by rw[h.nil];exact{[],{rfl,λi x p e=>(by cases i<;>cases e)},λc c' h=>h})|p::kvs,ys,h=>by obtain⟨y,ys,rfl,r1,r2⟩:=h.cons;obtain⟨b,zs,rfl,hb,tz⟩:=Rv.tup<|show Rv K H (.tup [.str p.1,p.2]) y from r1;obtain⟨v,u,rfl,rv,ru⟩:=tz.two;have ev:=rv.str;subst ev;obtain⟨kv,⟨hl,hp⟩,hf⟩:=DR r2;refine{(p.1,u)::kv,{by rw[zQ,zQ,hl],λi x q e1 e2=>?_},λc c' h=>hf _ _<|h.put (.inr p.1) ru};cases i with|zero=>(cases e1;cases e2;exact⟨b,rfl,hb⟩)|succ i=>exact hp i x q e1 e2
def Uw:List D->aw->KD->Prop:=λds S R=>∃kvs:List (Str×D),ds=[.tup<|kvs.map DQ]/\∀p,S p=none->R (.ref p) (S.set p<|.c_<|fj kvs)
theorem HW:gG K (.type "dict") Uw:=by rintro X hK hc pins s σ H xs us Q I rx ⟨ds,S,R,r,hS,⟨kvs,e,h⟩,hR⟩;subst hK e;obtain⟨v,rfl,r1⟩:=r.one;obtain⟨a,ys,rfl,q,t⟩:=r1.tup;obtain⟨kv,hp,hf⟩:=DR t;refine BJ hc pins s σ H _ us Q I rx {a,ys,kv,rfl,q,hp,λl hl=>?_};have kn:Kp X.K H (upd H l<|.dK<|DB kv):=.new hl;exact hR _ _ _ _ (h l<|hS.fresh hl) (ij l) (hS.new (c:=.c_<|fj kvs) hl {_,aD,(hf [] [] .nil).ts kn}) kn
theorem y3(kvs:List<|Key×D)(k k':Key)(d:D):bZ (dput kvs k d) k'=if k'=k then some d else bZ kvs k':=by
 unfold dput;by_cases hk:(kvs.any λkv=>decide<|kv.1=k)=true;rw[if_pos hk];unfold bZ;induction kvs with|nil=>(cases hk)|cons r kvs ih=>rw[zA,yc,yc];by_cases e:r.1=k;rw[if_pos e];by_cases e2:k'=k;rw[if_pos e2,show decide (r.1=k')=true from zu (e.trans e2.symm)];rfl;rw[if_neg e2,show decide (r.1=k')=false from zt λq=>e2<|q.symm.trans e];by_cases dw:(kvs.any λkv=>decide<|kv.1=k)=true;have:=ih dw;rw[if_neg e2]at this;exact this;have em:kvs.map (λkv=>if kv.1=k then (kv.1,d) else kv)=kvs:=(by(conv=>rhs;rw[<-List.map_id kvs]);refine zS λx hx=>?_;rw[if_neg λq=>dw<|List.any_eq_true.mpr {x,hx,zu q}];rfl);rw[em];rw[if_neg e];have dw:(kvs.any λkv=>decide<|kv.1=k)=true:=(by rw[yR,zt e,yW]at hk;exact hk);by_cases e3:r.1=k';rw[zu e3,if_neg λq=>e<|e3.trans q];rw[zt e3];exact ih dw
 rw[if_neg hk];unfold bZ;rw[List.find?_append];have hn:∀x∈kvs,x.1≠k:=λx hx q=>hk<|List.any_eq_true.mpr {x,hx,zu q};by_cases e:k'=k;subst e;rw[if_pos rfl,List.find?_eq_none.mpr λx hx=>by simp[hn x hx]];simp;rw[if_neg e];have:([(k,d)].find? λkv=>decide<|kv.1=k')=none:=by rw[yc,show decide (k=k')=false from zt λq=>e q.symm];rfl
 rw[this,Option.or_none]
theorem uN(l:List<|Str×D)(z:Str):(bZ (fj l)<|.inr z).isSome=l.any λp=>decide (p.1=z):=by
 have all:∀(l:List (Str×D))(c:List (Key×D)),(bZ (l.foldl (λc p=>dput c (.inr p.1) p.2) c)<|.inr z).isSome=((bZ c<|.inr z).isSome||l.any λp=>decide<|p.1=z):=by intro l;induction l with|nil=>intro c;simp|cons p l ih=>intro c;rw[yM,ih,y3,yR];by_cases e:p.1=z;rw[if_pos<|by rw[e],zu e];simp;rw[if_neg λq=>e (yP q).symm,zt e];simp
 exact(all l []).trans<|by rfl
def Ux(a:Addr)(kvs:List<|Str×V):vJ:=λx y S R=>∃z,x=.str z/\y=.ref a/\R (.bl (kvs.lookup z).isSome) S
theorem YO{X:Cx}{a b:Expr}{ta tb:TD}{pos:Pos}{w:World}{ad:Addr}{kvs:List<|Str×V}(d:JT w K ad kvs)(ha:DE K X a ta)(hb:DE K X b tb)(hw:autoParam (X.w=w) qQJ)(hm:autoParam (behindInMarks .In b=false) qQ2)(hK:autoParam (X.K=K) qQJ): DE K X (.Compare a [.In] [b] pos) (Po (Ux ad kvs) ta tb):=by refine⟨λy=>(Dn (X:=y.cx) (r:=Lr K<|Ux ad kvs) ?_ (ha.of y) (hb.of y) hm).mono λ_ _ _ h=>h.op⟩;rintro pins s σ H x y' v u Q I rx ry ⟨d',e,S,R,r1,r2,hS,⟨z,e1,e2,h⟩,hR⟩;subst e1 e2;exact HB (X:=y.cx) hw hK pins s σ H x y' v u Q I rx ry {z,ad,kvs,r1.str,r2.ref,d,hR.now hS h<|cw _}
end
structure Uy(k:Nat)(A:Around):Prop where
 dp:A.depth+3*k+5<recursionLimit
 un:A.units+16*k+200<cLine
structure FnH(P:Program)(w:World)(K:Frag)(mg:Str->Option Value)(base:Heap)(k:Nat)(f:Addr)(fd:FuncData)(ps:List Str)(sp:kC):Prop where
 len:∀ds S R Z,sp ds S R Z->ds.length=ps.length
 run:∀(A:Around)(outer:List Env)(s:Shared)(H:Hp)(args:Args)(us:List Value)(vs:List V)(Q:VK),Uy k A->xC P w K mg base A outer s H->BindsTo s fd args (ps.zip us)->Vals vs us->qz K sp vs H Q E0 ->
  codeAny (model P w) A (.call (.ref f) args) (CR (fN P w mg) outer P w H s Q E0) s
def PEg(pre:Nat)(X:Cx)(e:Expr)(t:TE):Prop:=∀(pins:List (Addr×Obj))(s:Shared)(σ:St)(H:Hp)(Q:VK),Inv X pins σ H s->pre<=s.toks->t σ H Q->wpAny (model X.prog X.w) X.A (eval e X.env) (λu s'=>EP X pins σ Q u s'/\1<=s'.toks) X.xe s
structure DEg(pre:Nat)(K:Frag)(X:Cx)(e:Expr)(t:TD):Prop where
 of:∀{b:Bool}(y:Ev X b),PEg pre y.cx e<|T K y.E t
theorem YQ{a b:Str}(h:a.cps.toList=b.cps.toList):a=b:=by obtain⟨⟨x⟩⟩:=a;obtain⟨⟨y⟩⟩:=b;cases h;rfl
end L2
namespace HT
open PySem PySem.Spec PyProof.Rows
end HT
namespace L2
open PySem PySem.Spec PyProof.Rows
section
variable{K:Frag}{X:Cx}
def Uz:Fn:=λx ds S R=>∃a es fs,x=.ref a/\ds=[.tup fs]/\S a=some (.lst es)/\es.length+fs.length<=sizeLine/\R .au (S.set a<|.lst<|es++fs)
theorem Fv:Lj K "list.extend" Uz:=by rintro X hK pins s σ H x xs v us Q I rx rs ⟨d,ds,S,R,r1,r2,hS,⟨a,es,fs,e1,e2,e3,hl,h⟩,hR⟩;subst e1 e2;obtain⟨w0,rfl,q2⟩:=r2.one;obtain⟨zs,e5,t⟩:=hS.lst e3;obtain⟨p,ys,rfl,q,t2⟩:=q2.tup;exact BX pins s σ H x _ v us Q I rx rs {a,p,zs,ys,r1.ref,rfl,e5,q,by rw[t.len,t2.len];exact hl,hR.put hS e3 h dE<|t.app t2}
end
section
variable{K:Frag}{X:Cx}{E:XK}
structure DEx(K:Frag)(X:Cx)(E:XK)(e:Expr)(t:TD):Prop where
 of:∀(y:Ev X true),y.E=(λ_=>E)->cW y.cx E->PE y.cx e (T K y.E t)
structure DAx(K:Frag)(X:Cx)(E:XK)(es:List Expr)(t:iS):Prop where
 of:∀(y:Ev X true),y.E=(λ_=>E)->cW y.cx E->PA y.cx es (Ta K y.E t)
structure DSx(K:Frag)(X:Cx)(E:XK)(b:List Stmt)(t:lU):Prop where
 of:∀(y:Ev X true),y.E=(λ_=>E)->cW y.cx E->Df y.cx b (Tl K y.E t)
variable{N:List Str}{src:List (Option Nat)}{scope:Scope}{tg iter elt:Expr}{ifs:List Expr}{ti:A_}{g:TG}{gd:x_}{tc:l8}{te:TD}
end
open PySem.Builtin PySem.Builtin.Str
structure M3(X:Cx)(o:Expr)(m:Str)(apos:Pos)(e f g:Expr)(aN:Pos):Prop where
 base:attributeBase o m X.env (eval o X.env)=eval o X.env
 GJ:((backTo aN<|starEach [e,f,g] X.env).all (λx=>!x.1)&&(backToKw aN<|keywordEach [] X.env).all (λx=>x.1.isSome)
  && decide (([e,f,g]:List Expr).length+([]:List Keyword).length+(if ([]:List Keyword).isEmpty then 0 else 1)<30))=true
 line:(apos.endLine==aN.line)=true
 trees:backTo aN (starEach [e,f,g] X.env)=[(false,eval e X.env),(false,eval f X.env),(false,eval g X.env)]
section
variable{X:Cx}{t:TE}
def PAg(pre:Nat)(X:Cx)(es:List Expr)(t:TA):Prop:=∀(pos:Pos)(pins:List (Addr×Obj))(s:Shared)(σ:St)(H:Hp)(Q:List V->Hp->Prop),Inv X pins σ H s->pre<=s.toks->t σ H Q->wpAny (model X.prog X.w) X.A (spliced<|backTo pos<|starEach es X.env) (AP X pins σ Q) X.xe s
end
section
variable{K:Frag}{X:Cx}
structure DAg(pre:Nat)(K:Frag)(X:Cx)(es:List Expr)(t:iS):Prop where
 of:∀{b:Bool}(y:Ev X b),PAg pre y.cx es<|Ta K y.E t
end
structure Gh(a₀:Array Keyed)(g:Nat->Nat)(xs:Array Keyed):Prop where
 at_:∀k,k<a₀.size->xs[k]?=a₀[g k]?
 lt:∀k,k<a₀.size->g k<a₀.size
 inj:∀i j,i<a₀.size->j<a₀.size->g i=g j->i=j
def Log(κ:KeyKind)(a₀:Array Keyed)(i j:Nat):Prop:=κ.klt (KK κ a₀ i) (KK κ a₀ j)\/(KK κ a₀ i=KK κ a₀ j/\i<j)
def B7(κ:KeyKind)(a₀:Array Keyed)(g:Nat->Nat)(k:Nat):Prop:=∀i j,i<j->j<k->Log κ a₀ (g i) (g j)
def Wh(κ:KeyKind)(a₀:Array Keyed)(g:Nat->Nat)(k:Nat):Prop:=∀i j,i<j->j<k->Log κ a₀ (g j) (g i)
def Fw(g:Nat->Nat)(m n:Nat):Prop:=∀k,m<=k->k<n->g k=k
noncomputable def HX(g:Nat->Nat)(i j k:Nat):Nat:=if i<=k/\k<j then g (i+j-1-k) else g k
noncomputable def Lw(g:Nat->Nat)(src l k:Nat):Nat:=if k=l then g src else if l<k/\k<=src then g (k-1) else g k
section
variable{κ:KeyKind}{a₀ xs:Array Keyed}{g:Nat->Nat}
theorem Log.kle(h:Log κ a₀ i j):κ.kle (KK κ a₀ i) (KK κ a₀ j):=by rcases h with h|⟨h,_⟩;exact KeyOrd.kle_of_klt h;rw[h];exact KeyOrd.kle_refl _
theorem Ng(h:κ.kle (KK κ a₀ i)<|KK κ a₀ j)(hl:i<j):Log κ a₀ i j:=by cases q:κ.blt (KK κ a₀ i) (KK κ a₀ j) with|true=>exact .inl q|false=>exact .inr {KeyOrd.kle_antisymm h q,hl}
theorem Gh.low(h:Gh a₀ g xs)(t:Fw g m a₀.size)(hm:m<=a₀.size)(hi:i<m):g i<m:=by refine Nat.lt_of_not_le λq=>?_;have h1:=h.lt i (by lia);have h2:=h.inj (g i) i h1 (by lia)<|t (g i) q h1;lia
theorem Gh.key(h:Gh a₀ g xs)(hk:k<a₀.size):KK κ xs k=KK κ a₀ (g k):=KK_congr<|h.at_ k hk
theorem Gh.mirror(h:Gh a₀ g xs)(hs:xs.size=a₀.size)(hj:j<=a₀.size):Gh a₀ (HX g i j) (mirror xs i j<|(j-i)/2) where
 at_:=λk hk=>by
  rw[getElem?_mirror_all<|by lia]
  unfold HX
  by_cases q:i<=k/\k<j
  ·rw[if_pos q,if_pos q];exact h.at_ _<|by lia
  ·rw[if_neg q,if_neg q];exact h.at_ _ hk
 lt:=λk hk=>by
  unfold HX
  by_cases q:i<=k/\k<j
  ·rw[if_pos q];exact h.lt _<|by lia
  ·rw[if_neg q];exact h.lt _ hk
 inj:=λa b ha hb e=>by
  unfold HX at e
  by_cases q:i<=a/\a<j<;>by_cases r:i<=b/\b<j
  ·rw[if_pos q,if_pos r]at e;have:=h.inj _ _ (by lia) (by lia) e;lia
  ·rw[if_pos q,if_neg r]at e;have:=h.inj _ _ (by lia) (by lia) e;lia
  ·rw[if_neg q,if_pos r]at e;have:=h.inj _ _ (by lia) (by lia) e;lia
  ·rw[if_neg q,if_neg r]at e;exact h.inj _ _ ha hb e
theorem Gh.bubble(h:Gh a₀ g xs)(hs:xs.size=a₀.size)(hl:l<=src)(hj:src<a₀.size):Gh a₀ (Lw g src l) (bubble xs src<|src-l) where
 at_:=λk hk=>by
  rw[getElem?_bubble (by lia) _<|by lia,show src-(src-l)=l by lia]
  unfold Lw
  by_cases q:k=l
  ·rw[if_pos q,if_pos q];exact h.at_ _ hj
  ·rw[if_neg q,if_neg q]
   by_cases r:l<k/\k<=src
   ·rw[if_pos r,if_pos r];exact h.at_ _<|by lia
   ·rw[if_neg r,if_neg r];exact h.at_ _ hk
 lt:=λk hk=>by
  unfold Lw
  by_cases q:k=l
  ·rw[if_pos q];exact h.lt _ hj
  ·rw[if_neg q]
   by_cases r:l<k/\k<=src
   ·rw[if_pos r];exact h.lt _<|by lia
   ·rw[if_neg r];exact h.lt _ hk
 inj:=λa b ha hb e=>by
  unfold Lw at e
  repeat' split at e
  all_goals (have:=h.inj _ _ (by lia) (by lia) e;lia)
theorem iq(h:i<=k/\k<j):HX g i j k=g (i+j-1-k):=by unfold HX;rw[if_pos h]
theorem fV(h:¬(i<=k/\k<j)):HX g i j k=g k:=by unfold HX;rw[if_neg h]
end
section
variable{prog:Program}{w:World}{A:Around}{E:Value->Shared->Prop}{s:Shared}{a₀:Array Keyed}{κ:KeyKind}
theorem Nh{st:SortSt}{g:Nat->Nat}{a top:Nat}{Q:AscSt->SortSt->Prop}(hO:κ.OneLt)(h0:KeysOf κ a₀)(ht:top<=a₀.size)(h1:1<=a)(h2:a<=top)(B:SBase a₀ st)(G:Gh a₀ g<|arrOf st)(T:Fw g a a₀.size)(U:B7 κ a₀ g a) (h:∀n,a<=n->n<=top->B7 κ a₀ g n->(n=top\/κ.klt (KK κ a₀<|g n) (KK κ a₀<|g<|n-1))->Q (none,n) st):wpS (model prog w) A E s (ascLoop a top) Q st:=by
 unfold ascLoop;refine wpS_forRange (I:=λx c t=>t=st/\c=(none,x)/\B7 κ a₀ g x) ?_ ?_ ⟨rfl,rfl,U⟩;rintro x c t GQ Lp ⟨rfl,rfl,V⟩;dsimp only;refine wpS_bind<|wpS_ltKK hO B h0 (by lia) (by lia) ?_;rw[G.key<|by lia,G.key<|by lia];cases q:κ.blt (KK κ a₀<|g x) (KK κ a₀<|g<|x-1) with|true=>exact wpS_pure (h x GQ (by lia) V<|.inr q)|false=>refine wpS_pure {rfl,rfl,λi j jg hj=>?_};rcases Nat.lt_or_ge j x with z|z;exact V i j jg z;obtain rfl:j=x:=(by lia);have lw:=G.low (m:=j) (λk hk dw=>T k (by lia) dw) (by lia) jg;rw[T j GQ<|by lia]at q⊢;refine Ng ?_ lw;rcases Nat.lt_or_ge i (j-1) with y|y;exact KeyOrd.kle_trans (V i (j-1) y<|by lia).kle q;obtain rfl:i=j-1:=(by lia);exact q
 rintro c t ⟨rfl,rfl,V⟩;rw[show max a top=top by lia]at V⊢;exact h top h2 (zq _) V<|.inl rfl
theorem HY{st:SortSt}{g:Nat->Nat}{n top:Nat}{Q:Option Nat->SortSt->Prop}(hO:κ.OneLt)(h0:KeysOf κ a₀)(ht:top<=a₀.size)(h1:1<=n)(h2:n<=top)(B:SBase a₀ st)(G:Gh a₀ g<|arrOf st)(T:Fw g n a₀.size)(D:Wh κ a₀ g n) (h:∀m g' eN,SBase a₀ eN->Gh a₀ g' (arrOf eN)->Fw g' m a₀.size->1<=m->m<=top->B7 κ a₀ g' m->Q (some m) eN):wpS (model prog w) A E s (tail3 n top) Q st:=by
 unfold tail3;refine wpS_bind<|wpS_reverse ?_;have B':SBase a₀ (setArr st<|mirror (arrOf st) 0 n<|(n-0)/2):=B.setArr<|mirror_perm _ _ _ _;have G':Gh a₀ (HX g 0 n) (arrOf<|setArr st<|mirror (arrOf st) 0 n<|(n-0)/2):=G.mirror B.size (by lia);have T':Fw (HX g 0 n) n a₀.size:=λk hk dw=>by rw[fV<|by lia];exact T k hk dw
 refine wpS_bind<|Nh hO h0 ht h1 h2 B' G' T' (λi j jg hj=>?_) λm hm1 Ni V _=>wpS_pure<|h m _ _ B' G' (λk hk dw=>T' k (by lia) dw) (by lia) Ni V;rw[iq<|by lia,iq<|by lia];exact D _ _ (by lia)<|by lia
structure JV(κ:KeyKind)(a₀:Array Keyed)(g:Nat->Nat)(x q:Nat):Prop where
 le:q+1<=x
 tl:Fw g (x-(q+1)) a₀.size
 dn:∀i j,i<j->j<x->i<x-(q+1)->Log κ a₀ (g j) (g i)
 eq:∀i,x-(q+1)<=i->i<x->KK κ a₀ (g i)=KK κ a₀ (g<|x-1)
theorem JV.full(F:JV κ a₀ g x q)(hx:x<=a₀.size):Wh κ a₀ (HX g (x-(q+1)) x) x:=λi j jg hj=>by have le:=F.le;by_cases hi:i<x-(q+1);rw[fV (k:=i)<|by lia];by_cases Wi:j<x-(q+1);rw[fV<|by lia];exact F.dn i j jg hj hi;rw[iq<|by lia];exact F.dn i _ (by lia) (by lia) hi;rw[iq<|by lia,iq<|by lia];refine .inr {(F.eq _ (by lia)<|by lia).trans (F.eq _ (by lia)<|by lia).symm,?_};rw[F.tl _ (by lia)<|by lia,F.tl _ (by lia)<|by lia];lia
theorem JV.Nj(F:JV κ a₀ g x 0):Wh κ a₀ g x:=λi j jg hj=>F.dn i j jg hj<|by lia
theorem JV.next(D:Wh κ a₀ g x)(T:Fw g x a₀.size)(hx:x<a₀.size)(h1:1<=x)(hl:κ.klt (KK κ a₀<|g x)<|KK κ a₀<|g<|x-1):JV κ a₀ g (x+1) 0 where
 le:=by lia
 tl:=λk hk dw=>T k (by lia) dw
 dn:=λi j jg hj hi=>by
  by_cases Wi:j<x
  ·exact D i j jg Wi
  ·obtain rfl:j=x:=by lia
   refine .inl ?_
   by_cases q:i=j-1
   ·rw[q];exact hl
   ·exact KeyOrd.klt_of_klt_of_kle hl (D i (j-1) (by lia)<|by lia).kle
 eq:=λi hi hj=>by rw[show i=x+1-1 by lia]
theorem PF{st:SortSt}{g:Nat->Nat}{n top:Nat}{Q:DescSt->SortSt->Prop}(hO:κ.OneLt)(h0:KeysOf κ a₀)(ht:top<=a₀.size)(h1:1<=n)(h2:n<=top)(B:SBase a₀ st)(G:Gh a₀ g<|arrOf st)(F:JV κ a₀ g n 0) (h:∀m q g' eN,SBase a₀ eN->Gh a₀ g' (arrOf eN)->n<=m->m<=top->JV κ a₀ g' m q->Q (none,m,q) eN):wpS (model prog w) A E s (descLoop n top) Q st:=by
 unfold descLoop;refine wpS_forRange (I:=λx c t=>∃q g',c=(none,x,q)/\SBase a₀ t/\Gh a₀ g' (arrOf t)/\JV κ a₀ g' x q) ?_ ?_ {0,g,rfl,B,G,F};rintro x c t GQ Lp ⟨q,g',rfl,B',G',F'⟩;have le:=F'.le;dsimp only;refine wpS_bind<|wpS_ltKK hO B' h0 (by lia) (by lia) ?_;rw[G'.key<|by lia,G'.key<|by lia];cases hl:κ.blt (KK κ a₀<|g' x) (KK κ a₀<|g'<|x-1) with|true=>(simp only[if_true];by_cases hq:q>0;rw[if_pos hq];refine wpS_bind<|wpS_reverse<|wpS_pure {0,_,rfl,B'.setArr<|mirror_perm _ _ _ _,G'.mirror B'.size<|by lia,?_};refine .next (F'.full<|by lia) (λk hk dw=>?_) (by lia) (by lia) ?_;rw[fV<|by lia];exact F'.tl k (by lia) dw;rw[fV<|by lia,iq<|by lia,F'.eq (x-(q+1)+x-1-(x-1)) (by lia)<|by lia];exact hl;rw[if_neg hq];obtain rfl:q=0:=(by lia);exact wpS_pure {0,g',rfl,B',G',.next F'.Nj (λk hk dw=>F'.tl k (by lia) dw) (by lia) (by lia) hl})|false=>simp only[Bool.false_eq_true,if_false];refine wpS_bind<|wpS_ltKK hO B' h0 (by lia) (by lia) ?_;rw[G'.key<|by lia,G'.key<|by lia];cases hg:κ.blt (KK κ a₀<|g'<|x-1) (KK κ a₀<|g' x) with|true=>exact wpS_pure (h x q g' t B' G' GQ (by lia) F')|false=>have e:KK κ a₀ (g' x)=KK κ a₀ (g'<|x-1):=KeyOrd.kle_antisymm hg hl;refine wpS_pure {q+1,g',rfl,B',G',{by lia,λk hk dw=>F'.tl k (by lia) dw,λi j jg hj hi=>?_,λi hi hj=>?_}};by_cases Wi:j<x;exact F'.dn i j jg Wi (by lia);obtain rfl:j=x:=(by lia);have:=F'.dn i (j-1) (by lia) (by lia) (by lia);rcases this with z|⟨_,z⟩;exact .inl (by rw[e];exact z);rw[F'.tl (j-1) (by lia)<|by lia]at z;have:=G'.low (m:=j-(q+1)) F'.tl (by lia) (i:=i) (by lia);lia;rw[show x+1-1=x by lia];by_cases Uo:i=x;rw[Uo];rw[e];exact F'.eq i (by lia)<|by lia
 rintro c t ⟨q,g',rfl,B',G',F'⟩;rw[show max n top=top by lia]at F'⊢;exact h top q g' t B' G' h2 (zq _) F'
theorem HZ{st:SortSt}{g:Nat->Nat}{n top:Nat}{Q:Option Nat->SortSt->Prop}(hO:κ.OneLt)(h0:KeysOf κ a₀)(ht:top<=a₀.size)(h2:n+1<=top)(B:SBase a₀ st)(G:Gh a₀ g<|arrOf st)(F:JV κ a₀ g (n+1) 0) (h:∀m g' eN,SBase a₀ eN->Gh a₀ g' (arrOf eN)->Fw g' m a₀.size->1<=m->m<=top->B7 κ a₀ g' m->Q (some m) eN):wpS (model prog w) A E s (descPart n top) Q st:=by
 unfold descPart;refine wpS_bind<|wpS_lift<|yX {rfl,?_};refine wpS_bind<|PF hO h0 ht (by lia) h2 B G F λm q g' eN B' G' hm1 Ni F'=>?_;have le:=F'.le;dsimp only;by_cases hq:q>0;rw[if_pos hq];refine wpS_bind<|wpS_reverse<|HY hO h0 ht (by lia) Ni (B'.setArr<|mirror_perm _ _ _ _) (G'.mirror B'.size<|by lia) (λk hk dw=>?_) (F'.full<|by lia) h;rw[fV<|by lia];exact F'.tl k (by lia) dw;rw[if_neg hq];obtain rfl:q=0:=by lia
 exact HY hO h0 ht (by lia) Ni B' G' (λk hk dw=>F'.tl k (by lia) dw) F'.Nj h
theorem UA{st:SortSt}{g:Nat->Nat}{top:Nat}{Q:Option Nat->SortSt->Prop}(hO:κ.OneLt)(h0:KeysOf κ a₀)(ht:top<=a₀.size)(h1:1<=top)(B:SBase a₀ st)(G:Gh a₀ g<|arrOf st)(T:Fw g 0 a₀.size) (h:∀m g' eN,SBase a₀ eN->Gh a₀ g' (arrOf eN)->Fw g' m a₀.size->1<=m->m<=top->B7 κ a₀ g' m->Q (some m) eN):wpS (model prog w) A E s (countRun' 0 top) Q st:=by
 rw[countRun0_eq];refine wpS_bind<|Nh hO h0 ht (zq 1) h1 B G (λk hk dw=>T k (by lia) dw) (λi j jg hj=>by lia) λn Nk MO U hor=>?_;dsimp only;have Tn:∀m,Fw g m a₀.size:=λm k hk dw=>T k (by lia) dw;by_cases Nl:n=top;rw[if_pos<|by simpa using Nl];exact wpS_pure<|h n g st B G (Tn n) Nk MO U;rw[if_neg<|by simpa using Nl];have eO:=hor.resolve_left Nl;by_cases Wj:n>1;rw[if_pos Wj];refine wpS_bind<|wpS_ltKK hO B h0 (by lia) (by lia) ?_;rw[G.key<|by lia,G.key<|by lia];cases hr:κ.blt (KK κ a₀<|g 0) (KK κ a₀<|g<|n-1) with|true=>exact wpS_pure (h n g st B G (Tn n) Nk MO U)|false=>simp only[Bool.false_eq_true,if_false];have all:∀k,k<n->KK κ a₀ (g k)=KK κ a₀ (g<|n-1):=λk hk=>(by have a1:κ.kle (KK κ a₀<|g 0) (KK κ a₀<|g k):=(by by_cases z:k=0;rw[z];exact KeyOrd.kle_refl _;exact(U 0 k (by lia) hk).kle);have a2:κ.kle (KK κ a₀<|g k) (KK κ a₀<|g<|n-1):=(by by_cases z:k=n-1;rw[z];exact KeyOrd.kle_refl _;exact(U k (n-1) (by lia)<|by lia).kle);exact KeyOrd.kle_antisymm a2<|KeyOrd.kle_trans hr a1);refine wpS_bind<|wpS_reverse<|HZ hO h0 ht (by lia) (B.setArr<|mirror_perm _ _ _ _) (G.mirror B.size<|by lia) ?_ h;refine .next (λi j jg hj=>?_) (λk hk dw=>by rw[fV<|by lia];exact T k (by lia) dw) (by lia) (by lia) ?_;rw[iq<|by lia,iq<|by lia];refine .inr {(all _<|by lia).trans (all _<|by lia).symm,?_};rw[T _ (by lia)<|by lia,T _ (by lia)<|by lia];lia;rw[fV<|by lia,iq<|by lia,all (0+n-1-(n-1))<|by lia];exact eO
 rw[if_neg Wj];obtain rfl:n=1:=by lia
 exact HZ hO h0 ht (by lia) B G (.next (λi j jg hj=>by lia) (Tn 1) (by lia) (by lia) eO) h
theorem UB{st:SortSt}{g:Nat->Nat}{n ok:Nat}{Q:Bool->SortSt->Prop}(hO:κ.OneLt)(h0:KeysOf κ a₀)(hn:n<=a₀.size)(aK:ok<=n)(B:SBase a₀ st)(G:Gh a₀ g<|arrOf st)(T:Fw g ok a₀.size)(U:B7 κ a₀ g ok) (h:∀g' eN,SBase a₀ eN->Gh a₀ g' (arrOf eN)->B7 κ a₀ g' n->Q true eN):wpS (model prog w) A E s (binarySort' 0 n ok) Q st:=by
 rw[binarySort'_eq];simp only[Nat.zero_add];refine wpS_bind<|wpS_mono (wpS_forRange (I:=λk c t=>c=(none,())/\∃g',SBase a₀ t/\Gh a₀ g' (arrOf t)/\Fw g' k a₀.size/\B7 κ a₀ g' (min k n)) (Q:=λc t=>c=(none,())/\∃g',SBase a₀ t/\Gh a₀ g' (arrOf t)/\B7 κ a₀ g' n) ?_ ?_ ?_) ?_;rintro k c t hk1 dw ⟨rfl,g',B',G',T',V⟩;rw[show min k n=k by lia]at V;have hk:k<a₀.size:=by lia
 refine wpS_bind<|wpS_mono (wpS_forRange (I:=λx c t2=>t2=t/\∃l r,c=(none,l,r)/\l<=r/\r<=k/\r-l<=k-x/\(∀i,i<l->κ.kle (KK κ a₀<|g' i) (KK κ a₀<|g' k))/\(∀i,r<=i->i<k->κ.klt (KK κ a₀<|g' k) (KK κ a₀<|g' i))) (Q:=λc t2=>t2=t/\∃l r,c=(none,l,r)/\l<=k/\(∀i,i<l->κ.kle (KK κ a₀<|g' i) (KK κ a₀<|g' k))/\(∀i,l<=i->i<k->κ.klt (KK κ a₀<|g' k) (KK κ a₀<|g' i))) ?_ ?_ ?_) ?_;rintro x c t2 _ hxk ⟨rfl,l,r,rfl,tR,YR,hm,lo,hi⟩;dsimp only;by_cases Wk:l>=r;rw[if_pos Wk];obtain rfl:l=r:=by lia
 exact wpS_pure ⟨rfl,l,l,rfl,YR,lo,hi⟩;rw[if_neg Wk];refine wpS_bind<|wpS_ltKK hO B' h0 hk (by lia) ?_;rw[G'.key hk,G'.key<|by lia];cases hl:κ.blt (KK κ a₀<|g' k) (KK κ a₀<|g'<|(l+r)/2) with|true=>refine wpS_pure {rfl,l,(l+r)/2,rfl,by lia,by lia,by lia,lo,λi a b=>?_};by_cases z:i=(l+r)/2;rw[z];exact hl;exact KeyOrd.klt_of_klt_of_kle hl (V _ _ (by lia) b).kle|false=>refine wpS_pure {rfl,(l+r)/2+1,r,rfl,by lia,by lia,by lia,λi a=>?_,hi};by_cases z:i=(l+r)/2;rw[z];exact hl;exact KeyOrd.kle_trans (V i ((l+r)/2) (by lia)<|by lia).kle hl
 rintro c t2 ⟨rfl,l,r,rfl,tR,YR,hm,lo,hi⟩;obtain rfl:l=r:=by lia
 exact⟨rfl,l,l,rfl,YR,lo,hi⟩;exact{rfl,0,k,rfl,by lia,by lia,by lia,λi hi=>by lia,λi a b=>by lia};rintro c t2 ⟨rfl,l,r,rfl,YS,lo,hi⟩;show wpS _ _ _ _ (do moveDown' k l;pure (ForInStep.yield (none,()))) _ _;rw[moveDown'_eq];refine wpS_bind<|wpS_modify<|wpS_pure {rfl,_,B'.setArr<|bubble_perm _ _ _,G'.bubble B'.size YS hk,λx GQ Lp=>?_,?_};show Lw g' k l x=x;unfold Lw;rw[if_neg<|by lia,if_neg<|by lia];exact T' x (by lia) Lp;rw[show min (k+1) n=k+1 by lia];have lw:∀i,i<k->g' i<k:=λi q=>G'.low T' (by lia) q;have ek:=T' k (zq _) hk;intro i j jg hj;show Log κ a₀ (Lw g' k l i) (Lw g' k l j);unfold Lw;by_cases i1:i=l;rw[if_pos i1,if_neg<|by lia,if_pos<|by lia];exact .inl<|hi _ (by lia) (by lia);rw[if_neg i1];by_cases j1:j=l;rw[if_pos j1,if_neg<|by lia];have h1:=lo i (by lia);have h2:=lw i (by lia);rw[ek]at h1⊢;exact Ng h1 h2;rw[if_neg j1];by_cases i2:l<i/\i<=k<;>by_cases j2:l<j/\j<=k;rw[if_pos i2,if_pos j2];exact V _ _ (by lia) (by lia);lia;rw[if_neg i2,if_pos j2];exact V _ _ (by lia) (by lia);rw[if_neg i2,if_neg j2];exact V _ _ (by lia) (by lia);rintro c t ⟨hc,g',B',G',T',V⟩;refine{hc,g',B',G',?_};rwa [show min (max (max ok 1) n) n=n by lia]at V;refine{rfl,g,B,G,λk hk dw=>T k (by lia) dw,λi j jg hj=>?_};exact U i j jg (by lia);rintro c t ⟨rfl,g',B',G',V⟩;exact wpS_pure<|h g' t B' G' V
def PH(κ:KeyKind)(a₀:Array Keyed)(st:SortSt):Prop:=failedOf st=none/\pendingOf st=#[(0,a₀.size,0)]/\∃g,(arrOf st).size=a₀.size/\Gh a₀ g (arrOf st)/\B7 κ a₀ g a₀.size
theorem PJ{st:SortSt}{Q:Unit->SortSt->Prop}(hO:κ.OneLt)(h0:KeysOf κ a₀)(B:SBase a₀ st)(e0:arrOf st=a₀)(h2:2<=a₀.size)(GR:a₀.size<64) (h:∀eN g,failedOf eN=none->(arrOf eN).size=a₀.size->Gh a₀ g (arrOf eN)->B7 κ a₀ g a₀.size->Q () eN):wpS (model prog w) A E s sortRuns' Q st:=by
 have G:Gh a₀ (λk=>k) (arrOf st):={λk _=>by rw[e0],λk hk=>hk,λ_ _ _ _ e=>e};have fin:∀(t:SortSt)(g:Nat->Nat),SBase a₀ t->Gh a₀ g (arrOf t)->B7 κ a₀ g a₀.size->PH κ a₀ (setPending t<|(pendingOf t).push (0,a₀.size,0)):=λt g B' G' U=>{B'.failed,by show(pendingOf t).push _=_;rw[B'.pend];rfl,g,B'.size,G',U};rw[sortRuns'_eq];refine wpS_bind<|wpS_get ?_;dsimp only;have hm:minRun' a₀.size a₀.size 0=a₀.size:=by obtain⟨f,hf⟩:∃f,a₀.size=f+1:={a₀.size-1,by lia};have:minRun' (f+1) a₀.size 0=a₀.size:=(by rw[minRun'_succ,if_pos GR];rfl);rwa [<-hf]at this
 simp only[B.size,hm];refine wpS_bind<|wpS_mono (wpS_forRange (I:=λx c t=>(x=0/\c=(none,0)/\t=st)\/(1<=x/\c=(none,a₀.size)/\PH κ a₀ t)) (Q:=λc t=>c=(none,a₀.size)/\PH κ a₀ t) ?_ ?_<|.inl ⟨rfl,rfl,rfl⟩) ?_;rintro x c t _ hx (⟨rfl,rfl,rfl⟩|⟨GQ,rfl,D⟩);dsimp only;rw[if_neg<|by lia];simp only[Nat.sub_zero,Nat.min_self,Nat.zero_add];refine wpS_bind<|UA hO h0 (zq _) (by lia) B G (λ_ _ _=>rfl) λm g' t2 B2 G2 T2 hm1 Ni U2=>?_;dsimp only;by_cases eO:m<a₀.size;rw[if_pos eO];refine wpS_bind<|wpS_lift<|yX {rfl,?_};refine wpS_bind<|UB hO h0 (zq _) Ni B2 G2 T2 U2 λg3 t3 B3 G3 U3=>?_;simp only[Bool.not_true,Bool.false_eq_true,if_false];refine wpS_bind<|wpS_get ?_;rw[show(pendingOf t3).back?=none by rw[B3.pend];rfl];dsimp only;exact wpS_bind<|wpS_modify<|wpS_pure<|.inr {by lia,rfl,fin t3 g3 B3 G3 U3};rw[if_neg eO];obtain rfl:m=a₀.size:=by lia
 refine wpS_bind<|wpS_get ?_;rw[show(pendingOf t2).back?=none by rw[B2.pend];rfl];dsimp only;exact wpS_bind<|wpS_modify<|wpS_pure<|.inr {by lia,rfl,fin t2 g' B2 G2 U2};dsimp only;rw[if_pos<|zq _];exact wpS_pure ⟨rfl,D⟩;rintro c t (⟨hx,_,_⟩|⟨_,hc,D⟩);lia;exact⟨hc,D⟩;rintro c t ⟨rfl,D⟩;dsimp only;obtain⟨d1,d2,g,d3,d4,d5⟩:=D;refine wpS_bind<|wpS_mono (wpS_forRange (I:=λ_ c t2=>t2=t/\c=(none,())) (Q:=λc t2=>t2=t/\c=(none,())) ?_ (λ_ _ z=>z) ⟨rfl,rfl⟩) ?_;rintro x c t2 _ _ ⟨rfl,rfl⟩;refine wpS_bind<|wpS_get ?_;rw[if_pos<|by rw[d2];exact zq 1];exact wpS_pure ⟨rfl,rfl⟩;rintro c t2 ⟨rfl,rfl⟩;exact wpS_pure<|h _ g d1 d3 d4 d5
end
noncomputable abbrev Lx(X:Cx)(qual:Str)(scope:Scope)(L f:Addr)(cv:Value):Env:=envX qual scope L f cv<|clOf X.env.cells scope.names
noncomputable def Ro(X:Cx)(N:List Str)(qual:Str)(scope:Scope)(f:Addr)(cv:Value)(A:Around)(s:Shared)(H:Hp):Cx:={X with A:=A.deeper<|Lx X qual scope s.heap.objs.size f cv,N:=N,dm:=s,vi:=H,env:=Lx X qual scope s.heap.objs.size f cv,outer:=X.stack,stack:=Lx X qual scope s.heap.objs.size f cv::X.stack,ex:=[],fn:=λ_=>false,calm:=true,pn:=[],xe:=λ_ _=>False}
noncomputable abbrev y4(X:Cx)(qual:Str)(params:Arguments)(body:Expr)(scope:Scope)(pm cv lV:Value):Obj:={cls:=.type "function",data:=.func<|kla_fn "<lambda>" qual params body scope (clOf X.env.cells scope.names) pm cv lV}
section
variable{X:Cx}{pins:List (Addr×Obj)}{σ:St}{H:Hp}{s:Shared}{N:List Str}{src:List (Option Nat)}{scope:Scope}{params:Arguments}{body:Expr}{qual p:Str}{pm cv lV u:Value}{f:Addr}{A:Around}{v:V}{te:TE}{Q:VK}
theorem Lz(I:Inv X pins σ H s)(S:bK X N src scope)(LA:N[0]?=some p)(hp:scope.names.lookup p=some .local)(h0:src[0]?=some none)(xp:A.frames=some X.stack)(hh:A.handled=none)(r:RelV v u) (PK:h₁.Ns s.heap.objs.size λx=>[(p,u)].reverse.lookup x) (old:∀b o,s.heap.get? b=some o->h₁.get? b=some o): Inv (Ro X N qual scope f cv A s H) [] ((pick σ src).set 0<|some v) H {s with heap:=h₁,toks:=tk}:=by
 have iP:∀x c,(clOf X.env.cells scope.names).lookup x=some c->X.env.cells.lookup x=some c:=qX X.env.cells scope.names [] (by intro x c h;simp at h);have Kr:∀b:Addr,b∉(Ro X N qual scope f cv A s H).ex:=λb z=>absurd (show b∈([]:List Addr) from z) (by simp);have A8:∀x,scope.names.lookup x=some .free->∃c,(clOf X.env.cells scope.names).lookup x=some c:=λx hl=>by have hm:=yn hl;obtain⟨c,Kz⟩:=I.ok.has x<|S.A8 _ hm rfl;exact{c,jj X.env.cells scope.names [] x c (by intro x c h;simp at h) hm Kz}
 refine{{I.ok.mod,S.kind,rfl,rfl,zq _,λx y c h1 h2=>I.ok.inj x y c (iP _ _ h1)<|iP _ _ h2,λx hk=>?_,λx c h=>(nomatch h),λ_=>hh,Around.frames_deeper xp,.inr ⟨rfl,rfl⟩,λb z=>absurd z<|Kr b,I.bs,zD I.ok.J5 I.sz,λb _ _=>Kr b,λb z=>absurd z<|Kr b,I.stack,I.qp},rfl,I.bare,Un.kept old,{_,PK,λi x w e1 e2 e3=>?_},λx c e=>?_,I.aK.fresh<|zq _,λx c e=>I.fR x c<|iP x c e,λq hq=>absurd (show q∈([]:List (Addr×Obj)) from hq)<|by simp,I.aK.kept old,?_};have hk:scope.names.lookup x=some .cell\/scope.names.lookup x=some .free:=hk;rcases hk with hk|hk;exact absurd rfl<|S.gw _<|yn hk;exact A8 x hk;have e1:N[i]?=some x:=e1;by_cases hi:i=0;subst hi;rw[LA]at e1;cases e1;have hl:0<(pick σ src).length:=by unfold pick;rw[zb];exact(zd.mp h0).1
 rw[List.getElem?_set_self hl]at e2;cases e2;exact{u,r,.inl {hp,by simp[yf]}};rw[List.getElem?_set_ne<|Ne.symm hi]at e2;unfold pick at e2;rw[zg]at e2;cases es:src[i]? with|none=>(rw[es]at e2;cases e2)|some o=>rw[es]at e2;cases o with|none=>(cases e2)|some j=>have e3:(σ[j]?).join=some w:=zU e2;have e4:σ[j]?=some (some w):=(by cases q:σ[j]? with|none=>(rw[q]at e3;cases e3)|some z=>rw[q]at e3;exact congrArg some e3);obtain⟨a1,a2,a3⟩:=S.src i j x es e1;obtain⟨m0,_,hl⟩:=I.loc;obtain⟨u',r',l⟩:=hl j x w a1 e4 a3;have hm:=yn a2;have hk:=S.A8 _ hm rfl;rcases l with⟨k,_⟩|⟨_,c,Kz,⟨o,ho,hd⟩⟩;rcases hk with hk|hk<;>(rw[k]at hk;cases hk);exact{u',r',.inr {.inr a2,c,jj X.env.cells scope.names [] x c (by intro x c h;simp at h) hm Kz,o,old _ _ ho,hd}}
 obtain⟨w,o,ho,hd⟩:=I.cell x c<|iP x c e;exact{w,o,old _ _ ho,hd};show((pick σ src).set 0<|some v).length=N.length;unfold pick;rw[List.length_set,zb,S.len]
theorem H9(I:Inv X pins σ H s)(S:bK X N src scope)(LA:N[0]?=some p)(hp:scope.names.lookup p=some .local)(h0:src[0]?=some none)(xp:A.frames=some X.stack)(hh:A.handled=none)(UC:A.depth<recursionLimit)(r:RelV v u) (ho:s.heap.get? f=some (y4 X qual params body scope pm cv lV)) (s_:s.heap.CodeRec cv qual) (LB:scope.isCoroutine=false) (B8:scope.isGenerator=false) (hb:bindArgs (kla_fn "<lambda>" qual params body scope (clOf X.env.cells scope.names) pm cv lV) {[u],[]}=pure [(p,u)]) (he:PE (Ro X N qual scope f cv A s H) body te) (h:te ((pick σ src).set 0<|some v) H Q): codeAny (model X.prog X.w) A (.call (.ref f) {[u],[]}) (λq s'=>∃w,q=.ok (.ret w)/\CE X.stack X.prog X.w H s Q w s') s:=by refine PySem.W.kla_callFunE UC ho rfl LB B8 rfl s_ ?_;show wpAny _ _ (bindArgs (kla_fn "<lambda>" qual params body scope (clOf X.env.cells scope.names) pm cv lV) {[u],[]}) _ _ _;rw[hb];refine zm<|wpAny_newFunctionEnv S.gw (λx hx=>?_) (λh₁ PK KZ=>{I.nolimit.fresh _ KZ,?_}) S.kind;rw[zK.mp hx];exact hp;have old:∀b o,s.heap.get? b=some o->h₁.get? b=some o:=λb o e=>KZ.extBut b o (zB<|zw e)<|za _ e;show codeAny _ _ (.expr body<|Lx X qual scope s.heap.objs.size f cv) _ _;refine PySem.W.kla_codeExpr<|yL (he [] _ _ H Q (Lz I S LA hp h0 xp hh r PK old) h) (by rintro w s' ⟨x,H',J,rv,q⟩;exact⟨w,rfl,x,H',J.os,J.bare,J.base,J.aK,rv,q⟩) λ_ _ z=>z.elim
end
@[reducible] def intK:KeyKind where
 α:=Int
 blt a b:=decide<|a<b
 irrefl a:=by simp
 trans a b c h1 h2:=by simp only[zR]at *;lia
 negTrans a b c h:=by simp only[zR]at *;lia
 total a b h1 h2:=by simp only[yw]at *;lia
 keyOf v:=match v with|.int x _=>some x|_=>none
 dflt:=0
theorem H_:intK.OneLt:=by intro prog w A E s x y a b Q ha hb h;cases x<;>simp only[intK,reduceCtorEq,Option.some.injEq]at ha;cases y<;>simp only[intK,reduceCtorEq,Option.some.injEq]at hb;cases ha;cases hb;exact oneLt_int h
structure Wl(κ:KeyKind)(b:Bool)(key:Nat->κ.α)(n:Nat)(g:Nat->Nat):Prop where
 lt:∀k,k<n->g k<n
 inj:∀i j,i<n->j<n->g i=g j->i=j
 ord:∀i j,i<j->j<n->(if b=true then κ.klt (key<|g j) (key<|g i) else κ.klt (key<|g i) (key<|g j))\/(key (g i)=key (g j)/\g i<g j)
noncomputable def iT(κ:KeyKind)(us:List Value)(j:Nat):κ.α:=(κ.keyOf<|us.getD j .none).getD κ.dflt
theorem Ia{us vs:List Value}(hl:us.length=vs.length){j:Nat}(hj:j<vs.length):(us.toArray.zip vs.toArray)[j]?=some (us.getD j .none,vs.getD j .none):=by have e:(us.zip vs)[j]?=some (us.getD j .none,vs.getD j .none):=List.getElem?_zip_eq_some.mpr {by show us[j]?=some (us.getD j .none);rw[zH,zf<|by lia];rfl,by show vs[j]?=some (vs.getD j .none);rw[zH,zf hj];rfl};rw[<-Array.getElem?_toList,ksk_zip,List.toList_toArray];exact e
theorem vR{κ:KeyKind}{us vs:List Value}(hl:us.length=vs.length){j:Nat}(hj:j<vs.length):KK κ (us.toArray.zip vs.toArray) j=iT κ us j:=by unfold KK iT;rw[Ia hl hj]
theorem y6{l m:List Value}{n:Nat}(h1:l.length=n)(h2:m.length=n)(h:∀k,k<n->l[k]?=m[k]?):l=m:=by apply List.ext_getElem?;intro k;by_cases hk:k<n;exact h k hk;rw[List.getElem?_eq_none<|by lia,List.getElem?_eq_none<|by lia]
section
variable{prog:Program}{w:World}{A:Around}{E:Value->Shared->Prop}{s:Shared}{a kS:Addr}{b:Bool}{us vs:List Value}{e e1:Nat}{P:PySem.Fin->Shared->Prop}{κ:KeyKind}
theorem DU{st:SortSt}{keys:Array Value}(hk:s.heap.get? kS=some (seqObj "list" keys e))(ha:s.heap.get? a=some (seqObj "list" #[] e1))(PL:kS≠a)(hz:keys.size<64)(Ib:(arrOf st).size<64)(Td:failedOf st=none) (h:∀h' c,(∀b o,b≠a->b≠kS->s.heap.get? b=some o->h'.get? b=some o)->h'.get? a=some (seqObj "list" (if b then ((arrOf st).map (·.2)).reverse else (arrOf st).map (·.2)) c)->P (.done<|.ret .none) {s with heap:=h'}): wpAny (model prog w) A (ksk_tail a b e1 (.ref kS) st) P E s:=by
 have s1:=yF s.heap kS<|Obj.mapSeq λ_=>(#[]:Array Value);have YT:(s.heap.update kS<|Obj.mapSeq λ_=>(#[]:Array Value)).get? a=some (seqObj "list" #[] e1):=(s1.2 a PL.symm).trans ha;have pY:∀o:Array Value,o=(if b then ((arrOf st).map (·.2)).reverse else (arrOf st).map (·.2))->o.size<64:=by rintro o rfl;cases b with|false=>rw[if_neg ze,Array.size_map];exact Ib|true=>rw[if_pos rfl,Array.size_reverse,Array.size_map];exact Ib
 generalize ho:(if b then ((arrOf st).map (·.2)).reverse else (arrOf st).map (·.2))=out at h pY;have pY:=pY out rfl;have s2:=yF (s.heap.update kS<|Obj.mapSeq λ_=>(#[]:Array Value)) a<|Obj.mapSeq λ_=>out;obtain⟨c2,YU⟩:∃c2,((s.heap.update kS<|Obj.mapSeq λ_=>(#[]:Array Value)).update a<|Obj.mapSeq λ_=>out).get? a=some (seqObj "list" out c2):={_,get?_update_seq YT λ_=>out};unfold ksk_tail;try dsimp only
 refine zc<|listUpdate_at hk rfl ?_ (by rw[yg];lia)<|zT _;refine zc<|wpAny_letGo ?_;refine zc<|seqEpoch_at YT rfl ?_;rw[ho];refine zc<|listUpdate_at YT rfl ?_ (zT _)<|zD (yH pY) (by rw[yg];lia);rw[Td];simp only[bne_self_eq_false,Bool.false_eq_true,if_false];exact zm<|h _ c2 (λb o h1 h2 q=>(s2.2 b h1).trans<|(s1.2 b h2).trans q) YU
theorem Ie{xs:Array Keyed}{g:Nat->Nat}(hl:us.length=vs.length)(hs:xs.size=vs.length) (G:Gh (if b=true then (us.toArray.zip vs.toArray).reverse else us.toArray.zip vs.toArray) g xs) (U:B7 κ (if b=true then (us.toArray.zip vs.toArray).reverse else us.toArray.zip vs.toArray) g vs.length): ∃g',Wl κ b (iT κ us) vs.length g'/\(if b then (xs.map (·.2)).reverse else xs.map (·.2)).toList=(List.range vs.length).map λk=>vs.getD (g' k) .none:=by
 have xq:(us.toArray.zip vs.toArray).size=vs.length:=by rw[Array.size_zip,zo,zo,hl,Nat.min_self]
 have zat:∀k,k<vs.length->(us.toArray.zip vs.toArray)[k]?=some (us.getD k .none,vs.getD k .none):=λk hk=>Ia hl hk;cases b with|false=>rw[if_neg ze]at G U;refine{g,{λk hk=>by have:=G.lt k (by rw[xq];exact hk);rwa [xq]at this,λi j hi hj=>G.inj i j (by rw[xq];exact hi)<|by rw[xq];exact hj,λi j jg hj=>?_},?_};have h1:=G.lt i (by rw[xq];lia);have h2:=G.lt j (by rw[xq];lia);rw[xq]at h1 h2;have:=U i j jg hj;unfold Log at this;rw[vR hl h1,vR hl h2]at this;rw[if_neg ze];exact this;rw[if_neg ze];refine y6 (n:=vs.length) (by rw[z0,Array.size_map,hs]) (by simp) λk hk=>?_;have h1:=G.lt k (by rw[xq];lia);rw[xq]at h1;rw[Array.getElem?_toList,Array.getElem?_map,G.at_ k<|by rw[xq];exact hk,zat _ h1,zg,List.getElem?_range hk];rfl|true=>rw[if_pos rfl]at G U;have tj:(us.toArray.zip vs.toArray).reverse.size=vs.length:=(by rw[Array.size_reverse,xq]);have lt:∀k,k<vs.length->g k<vs.length:=λk hk=>(by have:=G.lt k (by rw[tj];exact hk);rwa [tj]at this);have rat:∀k,k<vs.length->(us.toArray.zip vs.toArray).reverse[k]?=(us.toArray.zip vs.toArray)[vs.length-1-k]?:=λk hk=>(by rw[Array.getElem?_reverse<|by rw[xq];exact hk,xq]);refine{λk=>vs.length-1-g (vs.length-1-k),{λk hk=>by have:=lt (vs.length-1-k) (by lia);lia,λi j hi hj e=>?_,λi j jg hj=>?_},?_};have h1:=lt (vs.length-1-i) (by lia);have h2:=lt (vs.length-1-j) (by lia);have:=G.inj (vs.length-1-i) (vs.length-1-j) (by rw[tj];lia) (by rw[tj];lia) (by lia);lia;have h1:=lt (vs.length-1-i) (by lia);have h2:=lt (vs.length-1-j) (by lia);have:=U (vs.length-1-j) (vs.length-1-i) (by lia) (by lia);unfold Log at this;have e1:KK κ (us.toArray.zip vs.toArray).reverse (g<|vs.length-1-i)=iT κ us (vs.length-1-g (vs.length-1-i)):=(KK_congr<|rat _ h1).trans<|vR hl (by lia);have e2:KK κ (us.toArray.zip vs.toArray).reverse (g<|vs.length-1-j)=iT κ us (vs.length-1-g (vs.length-1-j)):=(KK_congr<|rat _ h2).trans<|vR hl (by lia);rw[e1,e2]at this;rw[if_pos rfl];rcases this with z|⟨z1,z2⟩;exact .inl z;exact .inr {z1.symm,by lia};rw[if_pos rfl];refine y6 (n:=vs.length) (by rw[z0,Array.size_reverse,Array.size_map,hs]) (by simp) λk hk=>?_;have h1:=lt (vs.length-1-k) (by lia);rw[Array.getElem?_toList,Array.getElem?_reverse<|by rw[Array.size_map,hs];exact hk,Array.size_map,hs,Array.getElem?_map,G.at_ _<|by rw[tj];lia,rat _ h1,zat _<|by lia,zg,List.getElem?_range hk];rfl
theorem PM(hO:κ.OneLt)(hk:s.heap.get? kS=some (seqObj "list" us.toArray e))(ha:s.heap.get? a=some (seqObj "list" #[] e1))(PL:kS≠a)(hl:us.length=vs.length)(GR:vs.length<64)(h0:∀u∈us,∃x,κ.keyOf u=some x) (hkk:∀nS nU rest,us=nS::nU::rest->keyKind' (nS::nU::rest).toArray=pure oneType') (h:∀h' c g out,(∀b o,b≠a->b≠kS->s.heap.get? b=some o->h'.get? b=some o)->h'.get? a=some (seqObj "list" out c)->Wl κ b (iT κ us) vs.length g->out.toList=(List.range vs.length).map (λk=>vs.getD (g k) .none)->P (.done<|.ret .none) {s with heap:=h'}): wpAny (model prog w) A (ksk_end a b vs.toArray e1 (.ref kS) us.toArray) P E s:=by
 have xq:(us.toArray.zip vs.toArray).size=vs.length:=by rw[Array.size_zip,zo,zo,hl,Nat.min_self]
 have step:∀t:Sem PySem.Fin,wpAny (model prog w) A t P E s->wpAny (model prog w) A (if b=true then (do let _ <-rule "list.sort.reverse";t) else t) P E s:=by intro t ht;split;exact zc<|yX ht;exact ht
 have hsz:(if b=true then (us.toArray.zip vs.toArray).reverse else us.toArray.zip vs.toArray).size=vs.length:=by cases b with|false=>exact xq|true=>rw[if_pos rfl,Array.size_reverse,xq]
 have keys:KeysOf κ (if b=true then (us.toArray.zip vs.toArray).reverse else us.toArray.zip vs.toArray):=λp hp=>by have hp:p∈us.zip vs:=(by have e2:(us.toArray.zip vs.toArray).toList=us.zip vs:=(by rw[ksk_zip]);cases b with|false=>rw[if_neg ze,e2]at hp;exact hp|true=>rw[if_pos rfl,Array.toList_reverse,e2]at hp;exact List.mem_reverse.mp hp);obtain⟨x,y⟩:=p;exact h0 _ (List.of_mem_zip hp).1
 unfold ksk_end;try dsimp only
 refine step _ ?_;by_cases h2:vs.toArray.size<2;{rw[if_pos h2,if_pos h2];refine zc<|zm ?_;rw[StateT.run_pure];refine zc<|zm ?_;(try dsimp only);rw[zo]at h2;refine DU (st:=SortSt.mk' general' (if b=true then (us.toArray.zip vs.toArray).reverse else us.toArray.zip vs.toArray) #[] 7 none) hk ha PL (by rw[zo];lia) (by show(if b=true then (us.toArray.zip vs.toArray).reverse else us.toArray.zip vs.toArray).size<64;lia) rfl λh' c k1 k2=>?_;obtain⟨g,g1,g2⟩:=Ie (κ:=κ) (b:=b) (xs:=if b=true then (us.toArray.zip vs.toArray).reverse else us.toArray.zip vs.toArray) (g:=λk=>k) hl hsz {λ_ _=>rfl,λ_ hk=>hk,λ_ _ _ _ e=>e} (λi j jg hj=>by lia);exact h h' c g _ k1 k2 g1 g2};{rw[if_neg h2,if_neg h2];rw[zo]at h2;obtain⟨nS,nU,rest,eu⟩:∃nS nU rest,us=nS::nU::rest:=(by match us,hl with|[],hl=>simp at hl;lia|[_],hl=>simp at hl;lia|nS::nU::rest,_=>exact⟨nS,nU,rest,rfl⟩);have ek:keyKind' us.toArray=pure oneType':=(by rw[eu];exact hkk _ _ _ eu);rw[ek];refine zc<|zm ?_;refine zc<|yL (PJ (κ:=κ) hO (a₀:=if b=true then (us.toArray.zip vs.toArray).reverse else us.toArray.zip vs.toArray) (st:=SortSt.mk' oneType' (if b=true then (us.toArray.zip vs.toArray).reverse else us.toArray.zip vs.toArray) #[] 7 none) (Q:=λ_ eN=>failedOf eN=none/\(arrOf eN).size=vs.length/\∃g,Gh (if b=true then (us.toArray.zip vs.toArray).reverse else us.toArray.zip vs.toArray) g (arrOf eN)/\B7 κ (if b=true then (us.toArray.zip vs.toArray).reverse else us.toArray.zip vs.toArray) g vs.length) keys {Array.Perm.refl _,rfl,rfl,rfl} rfl (by lia) (by lia) λeN g q1 q2 q3 q4=>{q1,q2.trans hsz,g,q3,by rw[hsz]at q4;exact q4}) ?_ λ_ _ e=>e;rintro⟨⟨⟩,eN⟩ s' ⟨rfl,hf,YV,g,G,U⟩;(try dsimp only);have YV:(arrOf eN).size=vs.length:=YV;refine DU hk ha PL (by rw[zo];lia) (by lia) hf λh' c k1 k2=>?_;obtain⟨g',g1,g2⟩:=Ie (κ:=κ) hl YV G U;exact h h' c g' _ k1 k2 g1 g2}
end
structure Nm(X:Cx)(pins:List (Addr×Obj))(b:Addr):Prop where
 loc:b≠X.env.locals
 fs:b∉X.fs
 cell:∀x c,X.env.cells.lookup x=some c->c≠b
 pin:∀p∈X.pn++pins,p.1≠b
 new:X.dm.heap.objs.size<=b
section
variable{X:Cx}{pins:List (Addr×Obj)}{σ:St}{H:Hp}{s:Shared}
theorem Inv.Wm(I:Inv X pins σ H s)(h:s.heap.objs.size<=b):Nm X pins b:={yx<|zr I.lt h,I.RV h,λx c e=>by obtain⟨v,q⟩:=I.cell x c e;exact zB<|zr q.lt h,λp hp=>zB<|zr (zw (I.pin p hp).1) h,zD I.sz h}
theorem Inv.LC(I:Inv X pins σ H s)(kp:∀b o,b≠a->b≠k->s.heap.get? b=some o->h'.get? b=some o)(ha:H a=none)(hk:H k=none)(Aa:Nm X pins a)(Ak:Nm X pins k):Inv X pins σ H {s with heap:=h',toks:=t'}:=by have NZ:∀b u,H b=some u->b≠a/\b≠k:=λb u e=>{λz=>(by rw[z,ha]at e;cases e),λz=>(by rw[z,hk]at e;cases e)};refine I.step (g':=s.gens) (d':=s.drawn) (ch:=[a,k]) (λb hb=>?_) (λb o _ _ hc e _=>kp b o (λz=>hc<|by simp[z]) (λz=>hc<|by simp[z]) e) (λb o _ _ hc e _=>{o.slots,kp b o (λz=>hc<|by simp[z]) (λz=>hc<|by simp[z]) e}) (λ_ _ _ _ n=>n) (λb o hc e=>{o,kp b o (λz=>hc<|by simp[z]) (λz=>hc<|by simp[z]) e}) (λ_ _ e=>e) (λ_ _ _ e=>e) (λb ps e=>{#[],by rw[e];simp}) (λm hm=>?_) (λb u e=>?_) I.bare;simp only[zj,zM,or_false]at hb;rcases hb with rfl|rfl;exact{.inr Aa.new,Aa.loc,Aa.cell,Aa.pin};exact{.inr Ak.new,Ak.loc,Ak.cell,Ak.pin};obtain⟨o,es,ep,ho,r⟩:=hm;exact{o,es,ep,kp _ o (Ne.symm Aa.loc) (Ne.symm Ak.loc) ho,r};refine(I.aK b u e).pO (λc v hc q=>?_) (λ_ q=>q) λ_ _ q=>q;rcases hc with z|z;rw[z]at q⊢;exact kp b v (NZ b u e).1 (NZ b u e).2 q;exact kp c v (NZ c _ z).1 (NZ c _ z).2 q
theorem Inv.UD(I:Inv X pins σ H s)(ha:H a=none)(A:Nm X pins a)(new:bt X.prog X.w (upd H a o) s.heap a o):Inv X pins σ (upd H a o) s:=by refine I.step (h':=s.heap) (g':=s.gens) (d':=s.drawn) (t':=s.toks) (ch:=[a]) (λb hb=>?_) (λb o _ _ hc e _=>e) (λb o _ _ hc e _=>⟨o.slots,e⟩) (λb u hc e n=>?_) (λb o hc e=>⟨o,e⟩) (λb xs e=>?_) (λb u v e=>?_) (λb ps e=>?_) (λm hm=>hm) (λb u e=>?_) I.bare;rw[zK.mp hb];exact{.inr A.new,A.loc,A.cell,A.pin};rw[ax λz=>hc<|by simp[z]];exact n;rw[ax<|aC e ha];exact e;rw[ax<|aC e ha];exact e;exact{#[],by rw[ax<|aC e ha,e];simp};by_cases hb:b=a;subst hb;rw[aD]at e;cases e;exact new;rw[ax hb]at e;exact(I.aK b u e).pO (λc v _ q=>q) (λc q=>by rw[ax<|aC q ha];exact q) λc xs q=>by rw[ax<|aC q ha];exact q
end
def Ig(X:Cx)(pins:List<|Addr×Obj)(σ:St)(A:Around)(f:Addr)(xs:List V)(W:Nat->List V->Hp->Prop):Prop:=∀i x u ks s' H' more,Inv X (pins++more) σ H' s'->W i ks H'->xs[i]?=some x->RelV x u->codeAny (model X.prog X.w) A (.call (.ref f) {[u],[]}) (λq Bw=>∃w,q=.ok (.ret w)/\CE X.stack X.prog X.w H' s' (λk H''=>W (i+1) (ks++[k]) H'') w Bw) s'
structure Nn(κ:KeyKind)(us:List Value):Prop where
 all:∀u∈us,∃x,κ.keyOf u=some x
 kind:∀nS nU rest,us=nS::nU::rest->keyKind' (nS::nU::rest).toArray=pure oneType'
section
variable{X:Cx}{pins:List (Addr×Obj)}{σ:St}{H:Hp}{s:Shared}{A:Around}{E:Value->Shared->Prop}{xs:List V}{vs:List Value}{f:Addr}{b:Bool}{κ:KeyKind}{W:Nat->List V->Hp->Prop}
theorem Fx{P:PySem.Fin->Shared->Prop}(hO:κ.OneLt)(I:Inv X pins σ H s)(ha:s.heap.get? a=some (seqObj "list" #[] e1))(hk:s.heap.get? kS=some (seqObj "list" #[] 0))(PL:kS≠a)(na:H a=none)(nk:H kS=none)(Aa:Nm X pins a)(Ak:Nm X pins kS) (hv:Vals xs vs) (GR:vs.length<64) (T:Ig X pins σ A f xs W) (w0:W 0 [] H) (G:∀ks us H',W vs.length ks H'->Vals ks us->ks.length=vs.length->Nn κ us) (h:∀s' H' ks us c g out,Inv X pins σ H' s'->H' a=none->s'.heap.get? a=some (seqObj "list" out c)->W vs.length ks H'->Vals ks us->ks.length=vs.length->Wl κ b (iT κ us) vs.length g->out.toList=(List.range vs.length).map (λk=>vs.getD (g k) .none)->P (.done<|.ret .none) s'): wpAny (model X.prog X.w) A (ksk_rest a (.ref f) b vs.toArray e1<|.ref kS) P E s:=by
 have nc:∀(k:Array Value) (n:Nat) (v:Option Value),(seqObj "list" k n).data≠.cell v:=λ_ _ _ z=>nomatch z;unfold ksk_rest;refine zc<|yX ?_;rw[List.forIn_toArray];refine zc<|ksk_fold (λi s'=>∃ks kA e H',Inv X pins σ H' s'/\W i ks H'/\Vals ks kA.toList/\ks.length=i/\H' a=none/\H' kS=none/\s'.heap.get? a=some (seqObj "list" #[] e1)/\s'.heap.get? kS=some (seqObj "list" kA e)) vs 0 s {[],#[],0,H,I,w0,.nil,rfl,na,nk,ha,hk} ?_ ?_;rintro j x s' hx ⟨ks,kA,e,H',I',w',v',l',Wn,YW,YX,Hr⟩;simp only[Nat.zero_add]at l' w'⊢;have hj:j<vs.length:=(zd.mp hx).1;have hl:xs.length=vs.length:=hv.length;obtain⟨y,hy⟩:∃y,xs[j]?=some y:={_,zf<|by lia};obtain⟨u,hu,ru⟩:=hv.get hy;rw[hx]at hu;cases hu;have Ip:Inv X (pins++[(a,seqObj "list" #[] e1),(kS,seqObj "list" kA e)]) σ H' s':=by refine{I'.ok,I'.os,I'.bare,I'.base,I'.loc,I'.cell,I'.free,I'.fR,λp hp=>?_,I'.aK,I'.len};rcases zP.mp hp with hp|hp;exact I'.pin p<|yr _ hp;rcases zP.mp hp with hp|hp;exact I'.pin p<|zG _ hp;simp only[zj,zM,or_false]at hp;rcases hp with rfl|rfl;exact{YX,Wn,Aa.loc,Aa.fs,nc _ _};exact{Hr,YW,Ak.loc,Ak.fs,nc _ _}
 have hz:kA.size=j:=by have h1:ks.length=kA.toList.length:=v'.length;have h2:kA.toList.length=kA.size:=z0;lia
 refine zc<|wpAny_attempt<|wpAny_call<|yV (T j y x ks s' H' _ Ip w' hy ru) λr s2 hq=>?_;obtain⟨w,rfl,ce⟩:=hq;obtain⟨k,H2,I2,rk,w2⟩:=Ip.after ce;dsimp only;have pa:=I2.pin (a,seqObj "list" #[] e1)<|zG _<|zG _ (by simp);have pk:=I2.pin (kS,seqObj "list" kA e)<|zG _<|zG _ (by simp);have I3:Inv X pins σ H2 s2:={I2.ok,I2.os,I2.bare,I2.base,I2.loc,I2.cell,I2.free,I2.fR,λp hp=>I2.pin p<|by rcases zP.mp hp with z|z;exact yr _ z;exact zG _<|yr _ z,I2.aK,I2.len};have s1:=yF s2.heap kS (Obj.mapSeq (·.push w));obtain⟨c2,YU⟩:∃c2,(s2.heap.update kS (Obj.mapSeq (·.push w))).get? kS=some (seqObj "list" (kA.push w) c2):={_,get?_update_seq pk.1 (·.push w)};refine zc<|listUpdate_at pk.1 rfl ?_ (by rw[yg];lia)<|zD (Nat.le_of_eq<|Array.size_push ..) (by rw[yg];lia);refine zm {rfl,ks++[k],kA.push w,c2,H2,I3.turned (t':=s2.toks) (it:=kS) (λb o hb q=>(s1.2 b hb).trans q) pk.2.1 Ak.loc (.inr Ak.new) Ak.cell Ak.pin,w2,?_,by simp[l'],pa.2.1,pk.2.1,(s1.2 a PL.symm).trans pa.1,YU};rw[show(kA.push w).toList=kA.toList++[w] by simp];exact v'.append<|.cons rk .nil;rintro s' ⟨ks,kA,e,H',I',w',v',l',Wn,YW,YX,Hr⟩;simp only[Nat.zero_add]at l' w';refine zc<|listItems_at Hr rfl ?_;have eA:kA=kA.toList.toArray:=by simp
 have good:=G ks kA.toList H' w' v' l';have hl:kA.toList.length=vs.length:=by have h1:ks.length=kA.toList.length:=v'.length;lia
 rw[eA]at Hr;show wpAny _ _ (ksk_end a b vs.toArray e1 (.ref kS) kA) _ _ _;rw[eA];refine PM (κ:=κ) hO Hr YX PL hl GR good.all good.kind λh' c g out k1 k2 k3 k4=>?_;exact h _ H' ks kA.toList c g out (I'.LC (t':=s'.toks) k1 Wn YW Aa Ak) Wn k2 w' v' l' k3 k4
theorem uO(hO:κ.OneLt)(I:Inv X pins σ H s)(hl:jf X.K H l xs)(GR:xs.length<64)(Wo:argsOk "sorted" {[.ref l],kw})(Wq:∀x,argsOk "list.sort" {[.ref x],kw})(ht:∀x,Builtin.«list.sort» {[.ref x],kw}=ksk_tree x (.ref f) b) (T:Ig X pins σ A.in1.in1 f xs W) (w0:W 0 [] H) (G:∀ks us H',W xs.length ks H'->Vals ks us->ks.length=xs.length->Nn κ us) (h:∀H' ks us g D,W xs.length ks H'->Vals ks us->ks.length=xs.length->Wl κ b (iT κ us) xs.length g->H' D=none->Q (.ref D) (upd H' D<|.lst<|(List.range xs.length).map λk=>xs.getD (g k) .au)): wpAny (model X.prog X.w) A (call (.builtin "sorted") [.ref l] kw) (EP X pins σ Q) E s:=by
 obtain⟨vs,hv,pl,_⟩:=I.list hl;have Rp:xs.length=vs.length:=hv.length;rw[Rp]at GR G h;refine call_function_entry_kw kind_sorted plain_sorted entry_sorted Wo ?_;unfold Builtin.«sorted»;refine zc (m:=checkCount "sorted" 1 1 _)<|zm ?_;refine zc<|collect_list pl.isList ?_ (by rw[yg];lia);refine zc<|wpAny_newList ?_ (by rw[yg];lia);have hsz:((s.heap.push<|seqObj "list" #[] 0).update s.heap.objs.size (Obj.mapSeq (·++vs.toArray))).objs.size=s.heap.objs.size+1:=by rw[Heap.size_update,size_push']
 have GH:(((s.heap.push<|seqObj "list" #[] 0).update s.heap.objs.size (Obj.mapSeq (·++vs.toArray))).push<|seqObj "list" vs.toArray 0).get? (s.heap.objs.size+1)=some (seqObj "list" vs.toArray 0):=by rw[<-hsz];exact zk _ rfl
 have keep:∀b o,s.heap.get? b=some o->(((s.heap.push<|seqObj "list" #[] 0).update s.heap.objs.size (Obj.mapSeq (·++vs.toArray))).push<|seqObj "list" vs.toArray 0).get? b=some o:=λb o q=>by have eO:b<s.heap.objs.size:=zw q;rw[Heap.get?_push_ne _ _ _<|by rw[hsz];exact zB<|Nat.lt_succ_of_lt eO,Heap.get?_update_ne _ _ _ _<|zB eO,Heap.get?_push_ne _ _ _<|zB eO];exact q
 show wpAny _ _ _ _ _ {s with heap:=((s.heap.push<|seqObj "list" #[] 0).update s.heap.objs.size (Obj.mapSeq (·++vs.toArray))).push<|seqObj "list" vs.toArray 0};rw[hsz];generalize hg:((s.heap.push<|seqObj "list" #[] 0).update s.heap.objs.size (Obj.mapSeq (·++vs.toArray))).push (seqObj "list" vs.toArray 0)=h1 at GH keep⊢;have I1:Inv X pins σ H {s with heap:=h1}:=I.kept (t':=s.toks) keep;have Aa:Nm X pins (s.heap.objs.size+1):=I.Wm<|yT _;have na:H (s.heap.objs.size+1)=none:=I.aK.fresh<|yT _;generalize s.heap.objs.size+1=a at GH Aa na⊢;refine zc<|yK<|wpAny_call_entry_kw slot_list_sort {_,GH,rfl} entry_list_sort ?_<|Wq _;show wpAny (model X.prog X.w) A.in1.in1 (Builtin.«list.sort» {[.ref a],kw}) _ _ _;rw[ht a];have s1:=yF h1 a<|Obj.mapSeq λ_=>(#[]:Array Value);obtain⟨e1,Rq⟩:∃e1,(h1.update a<|Obj.mapSeq λ_=>(#[]:Array Value)).get? a=some (seqObj "list" #[] e1):={_,get?_update_seq GH λ_=>#[]};have I2:Inv X pins σ H {s with heap:=h1.update a<|Obj.mapSeq λ_=>(#[]:Array Value)}:=Inv.turned (s:={s with heap:=h1}) (h':=h1.update a<|Obj.mapSeq λ_=>(#[]:Array Value)) (t':=s.toks) (it:=a) I1 (λb o hb q=>(s1.2 b hb).trans q) na Aa.loc (.inr Aa.new) Aa.cell Aa.pin;unfold ksk_tree;refine zc<|listItems_at GH rfl ?_;refine zc<|listUpdate_at GH rfl ?_ (by rw[zo,yg];lia)<|zT _;refine zc<|seqEpoch_at Rq rfl ?_;refine zc<|wpAny_newTuple ?_ (by show vs.length<=_;rw[yg];lia);refine zc<|wpAny_newList ?_<|zT _;refine yK ?_;generalize h1.update a (Obj.mapSeq λ_=>(#[]:Array Value))=h2 at Rq I2⊢;have k3:∀b u,h2.get? b=some u->((h2.push<|seqObj "tuple" vs.toArray 0).push<|seqObj "list" #[] 0).get? b=some u:=λb u q=>za _<|za _ q;have I3:Inv X pins σ H {s with heap:=(h2.push<|seqObj "tuple" vs.toArray 0).push<|seqObj "list" #[] 0}:=I2.kept (t':=s.toks) k3;have Ba:h2.objs.size<=(h2.push<|seqObj "tuple" vs.toArray 0).objs.size:=by rw[size_push'];exact yT _
 refine Fx (s:={s with heap:=(h2.push<|seqObj "tuple" vs.toArray 0).push<|seqObj "list" #[] 0}) (kS:=(h2.push<|seqObj "tuple" vs.toArray 0).objs.size) hO I3 (k3 _ _ Rq) (zk _ rfl) (yx<|zr (zw Rq) Ba) na (I2.aK.fresh Ba) Aa (I2.Wm Ba) hv GR T w0 G λs' H' ks us c g out J n1 o1 w1 v1 l1 q1 q2=>{.none,rfl,?_};refine zm !{.ref a,_,J.UD (o:=.lst<|(List.range vs.length).map λk=>xs.getD (g k) .au) n1 Aa {?_,out.toList,c,?_,?_},rfl,h H' ks us g a w1 v1 l1 q1 n1};rw[zb,List.length_range,yg];lia;rw[q2];have:∀(ns:List Nat),(∀k∈ns,g k<vs.length)->Vals (ns.map λk=>xs.getD (g k) .au) (ns.map λk=>vs.getD (g k) .none):=λns=>by induction ns with|nil=>exact λ_=>.nil|cons k ns ih=>intro hk;have YY:=hk k zp;obtain⟨y,hy⟩:∃y,xs[g k]?=some y:={_,zf<|by lia};obtain⟨u,hu,ru⟩:=hv.get hy;refine .cons ?_<|ih λk dw=>hk k<|zh _ dw;show RelV (xs.getD (g k) .au) (vs.getD (g k) .none);rw[zH,hy,zH,hu];exact ru
 exact this _ λk hk=>q1.lt k<|zV.mp hk;rw[o1]
end
def Bm(mg:Str->Option Value)(base:Heap):Prop:=∃bm o,mg "__builtins__"= some (.ref bm)/\bm≠builtinsNs/\base.get? bm=some o/\o.cls=.type "module"/\o.dict=some builtinsNs/\o.data=.plain
structure YZ(K:Frag)(mg:Str->Option Value)(base:Heap)(c P:Addr):Prop where
 hd:codeHdIn K c P=true
 bm:Bm mg base
theorem B9{pos p2:Pos}{c cv:Value}(l:List Value)(h:TriplesOk l)(e:codeAmong pos (l++[rawInt p2.line,rawInt p2.col,c])=some cv):codeAmong pos l=some cv\/cv=c:=by fun_induction TriplesOk l with|case1=>(simp only[List.nil_append,rawInt,codeAmong]at e;split at e;cases e;exact .inr rfl;cases e)|case2 a t b u x rest ih=>simp only[List.cons_append,codeAmong]at e⊢;split at e;rename_i hc;rw[if_pos hc];exact .inl e;rename_i hc;rw[if_neg hc];exact ih h e|case3 l h1 h2=>exact h.elim
section
variable{X:Cx}{pins:List (Addr×Obj)}{σ:St}{H:Hp}{s:Shared}
theorem Inv.tab{h':Heap}{tk:Nat}{P c:Addr}{ps Rr:Array Value}{oc fo:Obj}(I:Inv X pins σ H s)(hP:H P=some (.qo ps))(hx:Heap.ExtBut P s.heap h')(h1:s.heap.objs.size<=c)(h2:c<h'.objs.size)(hc:h'.get? c=some oc)(hp:h'.get? P=some (tabObj<|ps++Rr)): Inv X pins σ (upd (upd H P<|.qo<|ps++Rr) c<|.k_ oc<|.own 0) {s with heap:=h'.push fo,toks:=tk}:=by
 have hcP:c≠P:=λz=>absurd (zr (I.aK.lt hP)<|z ▸ h1)<|yE _;have nc:H c=none:=I.aK.fresh h1;have other:∀b,b≠P->b≠c->upd (upd H P<|.qo<|ps++Rr) c (.k_ oc<|.own 0) b=H b:=λb z1 z2=>by rw[ax z2,ax z1]
 have nP:∀b o,H b=some o->(∀q,o≠.qo q)->b≠P:=λb o e z q=>by rw[q,hP]at e;cases e;exact z _ rfl
 have Y0:∀b,H b=none->b≠P:=λb e q=>by rw[q,hP]at e;cases e
 have lt:∀b o,s.heap.get? b=some o->b≠c:=λb o e=>zB<|zr (zw e) h1;refine I.un (h':=h'.push fo) {λb o e n _ _=>za _<|hx b o (Y0 b n) e,λb o e n _ _=>{o.slots,za _<|hx b o (Y0 b n) e},λb o e n _=>by rw[other b (Y0 b n)<|lt b o e];exact n,λb o e _=>?_,λb xs e=>by rw[other b (nP b _ e λ_=>nofun)<|aC e nc];exact e,λb o u e=>by rw[other b (nP b _ e λ_=>nofun)<|aC e nc];exact e,λb q e=>?_} λb u e=>?_;by_cases hb:b=P;rw[hb];exact{_,za _ hp};exact{o,za _<|hx b o hb e};by_cases hb:b=P;subst hb;rw[hP]at e;cases e;exact{Rr,by rw[ax<|Ne.symm hcP,aD]};exact{#[],by rw[other b hb<|aC e nc,e];simp};by_cases Ru:b=c;subst Ru;rw[aD]at e;cases e;exact{za _ hc,_,za _ hc};rw[ax Ru]at e;by_cases hb:b=P;subst hb;rw[aD]at e;cases e;exact za _ hp;rw[ax hb]at e;refine(I.aK b u e).pO (λd v hd q=>?_) (λd q=>by rw[other d (nP d _ q λ_=>nofun)<|aC q nc];exact q) λd xs q=>by rw[other d (nP d _ q λ_=>nofun)<|aC q nc];exact q
 rcases hd with rfl|hd;exact za _<|hx d v hb q;exact za _<|hx d v (nP d _ hd λ_=>nofun) q
theorem Inv.DV(I:Inv X pins σ H s)(ho:s.heap.get? f=some o)(hn:H f=none)(A:Nm X pins f)(d:∀v,o.data≠.cell v):Inv X (pins++[(f,o)]) σ H s:=by refine{I.ok,I.os,I.bare,I.base,I.loc,I.cell,I.free,I.fR,λp hp=>?_,I.aK,I.len};rcases zP.mp hp with hp|hp;exact I.pin p<|yr _ hp;rcases zP.mp hp with hp|hp;exact I.pin p<|zG _ hp;rw[zK.mp hp];exact⟨ho,hn,A.loc,A.fs,d⟩
structure UE(X:Cx)(pins:List (Addr×Obj))(σ:St)(H H':Hp)(P:Addr)(q:Str)(params:Arguments)(body:Expr)(scope:Scope)(u:Value)(s':Shared)(f:Addr)(pm cv lV:Value):Prop where
 u:u=.ref f
 inv:Inv X (pins++[(f,y4 X q params body scope pm cv lV)]) σ H' s'
 code:∃c o vs t,cv=.ref c/\H' c=some (.k_ o<|.own 0)/\o.data=.fields vs/\vs[1]?=some (.str q t)
 same:∀b,H' b=H b\/(b=P/\∃ps,H' b=some (.qo ps)/\DF H' q ps)\/(H b=none/\∃o,H' b=some (.k_ o<|.own 0))
theorem y7{M:Model}{A:Around}{E:Value->Shared->Prop}{N:List Str}{src:List<|Option Nat}{scope:Scope}{params:Arguments}{body:Expr}{pos:Pos}{c P:Addr}{q:Str}{ps:Array Value}{Q:Value->Shared->Prop}(I:Inv X pins σ H s)(S:bK X N src scope)(oY:X.env.code=.ref c)(mk:YZ X.K X.mg X.base c P) (hP:H P=some (.qo ps)) (ok:DF H q ps) (hq:X.env.qual ++ "<lambda>"= q) (Ih:defaultsOf params X.env=([],[])) (h:∀u s' H' f pm cv lV,UE X pins σ H H' P q params body scope u s' f pm cv lV->Q u s'):wpAny M A (eval (.Lambda params body scope pos) X.env) Q E s:=by
 have xP:closureFor scope X.env=pure (clOf X.env.cells scope.names):=gv λy hy hf=>I.ok.has y.1<|S.A8 y hy hf;have Wr:s.heap.get? P=some (tabObj ps):=I.aK P _ hP;have hg:s.heap.Ns mainGlobals X.mg:=I.mod.glob.keeps I.bk;have hC:=codeHd_of_K I.oO mk.hd;obtain⟨bm,ob,b1,b2,b3,b4,b5,b6⟩:=mk.bm;have Ws:s.heap.get? bm=some ob:=I.bk _ _ b3;have hgP:mainGlobals≠P:=λz=>by obtain⟨o,es,ep,e,d,_⟩:=id hg;rw[z,Wr]at e;cases e;cases d
 have hbG:bm≠mainGlobals:=λz=>by obtain⟨o,es,ep,e,d,_⟩:=id hg;rw[<-z,Ws]at e;cases e;rw[b6]at d;cases d
 have hbP:bm≠P:=λz=>by rw[z,Wr]at Ws;cases Ws;cases b4
 have hB:s.heap.BuiltinsAt X.mg P:=⟨bm,ob,b1,b2,hbG,hbP,Ws,b4,b5,b6⟩;have hqs:H P≠none:=by rw[hP];nofun
 refine PySem.W.kla_eval Ih ?_;rw[hq];cases hf:codeAmong pos ps.toList with|none=>(refine PySem.W.kla_makeFunction xP I.ok.glob hg oY hC Wr ok.1 hf hgP hB λc' lV h' tk hx h1 h2 hr hp=>?_;obtain⟨c2,oc,vs,t,e2,VS,hd,hv⟩:=hr;cases e2;have J:=I.tab (tk:=tk) (fo:=y4 X q params body scope ((X.mg "__name__").getD .none) (.ref c') lV) hP hx h1 h2 VS hp;have hcP:c'≠P:=λz=>absurd (zr (I.aK.lt hP)<|z ▸ h1)<|yE _;have nc:H c'=none:=I.aK.fresh h1;have fresh:∀b,h'.objs.size<=b->upd (upd H P<|.qo<|ps++#[rawInt pos.line,rawInt pos.col,.ref c']) c' (.k_ oc<|.own 0) b=none:=λb hb=>(by have vj:s.heap.objs.size<=b:=zD (zD h1<|yH h2) hb;rw[ax<|yx<|zr h2 hb,ax<|yx<|zr (I.aK.lt hP) vj];exact I.aK.fresh vj);have hsz:s.heap.objs.size<=h'.objs.size:=zD h1<|yH h2;refine h _ _ _ h'.objs.size _ _ _ {rfl,J.DV (zk _ rfl) (fresh _<|zq _) (I.Wm hsz) (λv z=>nomatch z),⟨c',oc,vs,t,rfl,aD,hd,hv⟩,λb=>?_};by_cases Ru:b=c';subst Ru;exact .inr<|.inr ⟨nc,oc,aD⟩;by_cases hb:b=P;subst hb;refine .inr<|.inl {rfl,_,by rw[ax Ru,aD],?_,λp2 cv e=>?_};rw[Array.toList_append];exact TriplesOk_snoc _ _ _ _ ok.1;rw[Array.toList_append]at e;rcases B9 _ ok.1 e with e|e;obtain⟨d,o,ws,t2,z1,z2,z3⟩:=ok.2 p2 cv e;exact{d,o,ws,t2,z1,by rw[ax<|aC z2 nc,ax λz=>by rw[z,hP]at z2;cases z2];exact z2,z3};exact⟨c',oc,vs,t,e,aD,hd,hv⟩;exact .inl<|by rw[ax Ru,ax hb])|some cv=>refine PySem.W.kla_makeFunctionHit xP I.ok.glob hg oY hC Wr ok.1 hf hB λlV h' tk hk hsz=>?_;have J:Inv X pins σ H {s with heap:=h'.push<|y4 X q params body scope ((X.mg "__name__").getD .none) cv lV,toks:=tk}:=I.kept λb u e=>za _<|hk b u e;exact h _ _ _ h'.objs.size _ _ _ {rfl,J.DV (zk _ rfl) (I.aK.fresh hsz) (I.Wm hsz) (λv z=>nomatch z),ok.2 pos cv hf,λb=>.inl rfl}
end
def UG:D->D->Prop|.int a,.int b=>a<b|.str a,.str b=>a.cps.toList<b.cps.toList|_,_=>False
def y8(ks:List D):Prop:=(∃zs:List Str,ks=zs.map D.str)\/∃ns:List Int,ks=ns.map D.int
structure PN(b:Bool)(key:Nat->D)(n:Nat)(g:Nat->Nat):Prop where
 lt:∀k,k<n->g k<n
 inj:∀i j,i<n->j<n->g i=g j->i=j
 ord:∀i j,i<j->j<n->(if b=true then UG (key<|g j) (key<|g i) else UG (key<|g i) (key<|g j))\/(key (g i)=key (g j)/\g i<g j)
def y9(b:Bool)(P:Addr)(q:Str)(src:List<|Option Nat)(te:TD)(σ:SD)(R:KD)(d:D)(S1:aw):Prop:=∃(l:Addr)(xs:List D)(f:D->D),d=.ref l/\S1 l=some (.lst xs)/\xs.length<64/\S1 P=some (.tab q)/\y8 (xs.map f)/\(∀x,x∈xs->∀S',Sub S1 S'->∀Qk:KD,(∀S2,Sub S' S2->Qk (f x) S2)->te ((ma σ src).set 0<|some x) S' Qk Zf)/\∀g S2 p,PN b (λj=>f<|xs.getD j .au) xs.length g->Sub S1 S2->S2 p=none->R (.ref p) (S2.set p<|.lst<|(List.range xs.length).map λk=>xs.getD (g k) .au)
def Np(b:Bool)(P:Addr)(q:Str)(src:List<|Option Nat)(tl te:TD):TD:=λσ S R Z=>tl σ S (λd S1=>y9 b P q src te σ R d S1) Z
def Ii(F:D->aw->Prop):List D->aw->Prop|[d],S=>F d S|_,_=>False
theorem DX{F:D->aw->Prop}{ds:List D}{S:aw}(h:Ii F ds S):∃d,ds=[d]/\F d S:=by match ds,h with|[d],h=>exact⟨d,rfl,h⟩
theorem rE:∀{ss:List Int}{az:List Value},Vals (ss.map V.int) az->IntsAre az ss|[],_,.nil=>.nil|z::ss,_,.cons r t=>by obtain⟨tk,rfl⟩:=r;exact .cons z tk<|rE t
theorem rF:∀{us:List Value}{zs:List Str},StrsAre us zs->∀j,j<zs.length->iT strKind us j=(zs.getD j "").cps.toList|_,_,.cons z t h,0,_=>rfl|_,_,.cons z t h,j+1,hj=>by have:=rF h j (by simpa using hj);unfold iT at this⊢;rw[List.getD_cons_succ,List.getD_cons_succ];exact this
theorem rG:∀{us:List Value}{zs:List Int},IntsAre us zs->∀j,j<zs.length->iT intK us j=zs.getD j 0|_,_,.cons z t h,0,_=>rfl|_,_,.cons z t h,j+1,hj=>by have:=rG h j (by simpa using hj);unfold iT at this⊢;rw[List.getD_cons_succ,List.getD_cons_succ];exact this
theorem Ij(h:StrsAre us zs):∀u∈us,∃x,strKind.keyOf u=some x:=by induction h with|nil=>(intro u hu;cases hu)|cons z t h ih=>intro u hu;rcases zj.mp hu with rfl|hu;exact{_,rfl};exact ih u hu
theorem Ik(h:IntsAre us zs):∀u∈us,∃x,intK.keyOf u=some x:=by induction h with|nil=>(intro u hu;cases hu)|cons z t h ih=>intro u hu;rcases zj.mp hu with rfl|hu;exact{_,rfl};exact ih u hu
theorem Il{xs:List D}{f:D->D}{j:Nat}(hj:j<xs.length):(xs.map f)[j]?=some (f<|xs.getD j .au):=by rw[zg,zH,zf hj];rfl
theorem vS{K:Frag}{H:Hp}{ds:List D}{xs:List V}(h:RvAll K H ds xs)(g:Nat->Nat):∀(ns:List Nat),(∀k∈ns,g k<ds.length)->RvAll K H (ns.map λk=>ds.getD (g k) .au) (ns.map λk=>xs.getD (g k) .au)|[],_=>br|k::ns,hk=>by have YY:=hk k zp;obtain⟨v,e,r⟩:=h.get<|zf YY;refine aI ?_<|vS h g ns λk dw=>hk k<|zh _ dw;show Rv K H (ds.getD (g k) .au) (xs.getD (g k) .au);rw[zH,zf YY,zH,e];exact r
section
variable{K:Frag}{Y:Cx}{pins:List (Addr×Obj)}{τ:St}{H H2:Hp}{s:Shared}{N:List Str}{src:List (Option Nat)}{scope:Scope}{params:Arguments}{body:Expr}{q p:Str}{pm cv lV:Value}{f l:Addr}{te:TD}{b:Bool}{kw:List (Str×Value)}{k:Nat}
theorem y_{σ:SD}{S1:aw}{xs:List D}{fD:D->D}{Q:VK}{R:KD}{E:Value->Shared->Prop}(I:Inv Y (pins++[(f,y4 Y q params body scope pm cv lV)]) τ H s)(hK:Y.K=K)(UH:Y.calm=true)(hr:bW k Y.A)(oY:∃c o vs t,cv=.ref c/\H c=some (.k_ o<|.own 0)/\o.data=.fields vs/\vs[1]?=some (.str q t)) (CS:bK Y N src scope) (LA:N[0]?=some p) (hp:scope.names.lookup p=some .local) (h0:src[0]?=some none) (LB:scope.isCoroutine=false) (B8:scope.isGenerator=false) (hb:∀cl pm cv lV u,bindArgs (kla_fn "<lambda>" q params body scope cl pm cv lV) {[u],[]}=pure [(p,u)]) (he:∀cv s H,DE K (Ro Y N q scope f cv Y.A.in1.in1 s H) body te) (aA:ip K H σ τ) (hS:Rs K S1 H) (hl:S1 l=some (.lst xs)) (GR:xs.length<64) (kd:y8<|xs.map fD) (step:∀x,x∈xs->∀S',Sub S1 S'->∀Qk:KD,(∀S2,Sub S' S2->Qk (fD x) S2)->te ((ma σ src).set 0<|some x) S' Qk Zf) (hR:Cn K H R Q) (fin:∀g S2 p,PN b (λj=>fD<|xs.getD j .au) xs.length g->Sub S1 S2->S2 p=none->R (.ref p) (S2.set p<|.lst<|(List.range xs.length).map λk=>xs.getD (g k) .au)) (Wo:argsOk "sorted" {[.ref l],kw}) (Wq:∀x,argsOk "list.sort" {[.ref x],kw}) (ht:∀x,Builtin.«list.sort» {[.ref x],kw}=ksk_tree x (.ref f) b): wpAny (model Y.prog Y.w) Y.A (call (.builtin "sorted") [.ref l] kw) (EP Y pins τ Q) E s:=by
 subst hK;obtain⟨vs,hv,rv⟩:=hS.lst hl;have Rp:vs.length=xs.length:=rv.len;obtain⟨c,oc,ws,tk,ecv,hc,s_,hcq⟩:=oY;have drop:∀{u:Value}{s':Shared},EP Y (pins++[(f,y4 Y q params body scope pm cv lV)]) τ Q u s'->EP Y pins τ Q u s':=λ⟨v,H',J,r,q⟩=>{v,H',{J.ok,J.os,J.bare,J.base,J.loc,J.cell,J.free,J.fR,λp hp=>J.pin p<|by rcases zP.mp hp with z|z;exact yr _ z;exact zG _<|yr _ z,J.aK,J.len},r,q};have T:Ig Y (pins++[(f,y4 Y q params body scope pm cv lV)]) τ Y.A.in1.in1 f vs λi ks H'=>∃S',Sub S1 S'/\Rs Y.K S' H'/\Kp Y.K H H'/\RvAll Y.K H' ((xs.take i).map fD) ks:=by rintro i x u ks s' H' more I' ⟨S',sb,rs,kp,rk⟩ hx ru;have hi:i<xs.length:=(by have:=(zd.mp hx).1;lia);obtain⟨v,e1,r1⟩:=rv.get<|zf hi;rw[hx]at e1;cases e1;have po:=(I'.pin (f,y4 Y q params body scope pm cv lV)<|zG _<|yr _<|zG _<|by simp).1;have hcr:s'.heap.CodeRec cv q:={c,oc,ws,tk,ecv,(I'.aK c _<|kp.f _ _ _ hc).1,s_,hcq};refine H9 (A:=Y.A.in1.in1) I' CS LA hp h0 I'.ok.frames (I'.ok.hd UH) (by have:=hr.dp;show Y.A.depth<_;lia) ru po hcr LB B8 (hb _ _ _ _ _) ((he cv s' H').of<|.none _ rfl) ?_;refine{_,S',λkk S2=>kk=fD xs[i]/\Sub S' S2,Zf,((aA.ts kp).pick src).set 0<|Rv.ts kp _ r1,rs,step _ (List.getElem_mem hi) S' sb _ λS2 h2=>⟨rfl,h2⟩,λkk S2 v2 H2 ⟨e2,JS⟩ Rw Y1 Wt=>?_,.f};subst e2;refine{S2,sb.trans JS,Y1,kp.trans Wt,?_};rw[show xs.take (i+1)=xs.take i++[xs[i]] by rw[List.take_add_one,zf hi];rfl,zJ];exact(RvAll.ts Wt _ rk).app<|aI Rw br
 have w0:∃S',Sub S1 S'/\Rs Y.K S' H/\Kp Y.K H H/\RvAll Y.K H ((xs.take 0).map fD) []:={S1,.refl _,hS,.refl _,by rw[List.take_zero];exact br};have MN:jf Y.K H l vs:=.of hv;rcases kd with⟨zs,ez⟩|⟨zs,ez⟩;have Y2:zs.length=xs.length:=by have:=congrArg List.length ez;rw[zb,zb]at this;exact this.symm
 have ka:∀j,j<xs.length->fD (xs.getD j .au)=.str (zs.getD j ""):=λj hj=>by have e1:=Il (f:=fD) hj;rw[ez,zg,zf<|by lia]at e1;rw[zH (l:=zs),zf<|by lia];exact(zU e1).symm
 have kv:∀ks us H',(∃S',Sub S1 S'/\Rs Y.K S' H'/\Kp Y.K H H'/\RvAll Y.K H' ((xs.take vs.length).map fD) ks)->Vals ks us->StrsAre us zs:=λks us H' ⟨S',_,_,_,rk⟩ hu=>by rw[Rp,yz,ez]at rk;rw[rk.strs]at hu;exact rD hu
 refine yL (uO (κ:=strKind) (Q:=Q) (b:=b) strKind_oneLt I MN (by lia) Wo Wq ht T w0 (λks us H' w1 v1 l1=>{Ij<|kv ks us H' w1 v1,λnS nU rest e=>keyKind_strs<|by rw[<-e];exact kv ks us H' w1 v1}) λH' ks us g D w1 v1 l1 sr hD=>?_) (λu s' z=>drop z) λ_ _ z=>z;have sk:=kv ks us H' w1 v1;obtain⟨S',sb,rs,kp,rk⟩:=w1;rw[Rp]at sr⊢;refine(hR.kp kp).new rs hD (λhp=>fin g S' D {sr.lt,sr.inj,λi j jg hj=>?_} sb hp)<|vS (RvAll.ts kp _ rv) g _ λk hk=>sr.lt k<|zV.mp hk;have h1:=sr.lt i (by lia);have h2:=sr.lt j hj;have:=sr.ord i j jg hj;rw[rF sk _<|by lia,rF sk _<|by lia]at this;rw[ka _ h1,ka _ h2];rcases this with z|⟨z1,z2⟩;left;cases b with|false=>rw[if_neg ze]at z⊢;show(zs.getD (g i) "").cps.toList<(zs.getD (g j) "").cps.toList;exact zC z|true=>rw[if_pos rfl]at z⊢;show(zs.getD (g j) "").cps.toList<(zs.getD (g i) "").cps.toList;exact zC z
 exact .inr {by rw[YQ z1],z2};have Y2:zs.length=xs.length:=by have:=congrArg List.length ez;rw[zb,zb]at this;exact this.symm
 have ka:∀j,j<xs.length->fD (xs.getD j .au)=.int (zs.getD j 0):=λj hj=>by have e1:=Il (f:=fD) hj;rw[ez,zg,zf<|by lia]at e1;rw[zH (l:=zs),zf<|by lia];exact(zU e1).symm
 have kv:∀ks us H',(∃S',Sub S1 S'/\Rs Y.K S' H'/\Kp Y.K H H'/\RvAll Y.K H' ((xs.take vs.length).map fD) ks)->Vals ks us->IntsAre us zs:=λks us H' ⟨S',_,_,_,rk⟩ hu=>by rw[Rp,yz,ez]at rk;rw[rk.ints]at hu;exact rE hu
 refine yL (uO (κ:=intK) (Q:=Q) (b:=b) H_ I MN (by lia) Wo Wq ht T w0 (λks us H' w1 v1 l1=>{Ik<|kv ks us H' w1 v1,λnS nU rest e=>keyKind_ints<|by rw[<-e];exact kv ks us H' w1 v1}) λH' ks us g D w1 v1 l1 sr hD=>?_) (λu s' z=>drop z) λ_ _ z=>z;have sk:=kv ks us H' w1 v1;obtain⟨S',sb,rs,kp,rk⟩:=w1;rw[Rp]at sr⊢;refine(hR.kp kp).new rs hD (λhp=>fin g S' D {sr.lt,sr.inj,λi j jg hj=>?_} sb hp)<|vS (RvAll.ts kp _ rv) g _ λk hk=>sr.lt k<|zV.mp hk;have h1:=sr.lt i (by lia);have h2:=sr.lt j hj;have:=sr.ord i j jg hj;rw[rG sk _<|by lia,rG sk _<|by lia]at this;rw[ka _ h1,ka _ h2];rcases this with z|⟨z1,z2⟩;left;cases b with|false=>rw[if_neg ze]at z⊢;show zs.getD (g i) 0<zs.getD (g j) 0;exact zC z|true=>rw[if_pos rfl]at z⊢;show zs.getD (g j) 0<zs.getD (g i) 0;exact zC z
 exact .inr {by rw[z1],z2}
end
section
variable{K:Frag}{X:Cx}{N:List Str}{src:List (Option Nat)}{scope:Scope}{params:Arguments}{e body:Expr}{q p x:Str}{np pos lp kq kq2 cp:Pos}{ci}{tl te:TD}{k:Nat}{c P:Addr}
theorem UE.kp{pins:List<|Addr×Obj}{τ:St}{H H':Hp}{u:Value}{s':Shared}{f:Addr}{pm cv lV:Value}{Y:Cx}(L:UE Y pins τ H H' P q params body scope u s' f pm cv lV){ps:Array Value}(hP:H P=some (.qo ps)):Kp K H H':=.of λb o e=>by rcases L.same b with z|⟨z,_⟩|⟨z,_⟩;exact .inl (by rw[z];exact e);rw[z,hP]at e;cases e;exact .inr {λ_=>nofun,λ_ _=>nofun};rw[z]at e;cases e
theorem UE.rs{pins:List<|Addr×Obj}{τ:St}{H H':Hp}{u:Value}{s':Shared}{f:Addr}{pm cv lV:Value}{Y:Cx}{S:aw}(L:UE Y pins τ H H' P q params body scope u s' f pm cv lV)(hS:Rs K S H)(ht:S P=some (.tab q)):Rs K S H':=λb x hb=>by obtain⟨ps,hP,_⟩:=hS P _ ht;have kp:Kp K H H':=L.kp hP;rcases L.same b with z|⟨rfl,Rr,z1,z2⟩|⟨z,_⟩;exact(hS b x hb).keep (λo e=>by rw[z];exact e) kp;rw[ht]at hb;cases hb;exact⟨Rr,z1,z2⟩;obtain⟨o,e,_⟩:=(hS b x hb).has;rw[z]at e;cases e
theorem UI(oY:X.env.code=.ref c)(mk:YZ K X.mg X.base c P)(hr:bW k X.A)(CS:bK X N src scope)(hl:DE K X e tl)(he:∀f cv s H,DE K (Ro X N q scope f cv X.A.in1.in1 s H) body te)(hm:X.mg x=none)(hv:bootBuiltins x=some (.builtin "sorted")) (hq:autoParam (X.env.qual ++ "<lambda>"= q) qQJ) (LA:autoParam (N[0]?=some p) qQJ) (hp:autoParam (scope.names.lookup p=some .local) qQJ) (h0:autoParam (src[0]?=some none) qQJ) (LB:autoParam (scope.isCoroutine=false) qQJ) (B8:autoParam (scope.isGenerator=false) qQJ) (hb:autoParam (∀cl pm cv lV u,bindArgs (kla_fn "<lambda>" q params body scope cl pm cv lV) {[u],[]}=pure [(p,u)]) qJ1) (Ih:autoParam (defaultsOf params X.env=([],[])) qQJ) (hg:autoParam (Gl X x) qQJ) (hn:autoParam (x≠"__name__") qQZ) (pS:autoParam ((x==("__debug__": Str))=false) qQZ) (Y3:autoParam (backTo pos (starEach [e] X.env)=(false,eval e X.env)::backTo pos (starEach [] X.env)) qQJ) (cU:autoParam ((backTo pos<|starEach [e] X.env).any (·.1)=false) qQJ) (Y4:autoParam (isPlain e=true) qQJ) (hK:autoParam (X.K=K) qQJ) (hC:autoParam (X.calm=true) qQJ): DE K X (.Call (.Name x np) [e] [{some "key",.Lambda params body scope lp,kq}] pos) (Np false P q src tl te):=by subst hK;refine⟨λy=>?_⟩;rintro pins s τ H Q I ⟨σ,S,R,Z,aA,hS,t,hR,hZ⟩;refine wpAny_Call_Name_kw<|gu I hg hm hv ?_ hn pS;refine callWith_kw (bz (((ac hl an Y4).of y) pos pins s τ H (λvs H1=>∃ds S1,Ii (y9 false P q src te σ R) ds S1/\RvAll X.K H1 ds vs/\Rs X.K S1 H1/\Kp X.K H H1) I {σ,S,Ii<|y9 false P q src te σ R,Z,aA,hS,t,λds S1 vs H1 r rv rs k1=>⟨ds,S1,r,rv,rs,k1⟩,hZ}) λus s1 ⟨vs,H1,I1,r1,ds,S1,r,rv,rs,k1⟩=>?_) Y3 cU;obtain⟨d,rfl,l,xs,fD,rfl,el,GR,et,kd,step,fin⟩:=DX r;obtain⟨v,XW,rfl,UJ,Rw⟩:=rv.cons;cases Rw.nil;cases UJ.ref;obtain⟨u,rfl,ru⟩:=vals1 r1;cases ru;obtain⟨ps,hP,aK⟩:=rs P _ et;refine kws_cons<|y7 I1 ⟨CS.kind,CS.gw,CS.loc,CS.A8,CS.len,CS.src⟩ oY mk hP aK hq Ih λw s2 H2 f pm cv lV L=>?_;refine kws_nil ?_;cases L.u;have k2:Kp X.K H1 H2:=L.kp hP;exact y_ L.inv rfl hC hr L.code ⟨CS.kind,CS.gw,CS.loc,CS.A8,CS.len,CS.src⟩ LA hp h0 LB B8 hb (he f) ((aA.ts k1).ts k2) (L.rs rs et) el GR kd step (hR.kp<|k1.trans k2) fin (ksk_s1 _ _) (λx=>ksk_l1 _ _) λx=>ksk_t1 _ _
theorem Nq(oY:X.env.code=.ref c)(mk:YZ K X.mg X.base c P)(hr:bW k X.A)(CS:bK X N src scope)(hl:DE K X e tl)(he:∀f cv s H,DE K (Ro X N q scope f cv X.A.in1.in1 s H) body te)(hm:X.mg x=none)(hv:bootBuiltins x=some (.builtin "sorted")) (hq:autoParam (X.env.qual ++ "<lambda>"= q) qQJ) (LA:autoParam (N[0]?=some p) qQJ) (hp:autoParam (scope.names.lookup p=some .local) qQJ) (h0:autoParam (src[0]?=some none) qQJ) (LB:autoParam (scope.isCoroutine=false) qQJ) (B8:autoParam (scope.isGenerator=false) qQJ) (hb:autoParam (∀cl pm cv lV u,bindArgs (kla_fn "<lambda>" q params body scope cl pm cv lV) {[u],[]}=pure [(p,u)]) qJ1) (Ih:autoParam (defaultsOf params X.env=([],[])) qQJ) (hg:autoParam (Gl X x) qQJ) (hn:autoParam (x≠"__name__") qQZ) (pS:autoParam ((x==("__debug__": Str))=false) qQZ) (Y3:autoParam (backTo pos (starEach [e] X.env)=(false,eval e X.env)::backTo pos (starEach [] X.env)) qQJ) (cU:autoParam ((backTo pos<|starEach [e] X.env).any (·.1)=false) qQJ) (Y4:autoParam (isPlain e=true) qQJ) (hK:autoParam (X.K=K) qQJ) (hC:autoParam (X.calm=true) qQJ): DE K X (.Call (.Name x np) [e] [{some "key",.Lambda params body scope lp,kq},{some "reverse",.Constant (.bool true) ci cp,kq2}] pos) (Np true P q src tl te):=by subst hK;refine⟨λy=>?_⟩;rintro pins s τ H Q I ⟨σ,S,R,Z,aA,hS,t,hR,hZ⟩;refine wpAny_Call_Name_kw<|gu I hg hm hv ?_ hn pS;refine callWith_kw (bz (((ac hl an Y4).of y) pos pins s τ H (λvs H1=>∃ds S1,Ii (y9 true P q src te σ R) ds S1/\RvAll X.K H1 ds vs/\Rs X.K S1 H1/\Kp X.K H H1) I {σ,S,Ii<|y9 true P q src te σ R,Z,aA,hS,t,λds S1 vs H1 r rv rs k1=>⟨ds,S1,r,rv,rs,k1⟩,hZ}) λus s1 ⟨vs,H1,I1,r1,ds,S1,r,rv,rs,k1⟩=>?_) Y3 cU;obtain⟨d,rfl,l,xs,fD,rfl,el,GR,et,kd,step,fin⟩:=DX r;obtain⟨v,XW,rfl,UJ,Rw⟩:=rv.cons;cases Rw.nil;cases UJ.ref;obtain⟨u,rfl,ru⟩:=vals1 r1;cases ru;obtain⟨ps,hP,aK⟩:=rs P _ et;refine kws_cons<|y7 I1 ⟨CS.kind,CS.gw,CS.loc,CS.A8,CS.len,CS.src⟩ oY mk hP aK hq Ih λw s2 H2 f pm cv lV L=>?_;refine kws_cons<|bz (MG (X:=y.cx) _ s2 τ H2 (λv H'=>v=.bl true/\H'=H2) L.inv ⟨rfl,rfl⟩) λw2 s3 ⟨v2,H3,I3,r3,e3,e4⟩=>?_;subst e3 e4;obtain rfl:w2=Value.bool true:=r3;refine kws_nil ?_;cases L.u;have k2:Kp X.K H1 H3:=L.kp hP;exact y_ I3 rfl hC hr L.code ⟨CS.kind,CS.gw,CS.loc,CS.A8,CS.len,CS.src⟩ LA hp h0 LB B8 hb (he f) ((aA.ts k1).ts k2) (L.rs rs et) el GR kd step (hR.kp<|k1.trans k2) fin (ksk_s2 _ _ _) (λx=>ksk_l2 _ _ _) λx=>ksk_t2 _ _ _
end
section
variable{P:Program}{w:World}{K:Frag}{mg:Str->Option Value}{base:Heap}
theorem vO.okC{x qual:Str}{st:Stmt}{f:Addr}{fd:FuncData}{N ps:List Str}{k:Nat}{sp:kC}(F:vO K x qual st f fd)(S:fS N ps<|ae st)(len:∀ds S R Z,sp ds S R Z->ds.length=ps.length) (lY:∀(fT:Value)(A:Around)(outer:List Env)(s:Shared)(H:Hp)(E:XK)(ds:List D)(S:aw)(R:KD)(Z:KX),fT=fd.code->bW k (A.deeper<|envOfC qual (ae st) s.heap.objs.size f fT)->sp ds S R Z->∃t,GO K (kx (fN P w mg) P w K mg base N qual (ae st) f fT A outer s H E) true (aZ st) t/\t {nx:=λ_ S'=>Fo S'<|R .au,rt:=λd S'=>Fo S'<|R d} (jr N ds) S λ_ C S'=>Fo S'<|Z C):bI P w K mg base (fN P w mg) (k+1) f fd ps (qz K sp):=by
 obtain⟨oc,od,dV,kV,doc,pm,an,fT,ct,OF,rfl,lk,s_⟩:=F.ex;have cU:ps.length<=N.length:=by have:=congrArg List.length S.pre;rw[yp]at this;lia
 refine MQ lk s_ S (by rintro vs H Q E ⟨ds,S',R,Z,v,_,h,_⟩;exact by rw[v.len];exact len _ _ _ _ h) λA outer s H vs Q E hr ⟨ds,S',R,Z,v,hS,h,hR,hZ⟩=>?_;obtain⟨t,ht,q⟩:=lY fT A outer s H E ds S' R Z rfl hr h;have L:cW (kx (fN P w mg) P w K mg base N qual (ae st) f fT A outer s H E) E:=uH;let y:Ev (kx (fN P w mg) P w K mg base N qual (ae st) f fT A outer s H E) true:={_,(kx (fN P w mg) P w K mg base N qual (ae st) f fT A outer s H E).xe,λ_=>E,{λp2 τ H1 s1 e s' I h=>MW L p2 τ H1 s1 e s' I h,λ_ p2 τ H1 s1 h' a cls args I hx he=>oW L I hx he,λ_=>PassesOwn.leaving}};refine{L2.Tl K (λ_=>E) t,ht.of y,jr N ds,S',_,λ_ C S'=>Fo S'<|Z C,?_,hS,q,{by rintro σ S1 τ H1 ⟨S2,sb,r⟩ a b c;exact(hR.kp c).now (b.sub sb) r dE,by rintro d S1 v H1 ⟨S2,sb,r⟩ a b c;exact hR _ _ _ _ r a (b.sub sb) c,λ_ _ _ _ z=>z.elim,λ_ _ _ _ z=>z.elim},by rintro σ τ C S1 H1 ⟨S2,sb,r⟩ a b c;exact hZ C S2 H1 r (b.sub sb) c};unfold jr start;refine(rm v).app ?_;rw[v.len];exact rl _ _<|by rw[List.length_replicate]
end
structure z_(ts:List Addr)(H:Hp):Prop where
 all:∀b,H b=none\/(∃o xs,H b=some (.k_ o<|.lst xs))\/(b∈ts/\H b=some (.qo #[]))
 tab:∀b∈ts,H b=some (.qo #[])
theorem Fy{P:Program}{w:World}{K:Frag}{mg mb:Str->Option Value}{CX:Bv}{k:Nat}{fa a:Addr}{fd:FuncData}{x:Str}{sp:Sp}{bf:Shared}{vs:List Value}{ns:List Int}{ts:List Addr} (KX:K.In bf.heap) (PK:bf.heap.Ns mainGlobals mg) (hb:bf.heap.Ns builtinsNs mb) (hbb:∀x:Str,x≠"__name__"->mb x=bootBuiltins x) (Y5:bf.heap.NoLimit) (hbm:Bm mg bf.heap) (hg:bf.gens=#[]) (hT:∀b∈ts,bf.heap.get? b=some (tabObj #[])) (hC:∀b∈ts,isCodeTable bf.heap b) (hN:∀b∈ts,K.lookup b=none) (ha:bf.heap.get? a=some {cls:=.type "list",data:=.seq vs.toArray}) (hi:IntsAre vs ns) (hl:ns.length<=sizeLine) (hr:bW k callerA) (F:∀base:Heap,Bm mg base->K.In base->base.Ns mainGlobals mg->bI P w K mg base CX k fa fd [x] sp) (UK:∀(s:Shared) (u:Value),BindsTo s fd {[u],[]} [(x,u)]) (Q4:∀H:Hp,z_ ts H->jf K H a (ns.map V.int)->sp [.ref a] H (λv _=>v=.bl true) λ_ _ _=>False) (Y6:∀H e s',CX [] H bf (λ_ _ _=>False) e s'->False): codeAny (model P w) callerA (.call (.ref fa) {[.ref a],[]}) (λr s'=>r=.ok (.ret<|.bool true)/\OldK bf.heap s'.heap/\s'.os=bf.os/\AllBare s'.gens) bf:=by
 have rv:=uE hi;have Y7:=hi.length;have Wf:a∉ts:=λz=>by rw[hT a z]at ha;cases ha
 have core:∀H:Hp,z_ ts H->jf K H a (ns.map V.int)->lg P w H bf.heap->(∀b,H b≠none->b=a\/b∈ts)->(H a≠none->K.lookup a=none)->codeAny (model P w) callerA (.call (.ref fa) {[.ref a],[]}) (λr s'=>r=.ok (.ret<|.bool true)/\OldK bf.heap s'.heap/\s'.os=bf.os/\AllBare s'.gens) bf:=by intro H hO hS aK hA hK;have vT:∀{b:Addr}{o:Obj},bf.heap.get? b=some o->H b=none->(tG bf.heap H).get? b=some o:=λe n=>GW e n;have Kr:∀{b:Addr}{o:Obj}{es:Array DictEntry}{ep:Nat},bf.heap.get? b=some o->o.data=.dict es ep->H b=none:=λ{b o es ep} e d=>(by cases q:H b with|none=>rfl|some u=>rcases hA b (by rw[q];simp) with e'|e';subst e';rw[ha]at e;cases e;have d':Data.seq vs.toArray _=Data.dict es ep:=d;cases d';rw[hT b e']at e;cases e;cases d);have Wu:∀{b:Addr}{m:Str->Option Value},bf.heap.Ns b m->(tG bf.heap H).Ns b m:=λ{b m} ⟨o,es,ep,e,d,r⟩=>{o,es,ep,vT e<|Kr e d,d,r};have hKb:K.In (tG bf.heap H):=λb o e=>vT (KX b o e) (by cases q:H b with|none=>rfl|some u=>rcases hA b (by rw[q];simp) with e'|e';subst e';rw[hK<|by rw[q];simp]at e;cases e;rw[hN b e']at e;cases e);have hM:Mod K mg (tG bf.heap H):={hKb,Wu PK,{mb,Wu hb,hbb},by obtain⟨mc,h1,h2⟩:=Y5;exact{mc,Wu h1,h2}};have e0:xC P w K mg (tG bf.heap H) callerA [] bf H:={rfl,hM,λb o e=>J3 e,Nat.le_of_eq<|EH _ _,trivial,λb hb=>absurd (show b∈([]:List Addr) from hb)<|by simp,aK,.of_eq hg};have hBm:Bm mg (tG bf.heap H):=(by obtain⟨bm,ob,b1,b2,b3,b4,b5,b6⟩:=hbm;refine{bm,ob,b1,b2,vT b3 ?_,b4,b5,b6};cases q:H bm with|none=>rfl|some u=>rcases hA bm (by rw[q];simp) with e'|e';rw[e',ha]at b3;cases b3;cases b6;rw[hT bm e']at b3;cases b3;cases b4);refine yV ((F _ hBm hKb<|Wu PK).run callerA [] bf H {[.ref a],[]} [.ref a] [.ref a] _ _ hr e0 (UK bf<|.ref a) (.cons rfl .nil)<|Q4 H hO hS) λr s' h=>?_;cases r with|error e=>exact(Y6 H e s' h).elim|ok fl=>cases fl with|next=>exact False.elim h|brk=>exact False.elim h|cont=>exact False.elim h|ret u=>obtain⟨v,H',os,bare,un,UL,r',q⟩:=h;have q':v=.bl true:=q;subst q';obtain rfl:u=Value.bool true:=r';refine{rfl,{λb o e=>?_,λb o e=>un.there b o e<|by simp},os,bare};rcases hO.all b with z|⟨ob,xs,z⟩|⟨z1,z⟩;exact .inl<|un.keep b o e z (by intro z;exact absurd (show b∈([]:List Addr) from z)<|by simp) (by simp);have z2:=un.lh b ob _ z;obtain⟨e1,_⟩:=aK b _ z;obtain⟨e2,_⟩:=UL b _ z2;rw[e]at e1;cases e1;exact .inl e2;obtain⟨more,z2⟩:=un.lj b _ z;have e2:=hT b z1;rw[e]at e2;cases e2;exact .inr<|.inl {hC b z1,rfl,#[],more,rfl,by have:=UL b _ z2;exact this}
 have tabs:∀(H:Hp),(∀b,b∈ts->H b=some (.qo #[]))->∀b u,b∈ts->H b=some u->bt P w H bf.heap b u:=λH h b u hb e=>by rw[h b hb]at e;cases e;exact hT b hb
 cases hk:K.lookup a with|some o=>(have e:=KX a o hk;rw[ha]at e;cases e;refine core (λb=>if b∈ts then some (.qo #[]) else none) {λb=>?_,λb hb=>if_pos hb} (.inr {_,vs.toArray,_,hk,rfl,rfl,rfl,by rw[zo,Y7];exact hl,by simpa using rv}) (λb u z=>?_) (λb z=>?_) λz=>absurd (if_neg Wf) z;by_cases hb:b∈ts;exact .inr<|.inr {hb,if_pos hb};exact .inl<|if_neg hb;by_cases hb:b∈ts;exact tabs _ (λb hb=>if_pos hb) b u hb z;have z':=(if_neg hb).symm.trans z;cases z';by_cases hb:b∈ts;exact .inr hb;exact absurd (if_neg hb) z)|none=>refine core (λb=>if b=a then some (.k_ {cls:=.type "list",data:=.seq vs.toArray}<|.lst<|ns.map V.int) else if b∈ts then some (.qo #[]) else none) {λb=>?_,λb hb=>?_} (.inl<|.inr {{cls:=.type "list",data:=.seq vs.toArray},if_pos rfl}) (λb u z=>?_) (λb z=>?_) λ_=>hk;by_cases hb:b=a;exact .inr<|.inl {_,_,if_pos hb};by_cases JW:b∈ts;exact .inr<|.inr {JW,(if_neg hb).trans<|if_pos JW};exact .inl<|(if_neg hb).trans<|if_neg JW;have:b≠a:=λz=>Wf<|z ▸ hb;exact(if_neg this).trans<|if_pos hb;by_cases hb:b=a;have z':=(if_pos hb).symm.trans z;cases z';subst hb;exact{ha,by rw[zb];exact hl,vs,_,rv,ha};have z':=(if_neg hb).symm.trans z;by_cases JW:b∈ts;have z2:=(if_pos JW).symm.trans z';cases z2;exact hT b JW;have z2:=(if_neg JW).symm.trans z';cases z2;by_cases hb:b=a;exact .inl hb;by_cases JW:b∈ts;exact .inr JW;exact absurd ((if_neg hb).trans<|if_neg JW) z
theorem DY:∀{K:Frag},b∉K.map (·.1)->K.lookup b=none|[],_=>rfl| (a,o)::K,h=>by rw[zA,zj,not_or]at h;rw[yf,show(b==a)=false from beq_false_of_ne h.1];exact DY h.2
theorem LD{K:Params->Frag}{as:List Addr}{e:∀P,as=(K P).map (·.1)}{ts:List Addr}{w:World}{h:Heap}(_:(PySem.W.kmHook K as e ts).says w h)(d:∀b∈ts,b∉as):∀b∈ts,(K w.params).lookup b=none:=λb hb=>DY<|by rw[<-e];exact d b hb
theorem Im{l:PySem.W.OpenLaw}{n k:Nat}{q:Program}{loose:List Str}{XP:(Str->Option Value)->Heap->Prop}{YP:World->Heap->Prop}{d:DefRec}{K:Params->Frag}{CX:Bv}{x:Str}{ts:List Addr} (hn:l.most=some n) (MO:n<=sizeLine) (XD:d.params.defaults=[]) (hr:bW k callerA) (hY:∀(w:World)(h:Heap),YP w h->(K w.params).In h) (hT:∀(w:World)(h:Heap),YP w h->∀b∈ts,h.get? b=some (tabObj #[])) (hN:∀(w:World)(h:Heap),YP w h->∀b∈ts,(K w.params).lookup b=none) (F:∀(w:World)(mg:Str->Option Value)(fa:Addr)(h:Heap),(K w.params).In h->h.Ns mainGlobals mg->mg d.name=some (.ref fa)->∃(fd:FuncData)(sp:Sp),(∀b∈ts,∃c,codeHdIn (K w.params) c b=true)/\(∀(s:Shared)(u:Value),BindsTo s fd {[u],[]} [(x,u)])/\(∀base:Heap,Bm mg base->(K w.params).In base->base.Ns mainGlobals mg->bI l.prog w (K w.params) mg base CX k fa fd [x] sp)/\∀(H:Hp)(a:Addr)(ns:List Int),ns.length<=n->z_ ts H->jf (K w.params) H a (ns.map V.int)->sp [.ref a] H (λv _=>v=.bl true) λ_ _ _=>False) (Y6:∀(H:Hp)(s:Shared)(e:Value)(s':Shared),CX [] H s (λ_ _ _=>False) e s'->False): PySem.W.WalkO q loose XP YP l.row.toRowW d [] (λf vs=>PySem.call f vs):=by refine Att.xK hn XD λw dm bf mg mb fa o pm cd doc a vs ns G Y ho hd s_ OZ O0 hints hlen hg=>?_;have KX:=hY w _ Y;obtain⟨fd,sp,hC,hb,hF,Q4⟩:=F w mg fa _ KX G.T.g OZ;have hT':=hT w _ Y;exact Fy KX G.T.g G.T.b G.T.builtins G.T.nolimit G.T.bmain hg hT' (λb z=>by obtain⟨c,hc⟩:=hC b z;exact((codeHd_of_K KX hc).tab<|hT' b z).isCodeTable) (hN w _ Y) O0 hints (zD hlen MO) hr hF hb (λH hO hS=>Q4 H a ns hlen hO hS) λH e s'=>Y6 H bf e s'
namespace Rt
theorem own:Manifest.owners.lookup (String.ofList ['d','e','s','r','e','v','e','r'].reverse)=some Manifest.sig_reversed:=by kernel_rfl
theorem mh:Slot "reversed" "__next__" "reversed.__next__":=.of (owner:="reversed") (n:="__next__") (by rw[typeLookup_type,builtinLookup_eq_fast];kernel_rfl) (by trivial) (by trivial) (by trivial) (by first|exact .inl (by trivial)|exact .inr (by trivial))<|by rw[isSubtype_type];kernel_rfl
theorem DZ:entryFor table "reversed.__next__"= some Builtin.«reversed.__next__»:=entryFor_of_tree<|by kernel_rfl
theorem D0(a:Value):argsOk "reversed.__next__" {[a],[]}:=by unfold argsOk;rw[signature?_of (id:="reversed.__next__") (n:=['_','_','t','x','e','n','_','_']) (o:=['d','e','s','r','e','v','e','r']) (by kernel_rfl) own];kernel_rfl
theorem D1:Slot "reversed" "__iter__" "reversed.__iter__":=.of (owner:="reversed") (n:="__iter__") (by rw[typeLookup_type,builtinLookup_eq_fast];kernel_rfl) (by trivial) (by trivial) (by trivial) (by first|exact .inl (by trivial)|exact .inr (by trivial))<|by rw[isSubtype_type];kernel_rfl
theorem LF(a:Value):argsOk "reversed.__iter__" {[a],[]}:=by unfold argsOk;rw[signature?_of (id:="reversed.__iter__") (n:=['_','_','r','e','t','i','_','_']) (o:=['d','e','s','r','e','v','e','r']) (by kernel_rfl) own];kernel_rfl
theorem LG:entryFor table "reversed.__iter__"= some Builtin.«dict_keyiterator.__iter__»:=entryFor_alias (id':="dict_keyiterator.__iter__") (by kernel_rfl) (by first|rfl|decide +kernel|(unfold String.splitOn;simp +decide [String.splitOnAux])) (by trivial)<|by kernel_rfl
theorem LH:Slot "reversed" "__init__" "object.__init__":=.of (owner:="object") (n:="__init__") (by rw[typeLookup_type,builtinLookup_eq_fast];kernel_rfl) (by trivial) (by trivial) (by trivial) (by first|exact .inl (by trivial)|exact .inr (by trivial))<|by rw[isSubtype_type];kernel_rfl
theorem called:TypeCalled "reversed" "reversed.__new__" "object.__init__":={by trivial,by trivial,{_,_,F.mro_reversed},F.made_reversed,by trivial,by rw[isSubtype_type];kernel_rfl,LH}
theorem PQ:typeLookup (.type "tuple") "__reversed__"= pure none:=by rw[typeLookup_type,builtinLookup_eq_fast];kernel_rfl
theorem D2:typeLookup (.type "tuple") "__getitem__"= pure (some<|.builtin "tuple.__getitem__"):=by rw[typeLookup_type,builtinLookup_eq_fast];kernel_rfl
theorem LI:isSubtype (.type "tuple") (.type "dict")=pure false:=by rw[isSubtype_type];kernel_rfl
end Rt
noncomputable def Ab(l:Addr)(i:Int):Obj:={cls:=.type "reversed",data:=.fields #[.ref l,rawInt i]}
def rH(h:Heap)(a l:Addr)(i:Int):Prop:=∃o,h.get? a=some o/\o.cls=.type "reversed"/\o.data=.fields #[.ref l,rawInt i]
section
variable{prog:Program}{w:World}{A:Around}{E:Value->Shared->Prop}{s:Shared}
theorem rH.typeIs(x:rH s.heap a l i):s.TypeIs (.ref a) "reversed":=by obtain⟨o,ho,hc,_⟩:=x;exact⟨o,ho,hc⟩
theorem rH.keep(x:rH h a l i)(e:∀o,h.get? a=some o->h'.get? a=some o):rH h' a l i:=by obtain⟨o,ho,r⟩:=x;exact{o,e _ ho,r}
theorem PR(hl:IsTup s.heap l items)(hz:items.size<=sizeLine)(h:Q₁ (.ref s.heap.objs.size) {s with heap:=s.heap.push<|Ab l<|(items.size:Int)-1,toks:=s.toks+1+1}): codeAny (model prog w) A (.call (.builtin "reversed.__new__") {[.type "reversed",.ref l],[]}) (wants Q₁ E) s:=by
 refine codeAny_of_tree ?_;show wpAny _ A.in1 (do checkBuiltinCall "reversed.__new__" {[.type "reversed",.ref l],[]};again (.builtin "reversed.__new__" {[.type "reversed",.ref l],[]})) _ _ s;refine zc<|yY (F.newCall_reversed_1 _)<|zm {plainId_quiet F.plain_reversed_new _,yQ F.entry_reversed_new ?_};rw[Around.under_plainId F.plain_reversed_new _];unfold Builtin.«reversed.__new__»;refine zc<|yY (newClass_reversed _) ?_;refine zc<|yY (a:=()) (by first|rfl|kernel_rfl)<|zc<|yY (a:=()) (by first|rfl|kernel_rfl) ?_;refine zc<|wpAny_specialOf hl.typeIs Rt.PQ ?_;refine zc<|zc<|wpAny_isInstance hl.typeIs Rt.LI<|zc<|wpAny_specialOf hl.typeIs Rt.D2 ?_;show wpAny _ _ (if (["tuple.__getitem__","str.__getitem__","bytes.__getitem__","bytearray.__getitem__","memoryview.__getitem__","numpy.ndarray.__getitem__","sqlite3.Row.__getitem__"]:List String).contains "tuple.__getitem__"= true then pure true else _) _ _ _;rw[if_pos<|by trivial];refine zm ?_
 show wpAny _ _ (do
     let nV <-call (Value.builtin "len") [Value.ref l]
     let __x <-asInt? nV
     match __x with
      |some n=>do
       let nV <-Builtin.SmallTypes.newRecord (Value.type "reversed") [Value.ref l,rawInt (n-1)]
       ret nV
      |x=>unsupported "internal:reversed.__new__") _ _ _
 refine zc<|len_tuple hl (by rw[yg]at hz;lia) ?_;refine zc<|yY (a:=some ((items.size:Nat):Int)) rfl ?_;exact zc (m:=newObj (.type "reversed")<|.fields #[.ref l,rawInt<|((items.size:Nat):Int)-1])<|yj<|zm h
theorem LJ(hl:IsTup s.heap l items)(hz:items.size<=sizeLine)(h:Q (.ref s.heap.objs.size) {s with heap:=s.heap.push<|Ab l<|(items.size:Int)-1,toks:=s.toks+1+1}): wpAny (model prog w) A (call (.type "reversed") [.ref l]) Q E s:=by refine callType_codes Rt.called (F.typeCall_reversed_1 _) F.entry_object_init (Q₁:=λobj bf=>bf.TypeIs obj "reversed"/\Q obj bf) (PR hl hz {{_,zk _ rfl,rfl},h}) λobj bf h₁=>?_;exact{h₁.1,F.args_object_init_2 obj _,object_init_meets Rt.called.init.lookup Rt.called.made (by decide) prog w A.in1 _ bf ⟨h₁.1,rfl,h₁.2⟩}
theorem sqx(h:k<n):seqIndex? ((k:Nat):Int) n=some k:=by have e:(if ((k:Nat):Int)<0 then ((k:Nat):Int)+(n:Int) else ((k:Nat):Int))=((k:Nat):Int):=if_neg (by lia);unfold seqIndex?;dsimp only;rw[e,if_pos<|by simp;lia];rfl
theorem LK{it l:Addr}{i:Nat}{items:Array Value}{x:Value}{Q:Option Value->Shared->Prop}(hit:rH s.heap it l (i:Int))(hl:IsTup s.heap l items)(hz:items.size<=sizeLine)(hx:items[i]?=some x) (hQ:∀h' tk,rH h' it l ((i:Int)-1)->Heap.SameBut it s.heap h'->Q (some x) {s with heap:=h',toks:=tk}):wpAny (model prog w) A (pyNext<|.ref it) Q E s:=by obtain⟨o,ho,hc,hd⟩:=id hit;have hi:i<items.size:=(Array.getElem?_eq_some_iff.mp hx).1;unfold pyNext;refine zc<|wpAny_attempt<|wpAny_callSpecial?_slot (name:=Str.ofString "__next__") hit.typeIs Rt.mh<|yJ Rt.mh hit.typeIs Rt.DZ ?_<|Rt.D0 _;unfold Builtin.«reversed.__next__»;refine zc<|yY (a:=(Value.ref it,[])) rfl<|zc<|ya ho hd (x:=.ref l) rfl<|zc<|ya ho hd (x:=rawInt (i:Int)) rfl ?_;show wpAny _ _ (if (i:Int)<0 then _ else _) _ _ s;rw[if_neg<|by lia];show wpAny _ _ (specialOf (.ref l) "__getitem__" >>=_) _ _ s;refine zc<|wpAny_specialOf hl.typeIs Rt.D2 ?_;show wpAny _ _ (mkInt (i:Int) >>=_) _ _ s;refine zc<|wpAny_mkInt ?_;refine zc<|wpAny_attempt<|getItem_tuple (j:=i) hl (by lia) (by rw[yg]at hz;lia) (sqx hi) hx ?_;refine zc<|ya ho hd (x:=rawInt (i:Int)) rfl ?_;show wpAny _ _ (setField (.ref it) 1 (rawInt<|(i:Int)-1) >>=λ_=>ret x) _ _ _;refine zc<|yS ho hd (by simp)<|zm {x,rfl,zm<|hQ _ _ ?_<|yF ..};exact{_,yB _ ho<|Obj.isFreed_of_fields<|yD hd _,(Obj.cls_mapFields ..).trans hc,by rw[yD hd];simp}
theorem PU(hh:A.handled=none)(hit:rH s.heap it l (-1))(hQ:∀h',Heap.ExtBut it s.heap h'->Q none {s with heap:=h'}):wpAny (model prog w) A (pyNext<|.ref it) Q E s:=by
 obtain⟨o,ho,hc,hd⟩:=id hit;unfold pyNext;refine zc<|wpAny_attempt<|wpAny_callSpecial?_slot (name:=Str.ofString "__next__") hit.typeIs Rt.mh<|yJ Rt.mh hit.typeIs Rt.DZ ?_<|Rt.D0 _;unfold Builtin.«reversed.__next__»;refine zc<|yY (a:=(Value.ref it,[])) rfl<|zc<|ya ho hd (x:=.ref l) rfl<|zc<|ya ho hd (x:=rawInt (-1)) rfl ?_;show wpAny _ _ (if (-1:Int)<0 then _ else _) _ _ s;rw[if_pos<|by decide];refine zc<|yX ?_;have hd1:=yD hd (·.setIfInBounds 1 (rawInt (-1)));have Rq:=yB (Obj.mapFields (·.setIfInBounds 1 (rawInt (-1)))) ho<|Obj.isFreed_of_fields hd1;refine zc (m:=setField (.ref it) 1 (rawInt (-1)) >>=λ_=>setField (.ref it) 0 .none)<|zc<|yS ho hd (by simp)<|yS Rq hd1 (by simp) ?_;have eb:Heap.ExtBut it s.heap ((s.heap.update it (Obj.mapFields (·.setIfInBounds 1 (rawInt (-1))))).update it (Obj.mapFields (·.setIfInBounds 0 Value.none))):=λb u hb e=>by rw[yy _ _<|Ne.symm hb,yy _ _<|Ne.symm hb];exact e
 refine zc ?_;show wpAny _ _ (newExc (.type "StopIteration") [] >>=_) _ _ _;refine zc ?_;simp only[newExc,newTuple];refine zc<|yj ?_ (by size_fits);refine zc (m:=firstArgMember _ _)<|yY (a:=Value.none) (by first|rfl|(simp only[firstArgMember];rfl)) ?_;refine yj ?_ (by size_fits);simp only[raiseNew];refine zc<|wpAny_handled ?_;first|rw[show A.in1.handled=none from hh]|rw[hh]
 refine zc<|zm<|wpAny_throw ?_;refine zc<|wpAny_isInstance (T:="StopIteration") (b:=true) {_,zk _ rfl,rfl} isSubtype_stop ?_;exact zm<|hQ _<|(eb.push _).push _
theorem D3(hit:rH s.heap it l i)(h:Q (.ref it) s):wpAny (model prog w) A (pyIter<|.ref it) Q E s:=by refine wpAny_pyIter_slot hit.typeIs Rt.D1<|yJ Rt.D1 hit.typeIs Rt.LG ?_<|Rt.LF _;show wpAny _ _ (ret<|.ref it) _ _ s;exact zm !{"reversed",_,hit.typeIs,Rt.mh.lookup,h}
end
end L2
namespace L2
open PySem PySem.Spec PyProof.Rows
def UM(K:Frag)(a:Addr)(n:Nat):It:={λi H=>∃xs x,iM K H a xs/\xs.length=n/\i<n/\xs[n-1-i]?=some x,λi H x H'=>H'=H/\∀xs,iM K H a xs->xs.length=n->xs[n-1-i]?=some x,λi _=>n<=i}
theorem LL{P:Program}{w:World}{K:Frag}{tg:Expr}(a it:Addr)(n:Nat):Turn P w K tg (UM K a n) [it] it (λi h=>i<=n/\rH h it a ((n:Int)-1-(i:Int))) where
 mem:=by simp
 obj:=λi h st b hb=>by
  have e:b=it:=by simpa using hb
  subst e
  obtain⟨_,o,e,c,d⟩:=st
  exact{o,e,λv z=>by rw[d]at z;cases z}
 keep:=λi h h' st k=>{st.1,st.2.keep λo e=>k it (by simp) o e}
 item:=by
  intro X hP hw hK hc i pins s σ H E I hf st hg
  subst hP hw hK
  obtain⟨xs,x,hq,hn,hi,hx⟩:=hg
  obtain⟨az,rv,p,hz⟩:=I.tuple hq
  obtain⟨u,hu,ru⟩:=rv.get hx
  obtain⟨f0,f1,f2,f3,f4,f5⟩:=hf it<|by simp
  have e:(n:Int)-1-(i:Int)=((n-1-i:Nat):Int):=by lia
  have hit:=st.2
  rw[e]at hit
  refine LK hit p (by rw[zo,<-rv.length];exact hz) (x:=u) (by simpa using hu) λh' tk eN sb=>?_
  have I1:Inv X pins σ H {s with heap:=h',toks:=tk}:=I.turned (t':=tk) (λb o hb e=>(sb.2 b hb).trans e) f0 f1 f3 f4 f5
  obtain⟨o,e1,c,d⟩:=id eN
  refine{u,rfl,uu (s:={s with heap:=h',toks:=tk}) e1 c d (by decide) {x,H,I1,ru,{rfl,λys hy _=>by rw[I.nD hy hq];exact hx},{hi,?_},λb hb=>(hf b hb).1}}
  have e2:(n:Int)-1-((i+1:Nat):Int)=((n-1-i:Nat):Int)-1:=by lia
  rw[e2];exact eN
 done:=by
  intro X hP hw hK hc i pins s σ H E I hf st hg
  subst hP hw hK
  obtain⟨f0,f1,f2,f3,f4,f5⟩:=hf it<|by simp
  have hg:n<=i:=hg
  have e:(n:Int)-1-(i:Int) = -1:=by have:=st.1;lia
  have hit:=st.2
  rw[e]at hit
  exact PU (I.ok.hd hc) hit λh' eb=>{rfl,I.turned (t':=s.toks) (λb o hb e=>eb b o hb e) f0 f1 f3 f4 f5}
 self:=λ_ _ _ _ _ st h=>D3 st.2 h
def iRt(K:Frag)(ta:TA):TI:=λσ H R=>ta σ H λvs H1=>∃a xs,vs=[.ref a]/\iM K H1 a xs/\R (UM K a xs.length) H1
theorem UN{X:Cx}{tg a:Expr}{ta:TA}{p pos:Pos}(hg:Gl X "reversed")(hm:X.mg "reversed"= none)(ha:PA X [a] ta)(hs:starEach [a] X.env=[(false,eval a X.env)]):PI X tg (.Call (.Name "reversed" p) [a] [] pos) (iRt X.K ta):=by
 intro pins s σ H R I h;refine Call_<|gu I hg hm boot_reversed<|PyProof.Rows.callWith_type1 (bz (ha pos pins s σ H _ I h) λus s1 ⟨vs,H1,I1,r1,q1⟩=>?_) hs rfl;obtain⟨l,xs,e,q,hR⟩:=q1;subst e;obtain⟨u,rfl,ru⟩:=vals1 r1;cases ru;obtain⟨az,rv,pl,hz⟩:=I1.tuple q;have hn:az.toArray.size=xs.length:=by rw[zo,rv.length]
 refine LJ pl (by rw[hn];exact hz) ?_;rw[hn];have st:rH (s1.heap.push<|Ab l<|(xs.length:Int)-1) s1.heap.objs.size l ((xs.length:Int)-1-((0:Nat):Int)):={_,zk _ rfl,rfl,by show Data.fields _=Data.fields _;simp};have I2:Inv X pins σ H1 {s1 with heap:=s1.heap.push<|Ab l<|(xs.length:Int)-1,toks:=s1.toks+1+1}:=I1.kept (t':=s1.toks+1+1) λb o e=>za _ e;refine D3 (s:={s1 with heap:=s1.heap.push<|Ab l<|(xs.length:Int)-1,toks:=s1.toks+1+1}) st {_,_,_,_,H1,rfl,I2,LL l s1.heap.objs.size xs.length,{zT _,st},λb hb=>?_,hR};have hb:b=s1.heap.objs.size:=by simpa using hb
 subst hb;exact I1.pQ (zq _)<|I1.aK.fresh<|zq _
section
variable{K:Frag}{X:Cx}{tg:Expr}
def Y8(t:iS):A_:=λσ S R Z=>t σ S (λds S1=>∃es,ds=[.tup es]/\R {es.reverse,λ_=>True} S1) Z
theorem irt{t:iS}(hm:X.mg "reversed"= none)(ha:DA K X [a] t)(hg:autoParam (Gl X "reversed") qQJ)(hs:autoParam (starEach [a] X.env=[(false,eval a X.env)]) qQJ)(hK:autoParam (X.K=K) qQJ):DI K X tg (.Call (.Name "reversed" p) [a] [] pos) (Y8 t):=by subst hK;exact⟨λy=>(UN (X:=y.cx) hg hm (ha.of y) hs).mono <| by rintro τ H R ⟨σ,S,RI,Z,aA,hS,q,hR,hZ⟩;exact{σ,S,_,Z,aA,hS,q,by rintro ds S1 vs H1 ⟨es,e,r1⟩ v1 s1 k1;subst e;obtain⟨v,rfl,r⟩:=v1.one;obtain⟨a,xs,rfl,hq,t⟩:=r.tup;refine{a,xs,rfl,.inl<|.of hq,hR _ S1 _ H1 r1 (λi S2 H2 k2 s2 Wc=>?_) s1 k1};have Rm:iM X.K H2 a xs:=.inl<|.of<|k2.t _ _ hq;have t2:=RvAll.ts k2 _ t;have hl:xs.length=es.length:=t.len;refine{λd hd=>?_,λh=>by rw[yG]at h;show xs.length<=i;lia};have hi:i<es.length:=(by have:=(zd.mp hd).1;rwa [yG]at this);rw[List.getElem?_reverse hi]at hd;obtain⟨v,e1,r⟩:=t2.get hd;rw[hl];refine{⟨xs,v,Rm,hl,hi,e1⟩,λx' H' ⟨e2,e3⟩=>?_};subst e2;have:=e3 xs Rm hl;rw[e1]at this;cases this;exact{r,.refl _,s2},hZ}⟩
end
section
variable{K:Frag}{X:Cx}{pos:Pos}
def PX(tc:l8)(tb:lU):lU:=λDe σ S Z=>∃P:Nat->SD->aw->Prop,(∃m,P m σ S)/\∀m σ S,P m σ S->tc σ S (λb S1=>if b=true then tb {De with nx:=λaB S'=>∃m',m'<m/\P m' aB S',ct:=λaB S'=>∃m',m'<m/\P m' aB S',bk:=De.nx} σ S1 Z else De.nx σ S1) (Z σ)
theorem Y9(hc:DT K X c tc)(hb:GO K X true body tb):DS K X true (.While c body [] pos) (PX tc tb):=
 ⟨λy=>(G1 (X:=y.cx) (y.ok.loop rfl) (hc.of y)<|hb.of y).mono <| by rintro D τ H ⟨σ,S,De,Z,aA,hS,⟨P,⟨m,p0⟩,turn⟩,hD,hZ⟩;exact
  ⟨λm Rk H'=>∃σ S,ip K H' σ Rk/\Rs K S H'/\P m σ S/\Kp K H H',⟨m,σ,S,aA,hS,p0,.refl _⟩,by rintro m YB H1 ⟨xo,S1,a1,s1,p1,k1⟩;exact⟨xo,S1,_,Z xo,a1,s1,turn m xo S1 p1,λb S2 H2 r2 s2 k2=>by
   cases b with
   |true =>
    rw[if_pos rfl]at r2⊢
    refine{λτ3 H3=>∃σ S,ip K H3 σ τ3/\Rs K S H3/\(∃m',m'<m/\P m' σ S)/\Kp K H H3,by rintro τ3 H3 ⟨fP,S3,a3,s3,⟨m',hm,p3⟩,k3⟩;exact⟨m',hm,fP,S3,a3,s3,p3,k3⟩,?_}
    have kk:=k1.trans k2
    exact{xo,S2,_,Z,a1.ts k2,s2,r2,{λPz S5 YK H5 r5 a5 s5 k5=>{Pz,S5,a5,s5,r5,kk.trans k5},hD.rt.kp kk,hD.nx.kp kk,λPz S5 YK H5 r5 a5 s5 k5=>{Pz,S5,a5,s5,r5,kk.trans k5}},hZ.kp kk}
   |false =>
    rw[if_neg ze]at r2⊢
    exact hD.nx _ _ _ _ r2 (a1.ts k2) s2<|k1.trans k2,(hZ.kp k1).at a1⟩⟩⟩
def Y_(i:Nat)(te:TD):lU:=λDe σ S Z=>∃a:Int,σ[i]?=some (some<|.int a)/\te σ S (λd S1=>∃b:Int,d=.int b/\De.nx (σ.set i<|some<|.int<|a+b) S1) (Z σ)
theorem sau(hN:X.N.Nodup)(he:DE K X e te)(hi:autoParam (X.N[i]?=some x) qQJ)(hx:autoParam (Loc X.env.scope x) qQ8)(hf:autoParam (X.fn x=true\/X.env.scope.names.lookup x=some .local) qQ8): DS K X b (.AugAssign (.Name x pos') .Add e pos) (Y_ i te):=⟨λy=>(Of (X:=y.cx) hN hi hx (he.of y) Oh hf).mono <| by rintro D τ H ⟨σ,S,De,Z,aA,hS,⟨a,ha,t⟩,hD,hZ⟩;obtain⟨v,e1,r⟩:=aA.get ha;exact{v,e1,σ,S,_,Z σ,aA,hS,t,by rintro d S1 u H1 ⟨c,e2,n⟩ rv s1 k1;subst e2;exact{a,c,r.int,rv.int,hD.nx _ _ _ _ n ((aA.ts k1).set i<|aO _) s1 k1},hZ.at aA}⟩
noncomputable def vD:V->D|.int i=>.int i|.str z=>.str z|.bl b=>.bl b|_=>.au
noncomputable def Io:V->Bool|.int _=>true|.str _=>true|_=>false
def UO(kvs:List<|Str×V)(ty:TD):TD:=λσ S R Z=>ty σ S (λy S1=>∃z,y=.str z/\R ((kvs.lookup z).elim .au vD) S1) Z
theorem mgk{w:World}{ad:Addr}{kvs:List<|Str×V}{o e:Expr}{apos aN:Pos}{ty:TD}(d:JT w K ad kvs)(hf:(kvs.all λp=>Io p.2)=true)(ho:∀Y:Cx,Y.env=X.env->Y.mg=X.mg->PE Y o (tC<|.ref ad))(he:DE K X e ty)(hw:autoParam (X.w=w) qQJ)(hK:autoParam (X.K=K) qQJ)(m:autoParam (M1 X o "get" apos e aN) qQ4): DE K X (.Call (.Attribute o "get" apos) [e] [] aN) (UO kvs ty):=⟨λy=>(HC (X:=y.cx) hw hK (ho y.cx rfl rfl) (he.of y) ⟨m.base,m.GJ,m.line,m.trees⟩).mono <| by rintro τ H Q ⟨σ,S,R,Z,aA,hS,q,hR,hZ⟩;exact⟨ad,kvs,rfl,d,σ,S,_,Z,aA,hS,q,by
 rintro yv S1 v H1 ⟨z,e1,r⟩ rv s1 k1;subst e1;refine{z,rv.str,hR _ _ _ _ r ?_ s1 k1};have fl:∀v,kvs.lookup z=some v->Io v=true:=λv hv=>by have:=yn hv;exact yb.mp hf _ this
 cases q:kvs.lookup z with|none=>exact dE|some v=>have:=fl v q;cases v with|int i=>exact aO i|str i=>exact jm i|_=>(cases this),hZ⟩⟩
def UP:R2:=λx y H Q=>∃a z n,x=.ref a/\y=.int n/\H a=some (.lst [z])/\0<=n/\n<=1000/\∀p,H p=none->Q (.ref p) (upd H p<|.lst<|List.replicate n.toNat z)
theorem LM:ia X (binaryOp .Mult) UP:=by intro pins s σ H x y v u Q I rx ry h;obtain⟨a,z,n,rfl,rfl,ha,h1,h2,q⟩:=h;cases rx;obtain⟨t',rfl⟩:=ry;obtain⟨z2,tJ,k,r2,hl,ho⟩:=I.xI ha;obtain⟨w,rfl,nE⟩:=r2.one;refine wpAny_binaryOp_repeat_ref (T:="list") (U:="int") (by decide) {_,ho,rfl} (λs'=>typeIs_int s' n t') noFill_list_mul F.fills_int_mul F.slot_int_rmul repeat_list F.slot_int_index.lookup<|call_meets F.slot_int_rmul (typeIs_int s n t') F.entry_int_rmul (F.args_int_rmul_2 _ _) (int___rmul___int_list n t' a [w].toArray k) {ho,rfl,{_,ho,rfl},?_};refine call_meets F.slot_list_mul {_,ho,rfl} F.entry_list_mul (F.args_list_mul_2 _ _) (AutoListH.list___mul___list_int_3 a [w].toArray k n t' (by simp[Builtin.List.listFitsIndex];lia) (by simp;lia)<|by simp[Builtin.List.listTooLong,sizeLine];lia) {ho,?_};rw[if_neg<|by simp,show(#[]:Array Value)=([]:List Value).toArray from rfl,show[w].toArray=#[w] from rfl,DC,List.nil_append];refine{.ref s.heap.objs.size,_,I.laid (t':=s.toks) (λ_ _ q=>za _ q) (zq _) ?_,rfl,q _ I.fresh};exact(show bt X.prog X.w _ _ _ (.lst<|List.replicate n.toNat z) from{by rw[List.length_replicate];exact X5<|by lia,_,_,xX nE _,zk _ rfl})
end
section
variable{K:Frag}
def UQ:vJ:=λx y S R=>∃a d n,x=.ref a/\y=.int n/\S a=some (.lst [d])/\0<=n/\n<=1000/\∀p,S p=none->R (.ref p) (S.set p<|.lst<|List.replicate n.toNat d)
theorem PY:qy K (binaryOp .Mult) UQ:=by rintro X hK hu pins s σ H x y v u Q I rx ry ⟨d,e,S,R,r1,r2,hS,⟨a,d0,n,e1,e2,e3,h1,h2,h⟩,hR⟩;subst e1 e2;obtain⟨zs,e4,t⟩:=hS.lst e3;obtain⟨z,rfl,rz⟩:=t.one;exact LM pins s σ H _ _ v u Q I rx ry {a,z,n,r1.ref,r2.int,e4,h1,h2,λp hp=>hR.new hS hp (h p)<|HU rz _}
end
theorem gK(hm:X.mg x=some (.ref a))(hg:autoParam (Gl X x) qQJ)(hd:autoParam ((x==("__debug__": Str))=false) qQZ):∀Y:Cx,Y.env=X.env->Y.mg=X.mg->PE Y (.Name x pos) (tC<|.ref a):=λY e1 e2=>Dh (X:=Y) (u:=.ref a) (show Y.env.kindOf x=_ by rw[e1];exact hg) (by rw[e2];exact hm) rfl hd
structure Fb(K:Frag)(x q:Str)(st:Stmt)(ps:List Str)(f:Addr)(d:FuncData):Prop where
 F:vO K x q st f d
 b:Binds K d ps []
structure Fz(K:Frag)(mg:Str->Option Value)(x:Str)(st:Stmt)(ps:List Str)(f:Addr)(d:FuncData):Prop extends Fb K x x st ps f d where
 k:keepIn K (.ref f)=true
 m:mg x=some (.ref f)
structure Nr(K:Frag)(c:Addr)(x q:Str)(st:Stmt)(ps:List Str)(f:Addr)(d:FuncData):Prop extends Fb K x q st ps f d where
 e:Meth K c x f
abbrev Ok(P:Program)(w:World)(base:Heap){K:Frag}{mg:Str->Option Value}{x:Str}{st:Stmt}{ps:List Str}{f:Addr}{d:FuncData}(_:Fz K mg x st ps f d)(k:Nat)(sp:kC):Prop:=bI P w K mg base (fN P w mg) k f d ps<|qz K sp
abbrev Bb(P:Program)(w:World)(mg:Str->Option Value)(base:Heap){K:Frag}{c:Addr}{x q:Str}{st:Stmt}{ps:List Str}{f:Addr}{d:FuncData}(_:Nr K c x q st ps f d)(k:Nat)(sp:kC):Prop:=bI P w K mg base (fN P w mg) k f d ps<|qz K sp
theorem fsc{N P:List Str}{sc:Scope}(a:autoParam (sc.kind=.function/\sc.isCoroutine=false/\sc.isGenerator=false/\N.take P.length=P) qQ4)(b:autoParam (N.Nodup/\(∀x∈P,sc.names.lookup x=some .local\/sc.names.lookup x=some .cell)/\∀y∈sc.names,y.2≠.free) qJ3):fS N P sc:=⟨a.1,a.2.1,a.2.2.1,b.1,a.2.2.2,b.2.1,b.2.2⟩
section
variable{R:Prop}{K:Frag}{h:Heap}{mg:Str->Option Value}{od an:Option Addr}{sl:Array (Option Value)}{oc dV kV dc pm cd ct:Value}{f da:Addr}{GS:Option Addr}{dn:Nat}{GU:Array (Option Value)}{c:Addr}{tk:Tok}{d:FuncData}
theorem fn1(X:K.In h)(G:h.Ns mainGlobals mg)(x:Str)(st:Stmt)(ps:List Str)(a:nsIn K mainGlobals x=some (some<|.ref f))(l:K.lookup f=some {oc,od,.func<|fnOf x x (bc st) (aZ st) (ae st) dV kV dc pm an cd ct,sl}) (e:codeIn K cd x=true) (k:keepIn K (.ref f)=true) (b:∀us:List Value,us.length=ps.length->bindArgs (fnOf x x (bc st) (aZ st) (ae st) dV kV dc pm an cd ct) {us,[]}=pure (ps.zip us)) (g:∀d,Fz K mg x st ps f d->R):R:=g _ {{{_,_,_,_,_,_,_,_,_,_,rfl,l,e},.all b},k,mg_of X G a}
theorem Za(X:K.In h)(G:h.Ns mainGlobals mg)(x:Str)(st:Stmt)(ps:List Str)(a:nsIn K mainGlobals x=some (some<|.ref f))(l:K.lookup f=some {oc,od,.func<|fnOf x x (bc st) (aZ st) (ae st) dV kV dc pm an cd ct,sl}) (e:codeIn K cd x=true) (k:keepIn K (.ref f)=true) (b:∀us:List Value,us.length=ps.length->bindArgs (fnOf x x (bc st) (aZ st) (ae st) dV kV dc pm an cd ct) {us,[]}=pure (ps.zip us)) (g:∀d,d.code=cd->(∀(s:Shared)(us:List Value),us.length=ps.length->BindsTo s d {us,[]} (ps.zip us))->Fz K mg x st ps f d->R):R:=g _ rfl (λs us h=>.of_eq<|b us h) {{{_,_,_,_,_,_,_,_,_,_,rfl,l,e},.all b},k,mg_of X G a}
theorem fm1(C:qQ K c)(x q:Str)(st:Stmt)(ps:List Str)(a:findIn K (.ref c) x=some (some<|.ref f))(i:isFn K (.ref f)=true)(l:K.lookup f=some {oc,od,.func<|fnOf x q (bc st) (aZ st) (ae st) dV kV dc pm an cd ct,sl}) (e:codeIn K cd q=true) (k:keepIn K (.ref f)=true) (b:∀us:List Value,us.length=ps.length->bindArgs (fnOf x q (bc st) (aZ st) (ae st) dV kV dc pm an cd ct) {us,[]}=pure (ps.zip us)) (g:∀d,Nr K c x q st ps f d->R):R:=g _ {{{_,_,_,_,_,_,_,_,_,_,rfl,l,e},.all b},a,i,k}
theorem fmd(C:qQ K c)(x q:Str)(st:Stmt)(ps:List Str)(a:findIn K (.ref c) x=some (some<|.ref f))(i:isFn K (.ref f)=true)(l:K.lookup f=some {oc,od,.func<|fnOf x q (bc st) (aZ st) (ae st) (.ref da) kV dc pm an cd ct,sl}) (t:K.lookup da=some {.type "tuple",GS,.seq #[.none] dn,GU}) (e:codeIn K cd q=true) (k:keepIn K (.ref f)=true) (b:∀(s:Shared) (us:List Value),s.heap.get? da=some {.type "tuple",GS,.seq #[.none] dn,GU}->us.length=ps.length->BindsTo s (fnOf x q (bc st) (aZ st) (ae st) (.ref da) kV dc pm an cd ct) {us,[]} (ps.zip us)) (b2:∀(s:Shared) (us:List Value),s.heap.get? da=some {.type "tuple",GS,.seq #[.none] dn,GU}->us.length+1=ps.length->BindsTo s (fnOf x q (bc st) (aZ st) (ae st) (.ref da) kV dc pm an cd ct) {us,[]} (ps.zip<|us++[.none])) (g:∀d,Nr K c x q st ps f d->Binds K d ps [.none]->R):R:=g _ {{{_,_,_,_,_,_,_,_,_,_,rfl,l,e},λs us hK hl=>by rw[List.append_nil]at hl⊢;exact b s us (hK _ _ t) hl},a,i,k} λs us hK hl=>b2 s us (hK _ _ t)<|by simpa using hl
theorem xr(X:K.In h)(G:h.Ns mainGlobals mg)(x:Str)(a:nsIn K mainGlobals x=some none)(g:mg x=none->R):R:=g<|PySem.W.mg_none_of X G a
theorem LN(X:K.In h)(G:h.Ns mainGlobals mg)(x:Str)(i:Int)(a:nsIn K mainGlobals x=some (some<|.int i tk))(g:mg x=some (.int i tk)->R):R:=g<|mg_of X G a
theorem UR(X:K.In h)(G:h.Ns mainGlobals mg)(x:Str)(a:nsIn K mainGlobals x=some (some<|.ref c))(l:K.lookup c=some o)(g:mg x=some (.ref c)->K.lookup c=some o->R):R:=g (mg_of X G a) l
theorem LO(X:K.In h)(G:h.Ns mainGlobals mg)(x:Str)(a:nsIn K mainGlobals x=some (some<|.ref c))(e:excIn K c L2.nL "ValueError.__new__"= true)(g:mg x=some (.ref c)->excIn K c L2.nL "ValueError.__new__"= true->R):R:=g (mg_of X G a) e
theorem gvc(X:K.In h)(G:h.Ns mainGlobals mg)(x:Str)(a:nsIn K mainGlobals x=some (some<|.ref c))(pg:plainGet K c Str.empty=true)(hd:hasDictIn K c=true)(po:plainOver K c=true)(sa:findIn K (.ref c) "__setattr__"= some (some<|.builtin "object.__setattr__"))(ms:makesIn K c=true)(kc:keepIn K (.ref c)=true) (g:mg x=some (.ref c)->qQ K c->makesIn K c=true->keepIn K (.ref c)=true->R):R:=g (mg_of X G a) ⟨pg,hd,po,sa⟩ ms kc
theorem Zb(C:qQ K c)(x:Str)(a:findIn K (.ref c) x=some none)(g:findIn K (.ref c) x=some none->R):R:=g a
theorem PZ{P:Addr}(l:K.lookup c=some o)(e:codeHdIn [(c,o)] c P=true):codeHdIn K c P=true:=by unfold codeHdIn at e⊢;rw[l];rw[show([(c,o)]:Frag).lookup c=some o by simp]at e;exact e
theorem gvm{P:Addr}(X:K.In h)(e:d.code=.ref c)(o:K.lookup c=some {oC,od,.fields vC,sl})(q:vC[11]?=some (.ref P))(hh:codeHdIn [(c,{oC,od,.fields vC,sl})] c P=true)(g:codeHdIn K c P=true->R):R:=g<|PZ o hh
end
section
variable{Q:List Value->Prop}
theorem Zc(h:Q [])(us:List Value)(e:us.length=0):Q us:=by cases us with|nil=>exact h|cons a us=>cases e
theorem FA(h:∀a us,us.length=n->Q (a::us))(us:List Value)(e:us.length=n+1):Q us:=by cases us with|nil=>(cases e)|cons a us=>exact h a us<|Nat.succ.inj e
theorem US(h:∀a,Q [a]):∀us:List Value,us.length=1->Q us:=FA λa=>Zc<|h a
theorem ln2(h:∀a b,Q [a,b]):∀us:List Value,us.length=2->Q us:=FA λa=>US<|h a
theorem Rx(h:∀a b c,Q [a,b,c]):∀us:List Value,us.length=3->Q us:=FA λa=>ln2<|h a
theorem Wv(h:∀a b c d,Q [a,b,c,d]):∀us:List Value,us.length=4->Q us:=FA λa=>Rx<|h a
theorem Zd(h:∀a b c d e,Q [a,b,c,d,e]):∀us:List Value,us.length=5->Q us:=FA λa=>Wv<|h a
theorem UT(h:∀a b c d e f,Q [a,b,c,d,e,f]):∀us:List Value,us.length=6->Q us:=FA λa=>Zd<|h a
theorem Ze(h:∀a,Q [a])(us:List Value)(e:us.length+1=2):Q us:=US h us<|Nat.succ.inj e
theorem Zg(h:∀a b,Q [a,b])(us:List Value)(e:us.length+1=3):Q us:=ln2 h us<|Nat.succ.inj e
end
section
variable{K:Frag}{X:Cx}{x:Str}{st:Stmt}{ps:List Str}{f:Addr}{fd:FuncData}{sp:kC}{e:Expr}{es:List Expr}{p pos:Pos}
theorem aL{t:iS}(T:Fz K X.mg x st ps f fd)(F:bI X.prog X.w K X.mg X.base (fN X.prog X.w X.mg) k f fd ps<|qz K sp)(hr:bW k' X.A)(ha:DA K X (e::es) t)(hle:autoParam (k<=k') qJX) (hg:autoParam (Gl X x) qQJ) (pS:autoParam ((x==("__debug__": Str))=false) qQZ) (he:autoParam (starEach (e::es) X.env=(false,eval e X.env)::starEach es X.env) qQJ) (cU:autoParam ((backTo pos<|starEach es X.env).any (·.1)=false) qQJ) (hK:autoParam (X.K=K) qQJ): DE K X (.Call (.Name x p) (e::es) [] pos) (M_ sp [] t):=cf (F.mono hle) hr T.m T.k T.b d0 ha hg pS he cU hK
end
theorem bW.u(r:bW k A):A.units+64<cLine:=r.units
end L2
namespace L2
open PySem PySem.Spec PyProof.Rows PySem.SeqAt
def isStrOf(z:Str):Value->Bool|.str y _=>y==z|_=>false
end L2
namespace L2
open PySem PySem.Spec PyProof.Rows
section
variable{K:Frag}
theorem RvAll.thr(h:RvAll K H [a,b,c] vs):∃x y z,vs=[x,y,z]/\Rv K H a x/\Rv K H b y/\Rv K H c z:=by obtain⟨x,vs1,rfl,h1,h⟩:=h.cons;obtain⟨y,vs2,rfl,h2,h⟩:=h.cons;obtain⟨z,vs3,rfl,h3,h⟩:=h.cons;rw[h.nil];exact⟨x,y,z,rfl,h1,h2,h3⟩
theorem P0:bootBuiltins "max"= some (.builtin "max"):=by with_unfolding_all rfl
noncomputable def js:List D->List D->List D->List D|x::xs,y::ys,z::zs=>.tup [x,y,z]::js xs ys zs|_,_,_=>[]
theorem nW:∀{xs ys zs:List D},xs.length=ys.length->xs.length=zs.length->(js xs ys zs).length=xs.length|[],_,_,_,_=>by rw[js.eq_def]|x::xs,y::ys,z::zs,h,k=>congrArg Nat.succ<|nW (Nat.succ.inj h)<|Nat.succ.inj k
theorem nX:∀{xs ys zs:List D}{i:Nat}{d:D},(js xs ys zs)[i]?=some d->∃x y z,xs[i]?=some x/\ys[i]?=some y/\zs[i]?=some z/\d=.tup [x,y,z]|x::xs,y::ys,z::zs,0,d,h=>{x,y,z,rfl,rfl,rfl,(zU h).symm}|x::xs,y::ys,z::zs,i+1,d,h=>nX (i:=i) h|[],_,_,i,d,h=>by rw[js.eq_def]at h;simp at h|_::_,[],_,i,d,h=>by rw[js.eq_def]at h;simp at h|_::_,_::_,[],i,d,h=>by rw[js.eq_def]at h;simp at h
def P1(t:iS):A_:=λσ S R Z=>t σ S (λds S1=>∃xs ys zs,ds=[.tup xs,.tup ys,.tup zs]/\xs.length=ys.length/\xs.length=zs.length/\R {js xs ys zs,λ_=>True} S1) Z
end
section
variable{R:Prop}{K:Frag}{h:Heap}{mg:Str->Option Value}{od an:Option Addr}{sl:Array (Option Value)}{oc kV dc pm cd ct:Value}{f da:Addr}{GS:Option Addr}{dn:Nat}{GU:Array (Option Value)}
theorem fne(X:K.In h)(G:h.Ns mainGlobals mg)(x:Str)(st:Stmt)(ps:List Str)(ar:Array Value)(a:nsIn K mainGlobals x=some (some<|.ref f))(l:K.lookup f=some {oc,od,.func<|fnOf x x (bc st) (aZ st) (ae st) (.ref da) kV dc pm an cd ct,sl}) (t:K.lookup da=some {.type "tuple",GS,.seq ar dn,GU}) (e:codeIn K cd x=true) (k:keepIn K (.ref f)=true) (b:∀(s:Shared) (us:List Value),s.heap.get? da=some {.type "tuple",GS,.seq ar dn,GU}->us.length=ps.length->BindsTo s (fnOf x x (bc st) (aZ st) (ae st) (.ref da) kV dc pm an cd ct) {us,[]} (ps.zip us)) (g:∀d,Fz K mg x st ps f d->R):R:=g _ {{{_,_,_,_,_,_,_,_,_,_,rfl,l,e},λs us hK hl=>by rw[List.append_nil]at hl⊢;exact b s us (hK _ _ t) hl},k,mg_of X G a}
end
mutual
inductive Dr (S:aw):D->PyData->Prop where
 |au:Dr S .au .none
 |bl (b:Bool):Dr S (.bl b) (.bool b)
 |int (i:Int):Dr S (.int i) (.int i)
 |str (z:Str):Dr S (.str z) (.str z)
 |tup {ds:List D}{ps:List PyData} : UU S ds ps->Dr S (.tup ds) (.tuple ps)
 |ref {a:Addr}{ds:List D}{ps:List PyData} : S a=some (.lst ds)->UU S ds ps->Dr S (.ref a) (.list ps)
inductive UU (S:aw):List D->List PyData->Prop where
 |nil:UU S [] []
 |cons {d:D}{ds:List D}{p:PyData}{ps:List PyData} : Dr S d p->UU S ds ps->UU S (d::ds) (p::ps)
end
def lq:Stmt->Str|.FunctionDef n _ _ _ _ _ _ _ _ _=>n|_=>Str.empty
def tT(s:Stmt):List Str:=(bc s).args.map λa=>a.arg
def FC(K:Frag)(mg:Str->Option Value)(top:Nat->Stmt)(f:Nat->Addr)(d:Nat->FuncData)(l:List Nat):Prop:=∀i∈l,Fz K mg (lq<|top i) (top i) (tT<|top i) (f i)<|d i
def FD(K:Frag)(c:Addr)(q:Str)(cl:Stmt)(f:Nat->Addr)(d:Nat->FuncData)(l:List Nat):Prop:=∀i∈l,Nr K c (lq<|inClass cl i) (q++lq (inClass cl i)) (inClass cl i) (tT<|inClass cl i) (f i)<|d i
section
variable{K:Frag}{h:Heap}{mg:Str->Option Value}{od an:Option Addr}{sl:Array (Option Value)}{oc dV kV dc pm cd ct:Value}{x:Addr}{top:Nat->Stmt}{l:List Nat}{c:Addr}{q:Str}{cl:Stmt}
theorem af(X:K.In h)(G:h.Ns mainGlobals mg)(i:Nat)(ni:i∉l)(a:nsIn K mainGlobals (lq<|top i)=some (some<|.ref x))(o:K.lookup x=some {oc,od,.func<|fnOf (lq<|top i) (lq<|top i) (bc<|top i) (aZ<|top i) (ae<|top i) dV kV dc pm an cd ct,sl}) (e:codeIn K cd (lq<|top i)=true) (k:keepIn K (.ref x)=true) (b:∀us:List Value,us.length=(tT<|top i).length->bindArgs (fnOf (lq<|top i) (lq<|top i) (bc<|top i) (aZ<|top i) (ae<|top i) dV kV dc pm an cd ct) {us,[]}=pure ((tT<|top i).zip us)) (g:∃f d,FC K mg top f d l):∃f d,FC K mg top f d (i::l):=by refine fn1 X G _ _ _ a o e k b λd0 F=>?_;obtain⟨f,d,A⟩:=g;refine{λj=>if j=i then x else f j,λj=>if j=i then d0 else d j,λj hj=>?_};by_cases z:j=i;subst z;dsimp only;rw[if_pos rfl,if_pos rfl];exact F;dsimp only;rw[if_neg z,if_neg z];exact A j<|(zj.mp hj).resolve_left z
theorem af0:∃f d,FC K mg top f d []:={λ_=>0,λ_=>fnOf Str.empty Str.empty (bc<|.Pass {0,0,0,0}) [] (ae<|.Pass {0,0,0,0}) .none .none .none .none none .none .none,λ_ h=>nomatch h}
theorem afx{R:Prop}(_:K.In h)(_:h.Ns mainGlobals mg)(g:∃f d,FC K mg top f d l)(r:∀f d,FC K mg top f d l->R):R:=by obtain⟨f,d,A⟩:=g;exact r f d A
theorem amx{R:Prop}(_:qQ K c)(g:∃f d,FD K c q cl f d l)(r:∀f d,FD K c q cl f d l->R):R:=by obtain⟨f,d,A⟩:=g;exact r f d A
theorem am(C:qQ K c)(i:Nat)(ni:i∉l)(a:findIn K (.ref c) (lq<|inClass cl i)=some (some<|.ref x))(w:isFn K (.ref x)=true)(o:K.lookup x=some {oc,od,.func<|fnOf (lq<|inClass cl i) (q++lq (inClass cl i)) (bc<|inClass cl i) (aZ<|inClass cl i) (ae<|inClass cl i) dV kV dc pm an cd ct,sl}) (e:codeIn K cd (q++lq (inClass cl i))=true) (k:keepIn K (.ref x)=true) (b:∀us:List Value,us.length=(tT<|inClass cl i).length->bindArgs (fnOf (lq<|inClass cl i) (q++lq (inClass cl i)) (bc<|inClass cl i) (aZ<|inClass cl i) (ae<|inClass cl i) dV kV dc pm an cd ct) {us,[]}=pure ((tT<|inClass cl i).zip us)) (g:∃f d,FD K c q cl f d l):∃f d,FD K c q cl f d (i::l):=by refine fm1 C _ _ _ _ a w o e k b λd0 F=>?_;obtain⟨f,d,A⟩:=g;refine{λj=>if j=i then x else f j,λj=>if j=i then d0 else d j,λj hj=>?_};by_cases z:j=i;subst z;dsimp only;rw[if_pos rfl,if_pos rfl];exact F;dsimp only;rw[if_neg z,if_neg z];exact A j<|(zj.mp hj).resolve_left z
theorem am0:∃f d,FD K c q cl f d []:={λ_=>0,λ_=>fnOf Str.empty Str.empty (bc<|.Pass {0,0,0,0}) [] (ae<|.Pass {0,0,0,0}) .none .none .none .none none .none .none,λ_ h=>nomatch h}
end
section
variable{K:Frag}{X:Cx}{x q:Str}{st:Stmt}{ps:List Str}{C f:Addr}{fd:FuncData}{sp:kC}{o e:Expr}{es:List Expr}{apos pos:Pos}{k k':Nat}
theorem xt{t:iS}(he:DE K X o ta)(c:qQ K C)(T:Nr K C x q st ps f fd)(F:bI X.prog X.w K X.mg X.base (fN X.prog X.w X.mg) k f fd ps<|qz K sp)(hr:bW k' X.A)(ha:DA K X (e::es) t)(hle:autoParam (k<=k') qJX)
  (xB:autoParam (starEach (e::es) X.env=(false,eval e X.env)::starEach es X.env) qQJ) (cU:autoParam ((backTo pos<|starEach es X.env).any (·.1)=false) qQJ)
  (ht:autoParam (eval (.Call (.Attribute o x apos) (e::es) [] pos) X.env=(do
   let ov <-eval o X.env
   standAt apos.atName
   let (f,first) <-holding [ov] (getMethod ov x pl)
   callWith pos f first (backTo pos<|starEach (e::es) X.env) (backToKw pos<|keywordEach [] X.env))) qQJ) (hK:autoParam (X.K=K) qQJ):
  DE K X (.Call (.Attribute o x apos) (e::es) [] pos) (DL C x sp [] ta t):=Yy he c T.e (F.mono hle) hr T.b d0 ha xB cU ht hK
theorem rJ(he:DE K X o ta)(c:qQ K C)(T:Nr K C x q st ps f fd)(F:bI X.prog X.w K X.mg X.base (fN X.prog X.w X.mg) k f fd ps<|qz K sp)(hr:bW k' X.A)(hle:autoParam (k<=k') qJX)
  (ht:autoParam (eval (.Call (.Attribute o x apos) [] [] pos) X.env=(do
   let ov <-eval o X.env
   standAt apos.atName
   let (f,first) <-holding [ov] (getMethod ov x pl)
   callWith pos f first (backTo pos<|starEach [] X.env) (backToKw pos<|keywordEach [] X.env))) qQJ) (hK:autoParam (X.K=K) qQJ):
  DE K X (.Call (.Attribute o x apos) [] [] pos) (DL C x sp [] ta Lh):=T9 he c T.e (F.mono hle) hr T.b d0 ht hK
end
section
variable{K:Frag}{X:Cx}
def UW:D->Option Int->Option Int->aw->KD->Prop:=λx lo hi S R=>match x with|.ref a=>∃ds,S a=some (.lst ds)/\∀p,S p=none->R (.ref p) (S.set p<|.lst<|b_ ds lo hi)|.j6 ds=>∀p,S p=none->R (.ref p) (S.set p<|.lst<|b_ ds lo hi)|_=>False
theorem UX(hK:X.K=K):Q6 X (λx lo hi H Q=>∃d S R,Rv K H d x/\Rs K S H/\UW d lo hi S R/\Cn K H R Q):=by rintro pins s σ H x v vl vu lo hi sl Q I rx hs pl pu ⟨d,S,R,r1,hS,h,hR⟩;subst hK;cases d with|ref a=>(obtain⟨ds,e,h⟩:=h;obtain⟨xs,e1,t⟩:=hS.lst e;exact qv pins s σ H _ v vl vu lo hi sl Q I rx hs pl pu {a,xs,r1.ref,.of e1,λp hp=>hR.new hS hp (h p)<|t.cut lo hi})|j6 ds=>(obtain⟨a,xs,rfl,q,t⟩:=r1.j6;exact qv pins s σ H _ v vl vu lo hi sl Q I rx hs pl pu {a,xs,rfl,q.sq,λp hp=>hR.new hS hp (h p)<|t.cut lo hi})|_=>exact h.elim
def Zh(te:TD)(tl th:M5):TD:=λσ S R Z=>te σ S (λx S1=>tl σ S1 (λl S2=>th σ S2 (λu S3=>UW x l u S3 R) Z) Z) Z
theorem P2{e:Expr}{lo hi:Option Expr}{te:TD}{tl th:M5}{p2 pos:Pos}(he:DE K X e te)(hl:DO K X lo tl)(hu:DO K X hi th)(hK:autoParam (X.K=K) qQJ):DE K X (.Subscript e (.Slice lo hi none p2) pos) (Zh te tl th):=
 ⟨λy=>(xG (X:=y.cx) (UX hK) (he.of y) (hl.of y)<|hu.of y).mono <| by rintro τ H Q ⟨σ,S,R,Z,aA,hS,q,hR,hZ⟩;exact
  ⟨σ,S,_,Z,aA,hS,q,λd S1 x H1 r1 v1 s1 k1=>⟨σ,S1,_,Z,aA.ts k1,s1,r1,λl S2 H2 r2 s2 k2=>⟨σ,S2,_,Z,aA.ts<|k1.trans k2,s2,r2,λu S3 H3 r3 s3 k3=>⟨d,S3,R,Rv.ts (k2.trans k3) _ v1,s3,r3,hR.kp<|(k1.trans k2).trans k3⟩,hZ.kp<|k1.trans k2⟩,hZ.kp k1⟩,hZ⟩⟩
def Zi:vJ:=λx y S R=>match x,y with|.int i,.int j=>R (.int<|i+j) S|.str a,.str b=>a.length+b.length<=sizeLine/\R (.str<|a++b) S|.ref a,.ref b=>∃xs ys,S a=some (.lst xs)/\S b=some (.lst ys)/\xs.length+ys.length<=sizeLine/\∀p,S p=none->R (.ref p) (S.set p<|.lst<|xs++ys)|_,_=>False
theorem bB:qy K (binaryOp .Add) Zi:=by rintro X hK hu pins s σ H x y v u Q I rx ry ⟨d,e,S,R,r1,r2,hS,h,hR⟩;subst hK;cases d<;>cases e<;>first|exact False.elim h|exact Oq pins s σ H x y v u Q I rx ry {_,_,r1.int,r2.int,hR.now hS h<|aO _}|exact Bn pins s σ H x y v u Q I rx ry {_,_,r1.str,r2.str,h.1,hR.now hS h.2<|jm _}|skip;obtain⟨xs,ys,e1,e2,hl,q⟩:=h;obtain⟨vs,h1,t1⟩:=hS.lst e1;obtain⟨ws,h2,t2⟩:=hS.lst e2;exact OR pins s σ H x y v u Q I rx ry {_,_,vs,ws,r1.ref,r2.ref,h1,h2,by rw[t1.len,t2.len];exact hl,λp hp=>hR.new hS hp (q p)<|t1.app t2}
end
structure W(sp:kC)(ds:List D)(S:aw)(R:KD)(Z:KX):Prop where
 of:sp ds S R Z
theorem bI.w{P:Program}{w:World}{K:Frag}{mg:Str->Option Value}{base:Heap}{k:Nat}{f:Addr}{fd:FuncData}{ps:List Str}{sp:kC}(F:bI P w K mg base (fN P w mg) k f fd ps<|qz K sp):bI P w K mg base (fN P w mg) k f fd ps (qz K<|W sp):=F.Lq λ_ _ _ _ h=>h.of
def Zj(s:Stmt):List Str:=((ae s).names.filter λp=>p.2==.local||p.2==.cell).map (·.1)
theorem bJ(s:Stmt)(a:autoParam ((ae s).kind=.function/\(ae s).isCoroutine=false/\(ae s).isGenerator=false/\(Zj s).take (tT s).length=tT s) qQ4)(b:autoParam ((Zj s).Nodup/\(∀x∈tT s,(ae s).names.lookup x=some .local\/(ae s).names.lookup x=some .cell)/\∀y∈(ae s).names,y.2≠.free) qJ3):fS (Zj s) (tT s) (ae s):=fsc a b
section
variable{P:Program}{w:World}{K:Frag}{mg:Str->Option Value}{base:Heap}{x qual:Str}{st:Stmt}{f:Addr}{fd:FuncData}{N ps:List Str}{k:Nat}{sp:kC}
theorem vO.bS(F:vO K x qual st f fd)(S:fS N ps<|ae st) (lY:∀(fT:Value)(A:Around)(outer:List Env)(s:Shared)(H:Hp)(E:XK)(ds:List D)(S:aw)(R:KD)(Z:KX),bW k (A.deeper<|PyProof.Rows.envOfC qual (ae st) s.heap.objs.size f fT)->sp ds S R Z->∃t,GO K (kx (fN P w mg) P w K mg base N qual (ae st) f fT A outer s H E) true (aZ st) t/\t {nx:=λ_ S'=>Fo S'<|R .au,rt:=λd S'=>Fo S'<|R d} (jr N ds) S λ_ C S'=>Fo S'<|Z C) (len:∀ds S R Z,sp ds S R Z->ds.length=ps.length:=by intro _ _ _ _ h;first|(cases h;subst_vars;rfl;done)|(repeat first|(obtain⟨e,_⟩:=h;rw[e];rfl;done)|obtain⟨_,h⟩:=h)):bI P w K mg base (fN P w mg) (k+1) f fd ps (qz K sp):=F.ok S len lY
end
structure aa6(X:Cx)(N:List Str)(src:List (Option Nat))(scope:Scope):Prop where
 kind:scope.kind=.function
 nd:(scope.names.map Prod.fst).Nodup
 loc:∀y∈scope.names,y.2=.local->scope.names.lookup y.1=some .local
 A8:∀y∈scope.names,y.2=.free->X.env.kindOf y.1=some .cell\/X.env.kindOf y.1=some .free
 len:src.length=N.length
 src:∀(i j:Nat)(x:Str),src[i]?=some (some j)->N[i]?=some x->X.N[j]?=some x/\scope.names.lookup x=some .free/\NV X.env.scope x
section
variable{K:Frag}
def Zk:List D->aw->KD->Prop:=λds S R=>∃(a:Addr)(ns:List Int),ds=[.ref a]/\S a=some (.lst<|ns.map D.int)/\R (.int ns.sum) S
theorem UY:gG K (.builtin "sum") Zk:=by rintro X hK hc pins s σ H xs us Q I rx ⟨ds,S,R,r,hS,⟨a,ns,e,h1,h⟩,hR⟩;subst hK e;obtain⟨v,rfl,r1⟩:=r.one;cases r1.ref;obtain⟨zs,e1,t⟩:=hS.lst h1;rw[t.ints]at e1;exact Fj rfl hc pins s σ H _ us Q I rx {a,ns,rfl,.of e1,hR.now hS h<|aO _}
def Zl(i j:Nat)(ta:iS):lU:=λDe σ S Z=>ta σ S (λds S1=>∃v w,ds=[v,w]/\De.nx ((σ.set i<|some v).set j<|some w) S1)<|Z σ
theorem Zm(hN:X.N.Nodup)(ha:DA K X [a,b] ta)(hi:autoParam (X.N[i]?=some x) qQJ)(hj:autoParam (X.N[j]?=some y) qQJ)(jg:autoParam (i≠j) qQZ) (hx:autoParam (X.env.scope.names.lookup x=some .local) qQJ) (hy:autoParam (X.env.scope.names.lookup y=some .local) qQJ) (hw:autoParam (swappedStores [.Tuple [.Name x px,.Name y py] kt pt] (.Tuple [a,b] k2 pt2) X.env=pure (some [x,y])) qQJ) (hs:autoParam (swapsWithSole [.Tuple [.Name x px,.Name y py] kt pt] (.Tuple [a,b] k2 pt2) pos.line X.env=pure false) qQJ) (hc:autoParam (X.calm=true) qQJ):DS K X bb (.Assign [.Tuple [.Name x px,.Name y py] kt pt] (.Tuple [a,b] k2 pt2) pos) (Zl i j ta):=⟨λz=>(Oe (X:=z.cx) hc hN hi hj jg hx hy (ha.of z) hw hs).mono <| by rintro D τ H ⟨σ,S,De,Z,aA,hS,q,hD,hZ⟩;exact{σ,S,_,_,aA,hS,q,by rintro ds S1 vs H1 ⟨v,w,e,r⟩ v1 s1 k1;subst e;obtain⟨a,b,rfl,r1,r2⟩:=v1.two;exact{a,b,rfl,hD.nx _ _ _ _ r (((aA.ts k1).set i r1).set j r2) s1 k1},hZ.at aA}⟩
end
section
variable{R:Prop}{K:Frag}{h:Heap}{mg:Str->Option Value}{od an:Option Addr}{sl:Array (Option Value)}{oc kV dc pm cd ct:Value}{f da:Addr}{GS:Option Addr}{dn:Nat}{GU:Array (Option Value)}
theorem Zn(X:K.In h)(G:h.Ns mainGlobals mg)(x:Str)(st:Stmt)(ps:List Str)(ar:Array Value)(a:nsIn K mainGlobals x=some (some<|.ref f))(l:K.lookup f=some {oc,od,.func<|fnOf x x (bc st) (aZ st) (ae st) (.ref da) kV dc pm an cd ct,sl}) (t:K.lookup da=some {.type "tuple",GS,.seq ar dn,GU}) (e:codeIn K cd x=true) (k:keepIn K (.ref f)=true) (b:∀(s:Shared) (us:List Value),s.heap.get? da=some {.type "tuple",GS,.seq ar dn,GU}->us.length=ps.length->BindsTo s (fnOf x x (bc st) (aZ st) (ae st) (.ref da) kV dc pm an cd ct) {us,[]} (ps.zip us)) (b2:∀(s:Shared) (us:List Value),s.heap.get? da=some {.type "tuple",GS,.seq ar dn,GU}->us.length+2=ps.length->BindsTo s (fnOf x x (bc st) (aZ st) (ae st) (.ref da) kV dc pm an cd ct) {us,[]} (ps.zip<|us++[.none,.none])) (b3:∀(s:Shared) (us:List Value),s.heap.get? da=some {.type "tuple",GS,.seq ar dn,GU}->us.length+3=ps.length->BindsTo s (fnOf x x (bc st) (aZ st) (ae st) (.ref da) kV dc pm an cd ct) {us,[]} (ps.zip<|us++[.none,.none,.none])) (g:∀d,Fz K mg x st ps f d->Binds K d ps [.none,.none]->Binds K d ps [.none,.none,.none]->R):R:=g _ {{{_,_,_,_,_,_,_,_,_,_,rfl,l,e},λs us hK hl=>by rw[List.append_nil]at hl⊢;exact b s us (hK _ _ t) hl},k,mg_of X G a} (λs us hK hl=>b2 s us (hK _ _ t)<|by simpa using hl) λs us hK hl=>b3 s us (hK _ _ t)<|by simpa using hl
variable{Q:List Value->Prop}
theorem Zo(h:∀a b c d,Q [a,b,c,d])(us:List Value)(e:us.length+2=6):Q us:=Wv h us<|by lia
theorem Zp(h:∀a b c,Q [a,b,c])(us:List Value)(e:us.length+3=6):Q us:=Rx h us<|by lia
end
noncomputable def fk(N:Nat)(v:Nat->Value):Array Value:=((List.range N).map v).toArray
structure ZN(n N:Nat)(l:Nat->Addr)(i:Nat)(h:Heap):Prop where
 z:IsZip h (n+N+2) (n+N) (n+N+1) .none
 t:l7 h (n+N) (fk N λj=>.ref<|n+j)
 o:∃arr:Array Value,arr.size=N/\l7 h (n+N+1) arr
 it:∀j,j<N->h.IsTupleIter (n+j) (l j) i
theorem j8:(fk N v).size=N:=by unfold fk;simp
theorem jt:(fk N v).toList.length=N:=by unfold fk;simp
theorem LP(h:arr.size=N)(e:∀j,j<N->arr[j]?=some (v j)):arr=fk N v:=by refine Array.ext (by rw[h,j8]) λj h1 h2=>?_;have:=e j (by lia);rw[Array.getElem?_eq_getElem h1]at this;rw[zU this];simp[fk]
section
variable{prog:Program}{w:World}{A:Around}{E:Value->Shared->Prop}{s:Shared}{n N:Nat}{l:Nat->Addr}{i:Nat}{xs:Nat->Array Value}
theorem FE{v:Nat->Value}{Q:Value->Shared->Prop}(h1:1<=N)(h3:N<=3)(lt:∀j,j<N->l j<n)(hs:ZN n N l i s.heap)(tu:∀j,j<N->s.heap.IsTuple (l j) (xs j))(ev:∀j,j<N->(xs j)[i]?=some (v j)) (hQ:∀h',IsZip h' (n+N+2) (n+N) (n+N+1) (rawInt s.heap.objs.size)->l7 h' (n+N+1) (fk N v)->(∀j,j<N->h'.IsTupleIter (n+j) (l j) (i+1))->l7 h' s.heap.objs.size (fk N v)->(∀c o,c≠n+N+2->c≠n+N+1->(∀j,j<N->c≠n+j)->s.heap.get? c=some o->h'.get? c=some o)->Q (.ref s.heap.objs.size) {s with heap:=h'}): wpAny (model prog w) A (Builtin.«zip.__next__» {[.ref<|n+N+2],[]}) (λfin s'=>∃v,fin=.done (.ret v)/\Q v s') E s:=by
 obtain⟨hz,hI,⟨arr,na,hO⟩,hit⟩:=hs;show wpAny _ _ (field (.ref<|n+N+2) 2 >>=_) _ _ _;refine zc<|ya hz rfl (x:=.bool false) rfl ?_;show wpAny _ _ (field (.ref<|n+N+2) 3 >>=_) _ _ _;refine zc<|ya hz rfl (x:=.ref<|n+N) rfl ?_;refine zc<|wpAny_seqItems hI rfl ?_;have he:(fk N λj=>Value.ref<|n+j).isEmpty=false:=by rw[Array.isEmpty_eq_false_iff];intro e;have:=congrArg Array.size e;rw[j8]at this;simp at this;lia
 dsimp only;rw[if_neg<|by rw[he];exact ze];refine zc ?_;unfold Builtin.SmallTypes.ownedTupleIsFree;refine zc<|ya hz rfl (x:=.none) rfl<|zm ?_;simp only[if_true];refine zc<|yX ?_;refine zc<|ya hz rfl (x:=.ref<|n+N+1) rfl ?_;refine zc<|wpAny_setField_rec hz (by simp) λh0 LQ q0=>?_;replace LQ:IsZip h0 (n+N+2) (n+N) (n+N+1) .ellipsis:=LQ;have k0:∀c o,c≠n+N+2->s.heap.get? c=some o->h0.get? c=some o:=λc o d e=>q0.extBut _ _ d e;refine zc<|wpAny_forIn_list _ (λrest b s'=>∃(k:Nat)(h':Heap)(a':Array Value),k<=N/\rest=((fk N λj=>Value.ref<|n+j).toList.zipIdx).drop k/\b=(none,())/\s'={s with heap:=h'}/\l7 h' (n+N+1) a'/\a'.size=N/\(∀j,j<k->a'[j]?=some (v j))/\(∀j,j<N->h'.IsTupleIter (n+j) (l j) (if j<k then i+1 else i))/\IsZip h' (n+N+2) (n+N) (n+N+1) .ellipsis/\h'.objs.size=s.heap.objs.size/\(∀c o,c≠n+N+2->c≠n+N+1->(∀j,j<N->c≠n+j)->s.heap.get? c=some o->h'.get? c=some o)) _ ?_ ?_ _ _ ?_;rintro x rest b s' ⟨k,h',a',hk,e1,rfl,rfl,O,ha,hv,J,Z,sz,kp⟩;have dw:k<N:=by have:=congrArg List.length e1;rw[zQ,List.length_drop,List.length_zipIdx,jt]at this;lia
 have e2:((fk N λj=>Value.ref<|n+j).toList.zipIdx).drop k=(Value.ref<|n+k,k)::((fk N λj=>Value.ref<|n+j).toList.zipIdx).drop (k+1):=by rw[yi<|by rw[List.length_zipIdx,jt];exact dw];simp[fk]
 rw[e2]at e1;cases e1;have lk:@LT.lt Nat _ (l k) n:=lt k dw;have Jk:=J k dw;rw[if_neg<|yE _]at Jk;have T0:Heap.IsTuple h' (l k) (xs k):=by obtain⟨o,a1,a2⟩:=tu k dw;exact{o,kp _ _ (by show @Ne Nat _ _;lia) (by show @Ne Nat _ _;lia) (λj _=>by show @Ne Nat _ _;lia) a1,a2}
 refine zc<|wpAny_onRaise ?_;show wpAny _ _ (Builtin.SmallTypes.nextOf (.ref<|n+k) >>=_) _ _ _;refine zc<|BK (s:={s with heap:=h'}) Jk T0 (ev k dw) λg1 m0 q1=>zm ?_;have O1:l7 g1 (n+N+1) a':=q1.extBut _ _ (by show @Ne Nat _ _;lia) O;refine zc<|wpAny_seqItems (s:={s with heap:=g1}) O1 rfl ?_;refine zc<|Fh (s:={s with heap:=g1}) O1 (by lia) λg2 O2 q2=>?_;refine zc<|wpAny_letGo<|zm ?_;refine{k+1,g2,_,dw,rfl,rfl,rfl,O2,by rw[Array.size_setIfInBounds];exact ha,λj hj=>?_,λj hj=>?_,q2.extBut _ _ (by show @Ne Nat _ _;lia)<|q1.extBut _ _ (by show @Ne Nat _ _;lia) Z,by rw[q2.1,q1.1];exact sz,λc o d1 d2 d3 e=>q2.extBut _ _ d2<|q1.extBut _ _ (d3 k dw)<|kp c o d1 d2 d3 e};by_cases z:j=k;subst z;rw[Array.getElem?_setIfInBounds_self_of_lt<|by lia];rw[Array.getElem?_setIfInBounds_ne<|Ne.symm z];exact hv j (by lia);by_cases z:j=k;subst z;rw[if_pos<|Nat.lt_succ_self _];exact vG q2.extBut (by show @Ne Nat _ _;lia) m0;have:=J j hj;rw[show(if j<k+1 then i+1 else i)=if j<k then i+1 else i by by_cases y:j<k;rw[if_pos y,if_pos<|by lia];rw[if_neg y,if_neg<|by lia]];exact vG q2.extBut (by show @Ne Nat _ _;lia)<|vG q1.extBut (by show @Ne Nat _ _;lia) this;rintro b s' ⟨k,h',a',hk,e1,rfl,rfl,O,ha,hv,J,Z,sz,kp⟩;have dw:k=N:=by have:=congrArg List.length e1;rw[List.length_nil,List.length_drop,List.length_zipIdx,jt]at this;lia
 subst dw;have ea:=LP ha hv;subst ea;refine zc<|wpAny_seqItems (s:={s with heap:=h'}) O rfl ?_;refine zc<|wpAny_newTuple ?_ (hsz:=by rw[jt];exact X6 h3);have lz:n+k+2<h'.objs.size:=zw Z;show wpAny _ _ (Builtin.SmallTypes.ownedTupleHandOut (.ref<|n+k+2) (.ref h'.objs.size) >>=_) _ _ _;refine zc ?_;unfold Builtin.SmallTypes.ownedTupleHandOut;have hzM:IsZip (h'.push {cls:=.type "tuple",data:=.seq<|fk k v}) (n+k+2) (n+k) (n+k+1) .ellipsis:=za _ Z;refine zc<|wpAny_setField_rec (s:={s with heap:=h'.push {cls:=.type "tuple",data:=.seq<|fk k v}}) hzM (by simp) λg1 Ry r1=>?_;replace Ry:IsZip g1 (n+k+2) (n+k) (n+k+1) (rawInt h'.objs.size):=Ry;refine wpAny_setField_rec (s:={s with heap:=g1}) Ry (by simp) λg2 Ib r2=>?_;replace Ib:IsZip g2 (n+k+2) (n+k) (n+k+1) (rawInt h'.objs.size):=Ib;have up:∀c o,c≠n+k+2->h'.get? c=some o->g2.get? c=some o:=λc o d e=>r2.extBut _ _ d<|r1.extBut _ _ d<|za _ e;have hT:l7 g2 h'.objs.size (fk k v):=r2.extBut _ _ (yx lz)<|r1.extBut _ _ (yx lz)<|zk _ rfl;rw[sz]at Ib hT;refine zm !⟨?_⟩;show Q (.ref h'.objs.size) _;rw[sz];refine hQ g2 Ib (up _ _ (by show @Ne Nat _ _;lia) O) (λj hj=>?_) hT λc o d1 d2 d3 e=>up c o d1<|kp c o d1 d2 d3 e;have:=J j hj;rw[if_pos hj]at this;exact MX (λo e=>up _ o (by show @Ne Nat _ _;lia) e) this;refine{0,h0,arr,zT _,rfl,rfl,rfl,k0 _ _ (by show @Ne Nat _ _;lia) hO,na,λj hj=>absurd hj<|Nat.not_lt_zero _,λj hj=>?_,LQ,q0.1,λc o d _ _ e=>k0 c o d e};rw[if_neg<|Nat.not_lt_zero _];obtain⟨o,a1,a2⟩:=hit j hj;exact{o,k0 _ _ (by show @Ne Nat _ _;lia) a1,a2}
theorem Iq(h1:1<=N)(hh:A.handled=none)(hs:ZN n N l i s.heap)(lt:l 0<n)(t0:s.heap.IsTuple (l 0)<|xs 0)(e0:(xs 0)[i]?=none) (hE:∀h' e,(∀c o,c≠n+N+2->c≠n+0->s.heap.get? c=some o->h'.get? c=some o)->(∃o,h'.get? e=some o/\o.cls=.type "StopIteration")->E (.ref e) {s with heap:=h'}): wpAny (model prog w) A (Builtin.«zip.__next__» {[.ref<|n+N+2],[]}) Q E s:=by
 obtain⟨hz,hI,⟨arr,na,hO⟩,hit⟩:=hs;show wpAny _ _ (field (.ref<|n+N+2) 2 >>=_) _ _ _;refine zc<|ya hz rfl (x:=.bool false) rfl ?_;show wpAny _ _ (field (.ref<|n+N+2) 3 >>=_) _ _ _;refine zc<|ya hz rfl (x:=.ref<|n+N) rfl ?_;refine zc<|wpAny_seqItems hI rfl ?_;have he:(fk N λj=>Value.ref<|n+j).isEmpty=false:=by rw[Array.isEmpty_eq_false_iff];intro e;have:=congrArg Array.size e;rw[j8]at this;simp at this;lia
 dsimp only;rw[if_neg<|by rw[he];exact ze];refine zc ?_;unfold Builtin.SmallTypes.ownedTupleIsFree;refine zc<|ya hz rfl (x:=.none) rfl<|zm ?_;simp only[if_true];refine zc<|yX ?_;refine zc<|ya hz rfl (x:=.ref<|n+N+1) rfl ?_;refine zc<|wpAny_setField_rec hz (by simp) λh0 LQ q0=>?_;replace LQ:IsZip h0 (n+N+2) (n+N) (n+N+1) .ellipsis:=LQ;have lk:@LT.lt Nat _ (l 0) n:=lt;have J0:Heap.IsTupleIter h0 (n+0) (l 0) i:=by obtain⟨o,a1,a2⟩:=hit 0 h1;exact{o,q0.extBut _ _ (by show @Ne Nat _ _;lia) a1,a2}
 have T0:Heap.IsTuple h0 (l 0) (xs 0):=by obtain⟨o,a1,a2⟩:=t0;exact{o,q0.extBut _ _ (by show @Ne Nat _ _;lia) a1,a2}
 have e2:(fk N λj=>Value.ref<|n+j).toList.zipIdx=(Value.ref<|n+0,0)::((fk N λj=>Value.ref<|n+j).toList.zipIdx).drop 1:=by have:=yi (l:=(fk N λj=>Value.ref<|n+j).toList.zipIdx) (i:=0) (by rw[List.length_zipIdx,jt];exact h1);rw[List.drop_zero]at this;rw[this];simp[fk]
 rw[e2,List.forIn_cons];refine zc<|zc<|zc<|wpAny_onRaise ?_;show wpAny _ _ (Builtin.SmallTypes.nextOf (.ref<|n+0) >>=_) _ _ _;refine zc<|rf (s:={s with heap:=h0}) hh J0 T0 e0 λh1 e q1 he=>?_;obtain⟨oe,Zr,hce⟩:=he;have Ry:IsZip h1 (n+N+2) (n+N) (n+N+1) .ellipsis:=q1 _ _ (by show @Ne Nat _ _;lia) LQ;have ez:e≠n+N+2:=λx=>by subst x;rw[Ry]at Zr;cases Zr;simp at hce
 refine wpAny_setField_rec (s:={s with heap:=h1}) Ry (by simp) λh2 _ q2=>hE h2 e (λc o dz d0 x=>q2.extBut _ _ dz<|q1 _ _ d0<|q0.extBut _ _ dz x) {oe,q2.extBut _ _ ez Zr,hce}
end
noncomputable def P4(K:Frag)(N:Nat)(l:Nat->Addr):It:={λi H=>∃(xs:Nat->List V)(x:Nat->V),∀j,j<N->iM K H (l j) (xs j)/\(xs j)[i]?=some (x j),λi H y H'=>∃T,H T=none/\y=.ref T/\∀(xs:Nat->List V)(x:Nat->V),(∀j,j<N->iM K H (l j) (xs j)/\(xs j)[i]?=some (x j))->H'=upd H T (.tup<|(List.range N).map x),λi H=>∃xs:Nat->List V,(∀j,j<N->iM K H (l j) (xs j))/\(xs 0).length<=i}
noncomputable def Rz(n N:Nat):List Addr:=(List.range<|N+3).map λj=>n+j
theorem qB(h:b∈Rz n N):∃j,j<N+3/\b=n+j:=by obtain⟨j,hj,e⟩:=zi.mp h;exact{j,zV.mp hj,e.symm}
theorem fm(h:j<N+3):(n+j:Nat)∈Rz n N:=zi.mpr {j,zV.mpr h,rfl}
theorem B_(h:∀j,j<N->RelV (x j) (u j)):Vals ((List.range N).map x) ((List.range N).map u):=by
 have:∀l:List Nat,(∀j∈l,j<N)->Vals (l.map x) (l.map u):=by intro l;induction l with|nil=>exact λ_=>.nil|cons a l ih=>exact λhl=>.cons (h a<|hl a zp)<|ih λj hj=>hl j<|zh _ hj
 exact this _ λj hj=>zV.mp hj
theorem uP{P:Program}{w:World}{K:Frag}{es:List Expr}{kk:Nat}{tp:Pos}{n N:Nat}{l:Nat->Addr}(h1:1<=N)(h3:N<=3)(lt:∀j,j<N->l j<n):Turn P w K (.Tuple es kk tp) (P4 K N l) (Rz n N) (n+N+2) (ZN n N l) where
 mem:=fm (j:=N+2)<|by lia
 obj:=λi h st b hb=>by
  obtain⟨j,hj,rfl⟩:=qB hb
  by_cases q:j<N
  ·obtain⟨o,e,c,d⟩:=st.it j q;exact{o,e,λv z=>by rw[d]at z;cases z}
  ·obtain⟨arr,na,hO⟩:=st.o
   have:j=N\/j=N+1\/j=N+2:=by lia
   rcases this with rfl|rfl|rfl
   ·exact{_,st.t,λv z=>by cases z}
   ·exact{_,hO,λv z=>by cases z}
   ·exact{_,st.z,λv z=>by cases z}
 keep:=λi h h' st k=>by
  obtain⟨hz,hI,⟨arr,na,hO⟩,J⟩:=st
  exact{k _ (fm (j:=N+2)<|by lia) _ hz,k _ (fm (j:=N)<|by lia) _ hI,{arr,na,k _ (fm (j:=N+1)<|by lia) _ hO},λj hj=>MX (λo e=>k _ (fm<|by lia) o e)<|J j hj}
 item:=by
  intro X hP hw hK hc i pins s σ H E I hf st hg
  subst hP hw hK
  obtain⟨xs,x,hx⟩:=hg
  have ex:∀j,∃(az:List Value)(u:Value),j<N->Vals (xs j) az/\s.heap.IsTuple (l j) az.toArray/\az[i]?=some u/\RelV (x j) u:=λj=>by
   by_cases q:j<N
   ·obtain⟨az,rv,p,_⟩:=I.tuple (hx j q).1
    obtain⟨u,hu,ru⟩:=rv.get (hx j q).2
    exact{az,u,λ_=>⟨rv,p,hu,ru⟩}
   ·exact{[],.none,λh=>absurd h q}
  have fx:=Classical.axiomOfChoice ex
  obtain⟨az,fx⟩:=fx
  obtain⟨u,fx⟩:=Classical.axiomOfChoice fx
  have hT:s.TypeIs (.ref<|n+N+2) "zip":={_,st.z,rfl}
  have lz:@LT.lt Nat _ (n+N+2) s.heap.objs.size:=zw st.z
  unfold pyNext
  refine zc<|wpAny_attempt<|wpAny_callSpecial?_slot (name:=Str.ofString "__next__") hT F.slot_zip_next<|yJ F.slot_zip_next hT F.entry_zip_next (FE h1 h3 lt st (xs:=λj=>(az j).toArray) (v:=u) (λj hj=>(fx j hj).2.1) (λj hj=>by simpa using (fx j hj).2.2.1) λg1 z1 O1 m1 T1 kp=>zm !⟨?_⟩)<|F.args_zip_next_1 _
  refine wpAny_letOwnedTupleGo_zip (s:={s with heap:=g1}) z1 λg2 z2 r2=>?_
  have Wt:∀c o,c∉Rz n N->s.heap.get? c=some o->g2.get? c=some o:=λc o hc e=>r2.extBut _ _ (λz=>hc<|z ▸ fm (j:=N+2) (by lia))<|kp c o (λz=>hc<|z ▸ fm (j:=N+2) (by lia)) (λz=>hc<|z ▸ fm (j:=N+1) (by lia)) (λj hj z=>hc<|z ▸ fm (by lia)) e
  have T2:l7 g2 s.heap.objs.size (fk N u):=r2.extBut _ _ (yx lz) T1
  have I2:Inv X pins σ (upd H s.heap.objs.size<|.tup<|(List.range N).map x) {s with heap:=g2}:=I.K3 (t':=s.toks) (Rz n N) hf Wt (Heap.get?_none_of_le<|zq _) {by rw[zb,List.length_range];exact X5<|zD h3<|by decide,_,B_ λj hj=>(fx j hj).2.2.2,{_,T2,rfl,rfl,_,rfl}}
  refine{.ref s.heap.objs.size,_,I2,rfl,{_,I.aK.fresh<|zq _,rfl,λys y hy=>?_},{z2,?_,{_,j8,r2.extBut _ _ (by show @Ne Nat _ _;lia) O1},λj hj=>vG r2.extBut (by show @Ne Nat _ _;lia)<|m1 j hj},λb hb=>?_}
  ·congr 2
   refine zS λj hj=>?_
   have hj:=zV.mp hj
   have:=I.nD (hy j hj).1 (hx j hj).1
   have e:=(hy j hj).2
   rw[this,(hx j hj).2]at e
   exact zU e
  ·exact r2.extBut _ _ (by show @Ne Nat _ _;lia) (kp _ _ (by show @Ne Nat _ _;lia) (by show @Ne Nat _ _;lia) (λj hj=>by show @Ne Nat _ _;lia) st.t)
  ·obtain⟨j,hj,rfl⟩:=qB hb
   rw[ax<|by show @Ne Nat _ _;lia]
   exact(hf _ hb).1
 done:=by
  intro X hP hw hK hc i pins s σ H E I hf st hg
  subst hP hw hK
  obtain⟨xs,hx,hl⟩:=hg
  obtain⟨Ir,Zs,p0,_⟩:=I.tuple<|hx 0 h1
  have hT:s.TypeIs (.ref<|n+N+2) "zip":={_,st.z,rfl}
  have RA:=Zs.length
  unfold pyNext
  refine zc<|wpAny_attempt<|wpAny_callSpecial?_slot (name:=Str.ofString "__next__") hT F.slot_zip_next<|yJ F.slot_zip_next hT F.entry_zip_next (Iq h1 (I.ok.hd hc) st (lt 0 h1) (xs:=λ_=>Ir.toArray) p0 (by simp;lia) λh1 e kp he=>?_)<|F.args_zip_next_1 _
  obtain⟨o,ho,LB⟩:=he
  refine zc<|wpAny_isInstance (T:="StopIteration") (b:=true) ⟨o,ho,LB⟩ isSubtype_stop<|zm {rfl,?_}
  exact I.K2 (t':=s.toks) (Rz n N) hf λc o hc e=>kp c o (λz=>hc<|z ▸ fm (j:=N+2) (by lia)) (λz=>hc<|z ▸ fm (j:=0) (by lia)) e
 self:=λA' i s Q E st h=>wpAny_pyIter_zip st.z h
noncomputable def two(a b:Addr):Nat->Addr:=λj=>if j=0 then a else b
noncomputable def P5(a b c:Addr):Nat->Addr:=λj=>if j=0 then a else if j=1 then b else c
theorem Ww{p:Nat->Prop}(h0:p 0)(h1:p 1):∀j,j<2->p j|0,_=>h0|1,_=>h1|j+2,h=>by lia
theorem Wx{p:Nat->Prop}(h0:p 0)(h1:p 1)(h2:p 2):∀j,j<3->p j|0,_=>h0|1,_=>h1|2,_=>h2|j+3,h=>by lia
section
variable{X:Cx}{a b c:Expr}{ta:TA}{p pos tp:Pos}{es:List Expr}{kk:Nat}
theorem P6(hg:Gl X "zip")(hm:X.mg "zip"= none)(ha:PA X [a,b] ta)(hs:starEach [a,b] X.env=[(false,eval a X.env),(false,eval b X.env)])(vj:starEach [b] X.env=[(false,eval b X.env)]): PI X (.Tuple es kk tp) (.Call (.Name "zip" p) [a,b] [] pos) (λσ H R=>ta σ H λvs H1=>∃l0 l1,vs=[.ref l0,.ref l1]/\(∃xs,iM X.K H1 l0 xs)/\(∃xs,iM X.K H1 l1 xs)/\R (P4 X.K 2<|two l0 l1) H1):=by intro pins s σ H R I h;refine Call_<|gu I hg hm boot_zip<|PyProof.Rows.callWith_type1 (bz (ha pos pins s σ H _ I h) λus s1 ⟨vs,H1,I1,r1,q1⟩=>?_) (by rw[hs,vj]) (by rw[vj];rfl);obtain⟨l0,l1,e,⟨BL,q0⟩,⟨BM,q2⟩,q⟩:=q1;subst e;obtain⟨u,v,rfl,r,r'⟩:=r1.two;cases r;cases r';obtain⟨Ir,Zs,p0,_⟩:=I1.tuple q0;obtain⟨P7,UJ,p1,_⟩:=I1.tuple q2;refine BP (show s1.heap.IsTuple l0 Ir.toArray from p0) (show s1.heap.IsTuple l1 P7.toArray from p1) λh' zs kp=>?_;have zn:ZN s1.heap.objs.size 2 (two l0 l1) 0 h':={zs.1,zs.2.1,zs.2.2.1,Ww zs.2.2.2.1 zs.2.2.2.2};refine wpAny_pyIter_zip (s:={s1 with heap:=h'}) zs.1 {_,_,_,_,H1,rfl,I1.kept (t':=s1.toks) kp,uP (by decide) (by decide)<|Ww p0.lt p1.lt,zn,λb hb=>?_,q};obtain⟨j,_,rfl⟩:=qB hb;exact I1.pQ (Nat.le_add_right _ _)<|I1.aK.fresh<|Nat.le_add_right _ _
theorem P8(hg:Gl X "zip")(hm:X.mg "zip"= none)(ha:PA X [a,b,c] ta)(hs:starEach [a,b,c] X.env=[(false,eval a X.env),(false,eval b X.env),(false,eval c X.env)])(vj:starEach [b,c] X.env=[(false,eval b X.env),(false,eval c X.env)]): PI X (.Tuple es kk tp) (.Call (.Name "zip" p) [a,b,c] [] pos) (λσ H R=>ta σ H λvs H1=>∃l0 l1 l2,vs=[.ref l0,.ref l1,.ref l2]/\(∃xs,iM X.K H1 l0 xs)/\(∃xs,iM X.K H1 l1 xs)/\(∃xs,iM X.K H1 l2 xs)/\R (P4 X.K 3<|P5 l0 l1 l2) H1):=by intro pins s σ H R I h;refine Call_<|gu I hg hm boot_zip<|PyProof.Rows.callWith_type1 (bz (ha pos pins s σ H _ I h) λus s1 ⟨vs,H1,I1,r1,q1⟩=>?_) (by rw[hs,vj]) (by rw[vj];rfl);obtain⟨l0,l1,l2,e,⟨BL,q0⟩,⟨BM,q2⟩,⟨Ri,q3⟩,q⟩:=q1;subst e;obtain⟨u,v,z,rfl,r,r',r''⟩:=r1.three;cases r;cases r';cases r'';obtain⟨Ir,Zs,p0,_⟩:=I1.tuple q0;obtain⟨P7,UJ,p1,_⟩:=I1.tuple q2;obtain⟨tJ,Rw,p2,_⟩:=I1.tuple q3;refine BW (show s1.heap.IsTuple l0 Ir.toArray from p0) (show s1.heap.IsTuple l1 P7.toArray from p1) (show s1.heap.IsTuple l2 tJ.toArray from p2) λh' zs kp=>?_;have zn:ZN s1.heap.objs.size 3 (P5 l0 l1 l2) 0 h':={zs.1,zs.2.1,zs.2.2.1,Wx zs.2.2.2.1 zs.2.2.2.2.1 zs.2.2.2.2.2};refine wpAny_pyIter_zip (s:={s1 with heap:=h'}) zs.1 {_,_,_,_,H1,rfl,I1.kept (t':=s1.toks) kp,uP (by decide) (by decide)<|Wx p0.lt p1.lt p2.lt,zn,λb hb=>?_,q};obtain⟨j,_,rfl⟩:=qB hb;exact I1.pQ (Nat.le_add_right _ _)<|I1.aK.fresh<|Nat.le_add_right _ _
end
section
variable{K:Frag}{X:Cx}{a c e:Expr}{t:iS}{p pos tp:Pos}{es:List Expr}{kk:Nat}
theorem izn(hm:X.mg "zip"= none)(ha:DA K X [a,c] t)(hg:autoParam (Gl X "zip") qQJ)(hs:autoParam (starEach [a,c] X.env=[(false,eval a X.env),(false,eval c X.env)]) qQJ)(vj:autoParam (starEach [c] X.env=[(false,eval c X.env)]) qQJ)(hK:autoParam (X.K=K) qQJ): DI K X (.Tuple es kk tp) (.Call (.Name "zip" p) [a,c] [] pos) (Us t):=by subst hK;exact⟨λy=>(P6 (X:=y.cx) hg hm (ha.of y) hs vj).mono λτ H R ⟨σ,S,RI,Z,aA,hS,q,hR,hZ⟩=>{σ,S,_,Z,aA,hS,q,λds S1 vs H1 ⟨xs,ys,e,hl,r1⟩ v1 s1 k1=>by subst e;obtain⟨v,u,rfl,ra,rb⟩:=v1.two;obtain⟨a,va,rfl,qa,ta⟩:=ra.tup;obtain⟨b,vb,rfl,qb,tb⟩:=rb.tup;refine{a,b,rfl,{va,.of qa},{vb,.of qb},hR _ S1 _ H1 r1 (λi S2 H2 k2 s2 _=>?_) s1 k1};have UZ:iM X.K H2 a va:=.of<|k2.t _ _ qa;have U0:iM X.K H2 b vb:=.of<|k2.t _ _ qb;have la:va.length=xs.length:=ta.len;let f:Nat->List V:=λj=>if j=0 then va else vb;refine{λd hd=>?_,λh=>{f,Ww UZ U0,by show va.length<=i;unfold cG at h;rw[List.length_zipWith]at h;lia}};unfold cG at hd;obtain⟨x,y',e1,e2,e3⟩:=List.getElem?_zipWith_eq_some.mp hd;subst e3;obtain⟨vx,f1,g1⟩:=(RvAll.ts k2 _ ta).get e1;obtain⟨vy,f2,g2⟩:=(RvAll.ts k2 _ tb).get e2;let g:Nat->V:=λj=>if j=0 then vx else vy;have ok:∀j,j<2->iM X.K H2 (two a b j) (f j)/\(f j)[i]?=some (g j):=Ww ⟨UZ,f1⟩ ⟨U0,f2⟩;refine{⟨f,g,ok⟩,λx' H' ⟨T,hT,e4,e5⟩=>?_};have:=e5 f g ok;subst this e4;have kk:Kp X.K H2 (upd H2 T<|.tup [vx,vy]):=.new hT;exact{nM aD<|RvAll.ts kk _<|aI g1<|aI g2 br,kk,s2.grow hT},hZ}⟩
theorem Zt(hm:X.mg "zip"= none)(ha:DA K X [a,c,e] t)(hg:autoParam (Gl X "zip") qQJ)(hs:autoParam (starEach [a,c,e] X.env=[(false,eval a X.env),(false,eval c X.env),(false,eval e X.env)]) qQJ)(vj:autoParam (starEach [c,e] X.env=[(false,eval c X.env),(false,eval e X.env)]) qQJ)(hK:autoParam (X.K=K) qQJ): DI K X (.Tuple es kk tp) (.Call (.Name "zip" p) [a,c,e] [] pos) (P1 t):=by subst hK;exact⟨λy=>(P8 (X:=y.cx) hg hm (ha.of y) hs vj).mono λτ H R ⟨σ,S,RI,Z,aA,hS,q,hR,hZ⟩=>{σ,S,_,Z,aA,hS,q,λds S1 vs H1 ⟨xs,ys,zs,e,hl,GI,r1⟩ v1 s1 k1=>by subst e;obtain⟨v,u,w,rfl,ra,rb,rc⟩:=v1.thr;obtain⟨a,va,rfl,qa,ta⟩:=ra.tup;obtain⟨b,vb,rfl,qb,tb⟩:=rb.tup;obtain⟨c,vc,rfl,qc,tc⟩:=rc.tup;refine{a,b,c,rfl,{va,.of qa},{vb,.of qb},{vc,.of qc},hR _ S1 _ H1 r1 (λi S2 H2 k2 s2 _=>?_) s1 k1};have UZ:iM X.K H2 a va:=.of<|k2.t _ _ qa;have U0:iM X.K H2 b vb:=.of<|k2.t _ _ qb;have qc2:iM X.K H2 c vc:=.of<|k2.t _ _ qc;have la:va.length=xs.length:=ta.len;let f:Nat->List V:=λj=>if j=0 then va else if j=1 then vb else vc;refine{λd hd=>?_,λh=>{f,Wx UZ U0 qc2,by show va.length<=i;rw[la,<-nW hl GI];exact h}};obtain⟨x,y',z,e1,e2,e3,e4⟩:=nX hd;subst e4;obtain⟨vx,f1,g1⟩:=(RvAll.ts k2 _ ta).get e1;obtain⟨vy,f2,g2⟩:=(RvAll.ts k2 _ tb).get e2;obtain⟨vz,f3,g3⟩:=(RvAll.ts k2 _ tc).get e3;let g:Nat->V:=λj=>if j=0 then vx else if j=1 then vy else vz;have ok:∀j,j<3->iM X.K H2 (P5 a b c j) (f j)/\(f j)[i]?=some (g j):=Wx ⟨UZ,f1⟩ ⟨U0,f2⟩ ⟨qc2,f3⟩;refine{⟨f,g,ok⟩,λx' H' ⟨T,hT,e4,e5⟩=>?_};have:=e5 f g ok;subst this e4;have kk:Kp X.K H2 (upd H2 T<|.tup [vx,vy,vz]):=.new hT;exact{nM aD<|RvAll.ts kk _<|aI g1<|aI g2<|aI g3 br,kk,s2.grow hT},hZ}⟩
end
end L2
namespace My
open PySem L2
def top(i:Nat):Stmt:=PySem.Challenge.pw_pageturns_k32_gaps_and_stretches.main.body.getD i<|.Pass {0,0,0,0}
abbrev FF:Stmt:=top 20
abbrev Iu:Stmt:=top 21
abbrev FG:Stmt:=top 22
abbrev pZ:Stmt:=top 29
abbrev Ca:Stmt:=top 31
abbrev vU:Stmt:=top 34
abbrev kQ:Stmt:=top 44
abbrev lA:Stmt:=top 47
abbrev Cb:Stmt:=top 49
abbrev tU:Stmt:=top 57
abbrev Ac:Stmt:=top 58
abbrev Ad:Stmt:=top 62
abbrev rK:Stmt:=top 66
abbrev gI:Stmt:=top 68
abbrev gJ:Stmt:=top 69
abbrev fq:Stmt:=top 70
abbrev Cc:Stmt:=top 96
abbrev uQ:Stmt:=top 98
abbrev rL:Stmt:=top 99
abbrev uR:Stmt:=top 101
abbrev uS:Stmt:=top 102
abbrev Iv:Stmt:=top 106
abbrev LR:Stmt:=top 107
abbrev FH:Stmt:=top 108
abbrev FI:Stmt:=top 112
abbrev bA:Stmt:=top 87
structure ib where
 (nY lB FJ Ae FK Nt mi rM vV ju jv ir uT mj gL lC rN rO uU rP mm dS ao fW aP eT aH:Addr)
 (gM ft FL Af nZ Iw fX jw:FuncData)
 (mn n5 mq rQ kD Ag kE mr Ah:Tok)
 ts:List Addr
 (f Cd:Nat->Addr)
 (d P9:Nat->FuncData)
structure Txt(w:World)(K:Frag)(mg:Str->Option Value)(t:ib):Prop where
 fn:FC K mg top t.f t.d [17,18,19,20,21,22,23,24,25,26,29,30,31,32,33,34,35,41,42,43,44,45,46,47,48,49,50,51,57,58,59,60,61,62,63,65,66,67,69,75,76,77,78,79,80,81,82,83,84,88,90,91,92,93,94,95,96,97,98,99,100,101,102,103,104,105,106,107,108,109,110,111,112]
 eC:FD K t.ao "Shelf." bA t.Cd t.P9 [0,1,2,3,4,5,6,7,8,13]
 fu:Fz K mg "sorted_by_keys" (top 68) ["rows","way"] t.nY t.gM
 dU:Fz K mg "sorted_by_values" (top 70) ["columns","part","rows"] t.lB t.ft
 vW:Fz K mg "page_on" (top 73) ["shelf","order","sieve","size","gap","moment"] t.FJ t.FL
 n6:Fz K mg "page_back" (top 74) ["shelf","order","sieve","size","gap","moment"] t.Ae t.Af
 eX:Fz K mg "stretch" (top 85) ["shelf","order","sieve","fore","hinder","moment"] t.FK t.nZ
 Ai:Binds K t.nZ ["shelf","order","sieve","fore","hinder","moment"] [.none,.none]
 Aj:Binds K t.nZ ["shelf","order","sieve","fore","hinder","moment"] [.none,.none,.none]
 Zu:Fz K mg "law" (top 113) ["_law_script"] t.Nt t.Iw
 dj:Nr K t.ao "worths_at" "Shelf.worths_at" (inClass bA 9) ["self","key","moment"] t.mi t.fX
 eU:Binds K t.fX ["self","key","moment"] [.none]
 dF:Nr K t.ao "all_at" "Shelf.all_at" (inClass bA 10) ["self","moment"] t.rM t.jw
 n8:Binds K t.jw ["self","moment"] [.none]
 lE:mg "MOST_NAME_SIGNS"= some (.int 8 t.mn)
 mw:mg "MOST_KEY_SIGNS"= some (.int 12 t.n5)
 lF:mg "MOST_WORD_SIGNS"= some (.int 40 t.mq)
 p8:mg "MOST_COLUMNS"= some (.int 8 t.rQ)
 jx:mg "MOST_PARTS_orders"= some (.int 8 t.kD)
 vX:mg "MOST_DEEP"= some (.int 8 t.Ag)
 jy:mg "MOST_PARTS_sieves"= some (.int 200 t.kE)
 lG:mg "MOST_IN_A_TUPLE"= some (.int 8 t.mr)
 vY:mg "MOST_ROWS"= some (.int 1000 t.Ah)
 Iy:mg "KINDS"= some (.ref t.vV)
 Iz:∀H,Rv K H (.kt [.str "number",.str "word"])<|.ref t.vV
 vZ:mg "OTHER_WAY"= some (.ref t.ju)
 Al:JT w K t.ju [("up",.str "down"),("down",.str "up")]
 v5:mg "OTHER_END"= some (.ref t.jv)
 Am:JT w K t.jv [("first",.str "last"),("last",.str "first")]
 tV:mg "OTHER_SIDE"= some (.ref t.ir)
 v7:JT w K t.ir [("ahead",.str "behind"),("behind",.str "ahead")]
 Cf:mg "LENGTHS"= some (.ref t.uT)
 FN:JT w K t.uT [("every",.int 1),("is",.int 3),("below",.int 3),("above",.int 3),("begins",.int 3),("key",.int 2),("not",.int 2),("and",.int 2),("or",.int 2)]
 aX:mg "len"= none
 jz:mg "all"= none
 Nu:mg "any"= none
 av:mg "isinstance"= none
 eE:mg "range"= none
 Ao:mg "int"= none
 oZ:mg "str"= none
 P_:mg "bool"= none
 bu:mg "tuple"= none
 Qa:mg "list"= none
 IA:mg "dict"= none
 Nv:mg "set"= none
 IB:mg "zip"= none
 gN:mg "sorted"= none
 Nw:mg "min"= none
 U1:mg "max"= none
 U4:mg "sum"= none
 rR:mg "reversed"= none
 gy:mg "BadColumns"= some (.ref t.mj)
 dG:excIn K t.mj L2.nL "ValueError.__new__"= true
 j9:mg "BadRow"= some (.ref t.gL)
 gO:excIn K t.gL L2.nL "ValueError.__new__"= true
 eG:mg "BadOrder"= some (.ref t.lC)
 dq:excIn K t.lC L2.nL "ValueError.__new__"= true
 o9:mg "BadSieve"= some (.ref t.rN)
 iu:excIn K t.rN L2.nL "ValueError.__new__"= true
 eI:mg "BadPlace"= some (.ref t.rO)
 dr:excIn K t.rO L2.nL "ValueError.__new__"= true
 Ci:mg "BadSize"= some (.ref t.uU)
 n_:excIn K t.uU L2.nL "ValueError.__new__"= true
 FO:mg "HasKey"= some (.ref t.rP)
 rS:excIn K t.rP L2.nL "ValueError.__new__"= true
 IC:mg "NoKey"= some (.ref t.mm)
 v8:excIn K t.mm L2.nL "ValueError.__new__"= true
 Ap:mg "NoMoment"= some (.ref t.dS)
 lH:excIn K t.dS L2.nL "ValueError.__new__"= true
 ID:mg "Shelf"= some (.ref t.ao)
 ak:qQ K t.ao
 IE:Mk K t.ao (t.Cd 0)
 cR:findIn K (.ref t.ao) "columns"= some none
 cJ:findIn K (.ref t.ao) "deeds"= some none
 bT:findIn K (.ref t.ao) "runs"= some none
 fY:t.gM.code=.ref t.fW
 dH:codeHdIn K t.fW t.aP=true
 mx:t.aP∈t.ts
 eV:t.ft.code=.ref t.eT
 cX:codeHdIn K t.eT t.aH=true
 kF:t.aH∈t.ts
 np:[t.aP,t.aH].Nodup
 ta:∀b∈t.ts,b=t.aP\/b=t.aH
 bl:∀(s:Shared)(u:Value),BindsTo s t.Iw {[u],[]} [("_law_script",u)]
section
variable{w:World}{K:Frag}{mg:Str->Option Value}{t:ib}(T:Txt w K mg t)
def Txt.jA:=T.fn 17<|by decide
def Txt.gQ:=T.fn 18<|by decide
def Txt.oa:=T.fn 19<|by decide
def Txt.qC:=T.fn 20<|by decide
def Txt.lI:=T.fn 21<|by decide
def Txt.v9:=T.fn 22<|by decide
def Txt.v_:=T.fn 23<|by decide
def Txt.jB:=T.fn 24<|by decide
def Txt.compared:=T.fn 25<|by decide
def Txt.du:=T.fn 26<|by decide
def Txt.gz:=T.fn 29<|by decide
def Txt.og:=T.fn 30<|by decide
def Txt.my:=T.fn 31<|by decide
def Txt.dW:=T.fn 32<|by decide
def Txt.j_:=T.fn 33<|by decide
def Txt.lJ:=T.fn 34<|by decide
def Txt.cC:=T.fn 35<|by decide
def Txt.wa:=T.fn 41<|by decide
def Txt.Cj:=T.fn 42<|by decide
def Txt.wb:=T.fn 43<|by decide
def Txt.fZ:=T.fn 44<|by decide
def Txt.wc:=T.fn 45<|by decide
def Txt.jC:=T.fn 46<|by decide
def Txt.dX:=T.fn 47<|by decide
def Txt.oh:=T.fn 48<|by decide
def Txt.jD:=T.fn 49<|by decide
def Txt.eQ:=T.fn 50<|by decide
def Txt.rT:=T.fn 51<|by decide
def Txt.f_:=T.fn 57<|by decide
def Txt.oi:=T.fn 58<|by decide
def Txt.dI:=T.fn 59<|by decide
def Txt.jE:=T.fn 60<|by decide
def Txt.gA:=T.fn 61<|by decide
def Txt.passes:=T.fn 62<|by decide
def Txt.iw:=T.fn 63<|by decide
def Txt.cK:=T.fn 65<|by decide
def Txt.iy:=T.fn 66<|by decide
def Txt.rV:=T.fn 67<|by decide
def Txt.fw:=T.fn 69<|by decide
def Txt.lK:=T.fn 75<|by decide
def Txt.iz:=T.fn 76<|by decide
def Txt.oj:=T.fn 77<|by decide
def Txt.lL:=T.fn 78<|by decide
def Txt.eY:=T.fn 79<|by decide
def Txt.iA:=T.fn 80<|by decide
def Txt.lM:=T.fn 81<|by decide
def Txt.eJ:=T.fn 82<|by decide
def Txt.dy:=T.fn 83<|by decide
def Txt.qD:=T.fn 84<|by decide
def Txt.gb:=T.fn 88<|by decide
def Txt.fb:=T.fn 90<|by decide
def Txt.gf:=T.fn 91<|by decide
def Txt.qE:=T.fn 92<|by decide
def Txt.om:=T.fn 93<|by decide
def Txt.mz:=T.fn 94<|by decide
def Txt.Aq:=T.fn 95<|by decide
def Txt.rW:=T.fn 96<|by decide
def Txt.wd:=T.fn 97<|by decide
def Txt.iB:=T.fn 98<|by decide
def Txt.gR:=T.fn 99<|by decide
def Txt.we:=T.fn 100<|by decide
def Txt.ke:=T.fn 101<|by decide
def Txt.mB:=T.fn 102<|by decide
def Txt.iC:=T.fn 103<|by decide
def Txt.Ck:=T.fn 104<|by decide
def Txt.wg:=T.fn 105<|by decide
def Txt.wj:=T.fn 106<|by decide
def Txt.IF:=T.fn 107<|by decide
def Txt.wk:=T.fn 108<|by decide
def Txt.Co:=T.fn 109<|by decide
def Txt.gT:=T.fn 110<|by decide
def Txt.iD:=T.fn 111<|by decide
def Txt.wm:=T.fn 112<|by decide
def Txt.fz:=T.eC 0<|by decide
def Txt.fc:=T.eC 1<|by decide
def Txt.cS:=T.eC 2<|by decide
def Txt.dY:=T.eC 3<|by decide
def Txt.ck:=T.eC 4<|by decide
def Txt.bM:=T.eC 5<|by decide
def Txt.cn:=T.eC 6<|by decide
def Txt.aJ:=T.eC 7<|by decide
def Txt.fe:=T.eC 8<|by decide
def Txt.cq:=T.eC 13<|by decide
end
def Ar:=bJ<|top 17
def wo:=bJ<|top 18
def wq:=bJ<|top 19
def Cp:=bJ<|top 20
def FP:=bJ<|top 21
def Cq:=bJ<|top 22
def Cr:=bJ<|top 23
def As:=bJ<|top 24
def o_:=bJ<|top 25
def dQ:=bJ<|top 26
def oo:=bJ<|top 29
def wu:=bJ<|top 30
def Au:=bJ<|top 31
def tW:=bJ<|top 32
def wA:=bJ<|top 33
def tX:=bJ<|top 34
def Av:=bJ<|top 35
def FQ:=bJ<|top 41
def FR:=bJ<|top 42
def Cs:=bJ<|top 43
def fA:=bJ<|top 44
def Ct:=bJ<|top 45
def rX:=bJ<|top 46
def kG:=bJ<|top 47
def wB:=bJ<|top 48
def pb:=bJ<|top 49
def bD:=bJ<|top 50
def pe:=bJ<|top 51
def bE:=bJ<|top 57
def wC:=bJ<|top 58
def mC:=bJ<|top 59
def jF:=bJ<|top 60
def dZ:=bJ<|top 61
def uV:=bJ<|top 62
def p_:=bJ<|top 63
def mD:=bJ<|top 65
def iU:=bJ<|top 66
def gk:=bJ<|top 67
def mE:=bJ<|top 68
def cI:=bJ<|top 69
def kH:=bJ<|top 70
def Cu:=bJ<|top 73
def wD:=bJ<|top 74
def kR:=bJ<|top 75
def iV:=bJ<|top 76
def wF:=bJ<|top 77
def tY:=bJ<|top 78
def qd:=bJ<|top 79
def tZ:=bJ<|top 80
def t5:=bJ<|top 81
def rY:=bJ<|top 82
def cg:=bJ<|top 83
def rZ:=bJ<|top 84
def fB:=bJ<|top 85
def jG:=bJ<|top 88
def wG:=bJ<|top 90
def cL:=bJ<|top 91
def Cv:=bJ<|top 92
def cT:=bJ<|top 93
def r9:=bJ<|top 94
def Aw:=bJ<|top 95
def Ax:=bJ<|top 96
def d_:=bJ<|top 97
def cM:=bJ<|top 98
def eK:=bJ<|top 99
def fg:=bJ<|top 100
def r_:=bJ<|top 101
def fC:=bJ<|top 102
def t6:=bJ<|top 103
def gU:=bJ<|top 104
def FT:=bJ<|top 105
def FU:=bJ<|top 106
def mF:=bJ<|top 107
def cN:=bJ<|top 108
def FV:=bJ<|top 109
def dJ:=bJ<|top 110
def t9:=bJ<|top 111
def aQ:=bJ<|top 112
def jH:=bJ<|top 113
def mG:=bJ<|inClass bA 0
def wH:=bJ<|inClass bA 1
def qf:=bJ<|inClass bA 2
def t_:=bJ<|inClass bA 3
def i8:=bJ<|inClass bA 4
def gW:=bJ<|inClass bA 5
def dR:=bJ<|inClass bA 6
def jI:=bJ<|inClass bA 7
def wI:=bJ<|inClass bA 8
def fE:=bJ<|inClass bA 9
def eR:=bJ<|inClass bA 10
def i9:=bJ<|inClass bA 13
theorem sm(h:n<=1000):n<=sizeLine:=yH<|jZ h
theorem mH:0<=sizeLine:=sm<|by decide
theorem sj:1<=sizeLine:=sm<|by decide
theorem cu:2<=sizeLine:=sm<|by decide
theorem so:3<=sizeLine:=sm<|by decide
theorem ua:4<=sizeLine:=sm<|by decide
theorem Zv:6<=sizeLine:=sm<|by decide
theorem FW:8<=sizeLine:=sm<|by decide
theorem U5:12<=sizeLine:=sm<|by decide
def Gt(S:aw)(d:D):Prop:=(∃k,Pq S d k)/\∀z,d=.str z->z.cps.size<=1000
noncomputable def isLet(c:Nat):Bool:=decide (97<=c)&&decide (c<=122)
noncomputable def D5(c:Nat):Bool:=decide (48<=c)&&decide (c<=57)
noncomputable def D8(c:Nat):Bool:=decide (32<=c)&&decide (c<=126)
noncomputable def kT(z:Str):Bool:=decide (1<=z.cps.size)&&decide (z.cps.size<=8)&&z.cps.toList.all isLet
noncomputable def kI(z:Str):Bool:=decide (1<=z.cps.size)&&decide (z.cps.size<=12)&&(z.cps.toList.head?.any isLet)&&z.cps.toList.all λc=>isLet c||D5 c
noncomputable def pf(z:Str):Bool:=decide (z.cps.size<=40)&&z.cps.toList.all D8
noncomputable def ofStr(f:Str->Bool):D->Bool|.str z=>f z|_=>false
noncomputable def su:D->Bool|.int _=>true|_=>false
noncomputable def i_(kind:Str)(d:D):Bool:=ah d||if kind ="number" then su d else ofStr pf d
def LS(f:D->Bool):kC:=λds S R _=>∃d,ds=[d]/\Gt S d/\R (.bl<|f d) S
def IG(f:Nat->Bool):kC:=λds S R _=>∃c,ds=[.str ⟨#[c]⟩]/\R (.bl<|f c) S
theorem ph:∀{xs ys:List D}{a b:D},Paired rel xs ys->rel a b->Paired rel (xs++[a]) (ys++[b])|_,_,_,_,.nil,r=>.cons r .nil|_,_,_,_,.cons q t,r=>.cons q<|ph t r
theorem take_snoc{α:Type}{l:List α}{i:Nat}{d:α}(h:l[i]?=some d):l.take (i+1)=l.take i++[d]:=by rw[List.take_add_one,h];rfl
theorem fF{I:nQ}{S1:aw}{g:x_}{te:TD}{σ:SD}{src:List<|Option Nat}{R:KD}(rel:D->D->Prop)(aK:I.ok S1)(hz:I.xs.length<=1000) (step:∀d,d∈I.xs->∀Q:KD,(∀v,rel d v->Q v S1)->g d (ma σ src) S1 λfP S3=>te fP S3 Q Zf) (fin:∀out,Paired rel I.xs out->∀p,S1 p=none->R (.ref p) (S1.set p<|.lst out)): yZ σ src g mf te R I S1:=by
 refine{λi out S=>S=S1/\Paired rel (I.xs.take i) out,{rfl,.nil},λi out S h=>by rw[h.1];exact aK,?_,?_};rintro i d out S hd ⟨rfl,hp⟩;have hlen:=yN hp;rw[yp]at hlen;refine{jZ<|by lia,?_};have e:(λ(fP:SD)(S3:aw)=>mf fP S3 (λb S4=>if b=true then te fP S4 (λv S5=>S5=S/\Paired rel (I.xs.take<|i+1) (out++[v])) Zf else S4=S/\Paired rel (I.xs.take<|i+1) out) Zf)=λfP S3=>te fP S3 (λv S5=>S5=S/\Paired rel (I.xs.take<|i+1) (out++[v])) Zf:=by funext fP S3;simp[mf]
 rw[e];exact step d (zx hd) _ λv hv=>{rfl,by rw[take_snoc hd];exact ph hp hv};rintro out S2 ⟨rfl,hp⟩;rw[yz]at hp;exact fin out hp
theorem sv:∀{xs out:List D},Paired (λd v=>v=f d) xs out->out=xs.map f|_,_,.nil=>rfl|_,_,.cons r t=>by rw[r,sv t];rfl
theorem comp_map(f:D->D)(aK:I.ok S1)(hz:I.xs.length<=1000) (step:∀d,d∈I.xs->∀Q:KD,Q (f d) S1->g d (ma σ src) S1 λfP S3=>te fP S3 Q Zf) (fin:∀p,S1 p=none->R (.ref p) (S1.set p<|.lst<|I.xs.map f)): yZ σ src g mf te R I S1:=fF (λd v=>v=f d) aK hz (λd hd Q h=>step d hd Q<|h _ rfl) λout hp p RB=>by rw[sv hp];exact fin p RB
theorem gX{I:nQ}{S1:aw}{g:x_}{tc:l8}{te:TD}{σ:SD}{src:List<|Option Nat}{R:KD}(keep:D->Bool)(f:D->D)(aK:I.ok S1)(hz:I.xs.length<=1000) (step:∀d,d∈I.xs->∀(Q:KD)(Q':aw->Prop),(keep d=true->Q (f d) S1)->(keep d=false->Q' S1)->g d (ma σ src) S1 λfP S3=>tc fP S3 (λb S4=>if b=true then te fP S4 Q Zf else Q' S4) Zf) (fin:∀p,S1 p=none->R (.ref p) (S1.set p<|.lst<|(I.xs.filter keep).map f)): yZ σ src g tc te R I S1:=by refine{λi out S=>S=S1/\out=((I.xs.take i).filter keep).map f,⟨rfl,rfl⟩,λi out S h=>by rw[h.1];exact aK,?_,?_};rintro i d out S hd ⟨rfl,rfl⟩;have hlen:((I.xs.take i).filter keep).length<=(I.xs.take i).length:=ym _ _;rw[yp]at hlen;refine{by rw[zb];exact jZ<|by lia,?_};refine step d (zx hd) _ (λS4=>S4=S/\_=_) (λhk=>{rfl,?_}) λhk=>{rfl,?_};rw[take_snoc hd,List.filter_append,zJ,yq,if_pos hk];rfl;rw[take_snoc hd,List.filter_append,yq,if_neg<|by rw[hk];exact ze];simp;rintro out S2 ⟨rfl,rfl⟩;rw[yz];exact fin
variable{P:Program}{w:World}{K:Frag}{mg:Str->Option Value}{base:Heap}{t:ib}
theorem jJ(T:Txt w K mg t):Ok P w base T.jA 1 (LS su):=by
 refine T.jA.F.bS Ar ?_;obtain⟨d,e,⟨⟨k,hk⟩,hz⟩,q⟩;refine{_,(s1<|sr<|pV (cb cH T.av aq<|al 0<|ac (qx T.Ao q8) an)<|Fm<|Li<|cb cH T.av aq<|al 0<|ac (qx T.P_ KL) an),?_};refine !{_,_,_,_,rfl,KP,hk,_,rfl,?_};have:(BF k=true/\((su d=true/\vE k=false)\/(su d=false/\vE k=true)))\/(BF k=false/\su d=false):=by cases d with|au=>(cases hk;exact .inr ⟨rfl,rfl⟩)|bl b=>(cases hk;exact .inl {rfl,.inr ⟨rfl,rfl⟩})|int b=>(cases hk;exact .inl {rfl,.inl ⟨rfl,rfl⟩})|str b=>(cases hk;exact .inr ⟨rfl,rfl⟩)|tup b=>(cases hk;exact .inr ⟨rfl,rfl⟩)|ref a=>(rcases hk with⟨rfl,_⟩|⟨rfl,_⟩<;>exact .inr ⟨rfl,rfl⟩)|_=>exact hk.elim
 rcases this with⟨h1,h2⟩|⟨h1,h2⟩;rw[h1];refine dD !{_,_,_,_,rfl,Hy,hk,_,rfl,?_};rcases h2 with⟨h2,h3⟩|⟨h2,h3⟩<;>(rw[h3];rw[h2]at q;exact fo q);rw[h1];rw[h2]at q;exact a_<|fo q
theorem iE(T:Txt w K mg t):Ok P w base T.gQ 1 (IG isLet):=by refine T.gQ.F.bS wo ?_;obtain⟨c,e,q⟩;refine{_,(s1<|sr<|cc jn jn hr.u ds (dv 0) ds),?_};refine !!⟨?_⟩;have e1:GK "a" ⟨#[c]⟩=decide (97<=c):=j5 97 c;have e2:GK ⟨#[c]⟩ "z"= decide (c<=122):=j5 c 122;unfold isLet at q;refine bQ (λh=>?_) λh=>?_;rw[e1.symm.trans h,ye,<-e2]at q;exact fo q;rw[e1.symm.trans h,zW]at q;exact fo q
theorem wJ(T:Txt w K mg t):Ok P w base T.oa 1 (IG D5):=by refine T.oa.F.bS wq ?_;obtain⟨c,e,q⟩;refine{_,(s1<|sr<|cc jn jn hr.u ds (dv 0) ds),?_};refine !!⟨?_⟩;have e1:GK "0" ⟨#[c]⟩=decide (48<=c):=j5 48 c;have e2:GK ⟨#[c]⟩ "9"= decide (c<=57):=j5 c 57;unfold D5 at q;refine bQ (λh=>?_) λh=>?_;rw[e1.symm.trans h,ye,<-e2]at q;exact fo q;rw[e1.symm.trans h,zW]at q;exact fo q
theorem FX(h:d∈fi z):∃c,c∈z.cps.toList/\d=.str ⟨#[c]⟩:=by unfold fi at h;obtain⟨c,hc,e⟩:=zi.mp h;exact⟨c,hc,e.symm⟩
noncomputable def D9(f:Nat->Bool):D->D|.str z=>.bl (z.cps.toList.head?.any f)|_=>.au
theorem FY:(fi z).map (D9 f)=(z.cps.toList.map f).map D.bl:=by unfold fi;rw[zy,zy];rfl
theorem all_map{α:Type}{l:List α}{f:α->Bool} : (l.map f).all id=l.all f:=by rw[List.all_map];rfl
theorem oq{z:Str}{f:Nat->Bool}{g:x_}{te:TD}{σ:SD}{src:List<|Option Nat}{S:aw}{R:KD}{Z:KX}{i:Nat}(hv:σ[i]?=some (some<|.str z))(hz:z.cps.size<=1000) (step:∀c,c∈z.cps.toList->∀Q:KD,Q (.bl<|f c) S->g (.str ⟨#[c]⟩) (ma σ src) S λfP S3=>te fP S3 Q Zf) (q:R (.bl<|z.cps.toList.all f) S): V7 T6 (M0 (DN (Nf<|TB i) src g mf te) Lh) σ S (λd S'=>Fo S'<|R d) Z:=by refine{_,hv,z,rfl,?_};refine My.comp_map (I:={fi z,λ_=>True}) (D9 f) trivial (by show(fi z).length<=1000;unfold fi;rw[zb,z0];exact hz) (λd hd Q hQ=>?_) λp hp=>?_;obtain⟨c,hc,rfl⟩:=FX hd;exact step c hc Q (by simpa [D9]using hQ);refine{.ref p,z.cps.toList.map f,rfl,?_,S,.new hp,?_};show(S.set p<|.lst<|(fi z).map<|D9 f) p=_;rw[aa,FY];rw[all_map];exact q
theorem Cw{S:aw}{d:D}{k:Kd}(hk:Pq S d k):(∃z,d=.str z/\BG k=true)\/(BG k=false/\∀f,ofStr f d=false):=by cases d with|str b=>(cases hk;exact .inl ⟨b,rfl,rfl⟩)|au=>(cases hk;exact .inr {rfl,λ_=>rfl})|bl b=>(cases hk;exact .inr {rfl,λ_=>rfl})|int b=>(cases hk;exact .inr {rfl,λ_=>rfl})|tup b=>(cases hk;exact .inr {rfl,λ_=>rfl})|ref a=>(rcases hk with⟨rfl,_⟩|⟨rfl,_⟩<;>exact .inr {rfl,λ_=>rfl})|_=>exact hk.elim
theorem Qb{S:aw}{d:D}{k:Kd}(hk:Pq S d k):(∃ds,d=.tup ds/\q_ k=true)\/(q_ k=false/\∀ds,d≠.tup ds):=by cases d with|tup b=>(cases hk;exact .inl ⟨b,rfl,rfl⟩)|au=>(cases hk;exact .inr {rfl,λ_=>nofun})|bl b=>(cases hk;exact .inr {rfl,λ_=>nofun})|int b=>(cases hk;exact .inr {rfl,λ_=>nofun})|str b=>(cases hk;exact .inr {rfl,λ_=>nofun})|ref a=>(rcases hk with⟨rfl,_⟩|⟨rfl,_⟩<;>exact .inr {rfl,λ_=>nofun})|_=>exact hk.elim
theorem sx(T:Txt w K mg t):Ok P w base T.qC 2 (LS<|ofStr kT):=by
 refine T.qC.F.bS Cp ?_;obtain⟨d,e,⟨⟨k,hk⟩,hz⟩,q⟩;refine{_,(sc (si (twd<|twor (cy<|tv<|cb cH T.av aq<|al 0<|ac (qx T.oZ jl) an)<|tw1<|cy<|V6 jn jn hr.u di (cb ba T.aX aF<|al 0 an)<|dg (v:=.int 8) T.lE {_,rfl} λ_=>aO _) (s1<|sr db) s0)<|s1<|sr<|cb jq T.jz fh<|ac (tQ (N:=["sign"]) (src:=[none]) (jb (ae FF) ["thing"] rfl rfl<|by trivial) (PC<|dv 0) (oX<|show(["sign"]:List Str).Nodup by trivial) (aR rfl) aS (λ_ _ _ _ _=>nR) λ_ _ _ _ _=>(aL T.gQ (iE T) hr<|al 0 an)) an),?_};refine !{_,_,_,_,rfl,cQ,hk,_,rfl,?_};rcases Cw hk with⟨z,rfl,h0⟩|⟨h0,h1⟩;have hz:=hz z rfl;rw[h0];refine a_ ?_;refine !!⟨{sm hz,?_}⟩;refine{_,rfl,?_};have e1:decide ((1:Int)<=(z.length:Nat))=decide (1<=z.cps.size):=by rw[yO];show(1:Int)<=((z.cps.size:Nat):Int)↔_;omega
 have e2:decide (((z.length:Nat):Int)<=8)=decide (z.cps.size<=8):=by rw[yO];show((z.cps.size:Nat):Int)<=8↔_;omega
 unfold ofStr kT at q;dsimp only at q;refine bQ (λh2=>?_) λh2=>?_;rw[e1.symm.trans h2,ye]at q;refine{_,rfl,?_};refine bQ (λh3=>?_) λh3=>?_;rw[e2.symm.trans<|nt h3,zW]at q;exact fo q;rw[e2.symm.trans<|nf h3,ye]at q;exact oq rfl hz (λc hc Q hQ=>!⟨c,rfl,hQ⟩) q;rw[e1.symm.trans h2,zW,zW]at q;refine{_,rfl,?_};exact dD<|fo q;rw[h0];rw[h1]at q;exact dD<|dD<|fo q
def ay(c:Str×Str):D:=.tup [.str c.1,.str c.2]
def Gd(cs:List<|Str×Str):Prop:=cs.length<=8/\(cs.map Prod.fst).Nodup/\∀c∈cs,kT c.1=true/\(c.2 ="number"\/c.2 ="word")
noncomputable def mI(cs:List<|Str×Str):D->Bool|.tup ws=>decide (ws.length=cs.length)&&(List.zipWith (λc v=>i_ c.2 v) cs ws).all id|_=>false
noncomputable def ot(cs:List<|Str×Str)(k v:D):Bool:=ofStr kI k&&mI cs v
def RC(S:aw)(d:D):Prop:=Gt S d/\∀ws,d=.tup ws->ws.length<=1000/\∀v∈ws,Gt S v
theorem gY(T:Txt w K mg t):Ok P w base T.lI 2 (LS<|ofStr kI):=by
 refine T.lI.F.bS FP ?_;obtain⟨d,e,⟨⟨k,hk⟩,hz⟩,q⟩;refine{_,(sc (si (twd<|twor (cy<|tv<|cb cH T.av aq<|al 0<|ac (qx T.oZ jl) an)<|tw1<|cy<|V6 jn jn hr.u di (cb ba T.aX aF<|al 0 an)<|dg (v:=.int 12) T.mw {_,rfl} λ_=>aO _) (s1<|sr db) s0)<|sc (si (cy<|tv<|aL T.gQ (iE T) hr<|ac (ix hr.u (dv 0) di) an) (s1<|sr db) s0)<|s1<|sr<|cb jq T.jz fh<|ac (tQ (N:=["sign"]) (src:=[none]) (jb (ae Iu) ["thing"] rfl rfl<|by trivial) (PC<|dv 0) (oX<|show(["sign"]:List Str).Nodup by trivial) (aR rfl) aS (λ_ _ _ _ _=>nR) λ_ _ _ _ _=>(eor (aL T.gQ (iE T) hr<|al 0 an)<|Fm<|aL T.oa (wJ T) hr<|al 0 an)) an),?_};refine !{_,_,_,_,rfl,cQ,hk,_,rfl,?_};rcases Cw hk with⟨z,rfl,h0⟩|⟨h0,h1⟩;have hz:=hz z rfl;rw[h0];refine a_ ?_;refine !!⟨{sm hz,?_}⟩;refine{_,rfl,?_};have e1:decide ((1:Int)<=(z.length:Nat))=decide (1<=z.cps.size):=by rw[yO];show(1:Int)<=((z.cps.size:Nat):Int)↔_;omega
 have e2:decide (((z.length:Nat):Int)<=12)=decide (z.cps.size<=12):=by rw[yO];show((z.cps.size:Nat):Int)<=12↔_;omega
 unfold ofStr kI at q;dsimp only at q;refine bQ (λh2=>?_) λh2=>?_;have X4:=e1.symm.trans h2;rw[X4,ye]at q;refine{_,rfl,?_};refine bQ (λh3=>?_) λh3=>?_;rw[e2.symm.trans<|nt h3,zW,zW]at q;exact fo q;rw[e2.symm.trans<|nf h3,ye]at q;obtain⟨c,r,ec⟩:=len_pos (z:=z)<|zC X4;have eh:z.cps.toList.head?.any isLet=isLet c:=by rw[ec];rfl
 rw[eh]at q;refine !{c,sm hz,at0 ec,c,rfl,_,rfl,?_};refine bQ (λh4=>?_) λh4=>?_;rw[nt h4,zW]at q;exact fo q;rw[nf h4,ye]at q;refine oq (f:=λc=>isLet c||D5 c) rfl hz (λc hc Q hQ=>?_) q;refine !{c,rfl,_,rfl,?_};refine bQ (λh5=>?_) λh5=>?_;rw[h5,Bool.true_or]at hQ;exact hQ;rw[h5,yW]at hQ;exact{_,rfl,c,rfl,hQ};rw[e1.symm.trans h2,zW,zW,zW]at q;refine{_,rfl,?_};exact dD<|fo q;rw[h0];rw[h1]at q;exact dD<|dD<|fo q
theorem Cy(T:Txt w K mg t):Ok P w base T.v9 2 (LS<|ofStr pf):=by
 refine T.v9.F.bS Cq ?_;obtain⟨d,e,⟨⟨k,hk⟩,hz⟩,q⟩;refine{_,(sc (si (twd<|twor (cy<|tv<|cb cH T.av aq<|al 0<|ac (qx T.oZ jl) an)<|tw1<|bj pX hr.u (cb ba T.aX aF<|al 0 an)<|dg (v:=.int 40) T.lF {_,rfl} λ_=>aO _) (s1<|sr db) s0)<|s1<|sr<|cb jq T.jz fh<|ac (tQ (N:=["sign"]) (src:=[none]) (jb (ae FG) ["thing"] rfl rfl<|by trivial) (PC<|dv 0) (oX<|show(["sign"]:List Str).Nodup by trivial) (aR rfl) aS (λ_ _ _ _ _=>nR) λ_ _ _ _ _=>(cc jn jn hr.u ds (dv 0) ds)) an),?_};refine !{_,_,_,_,rfl,cQ,hk,_,rfl,?_};rcases Cw hk with⟨z,rfl,h0⟩|⟨h0,h1⟩;have hz:=hz z rfl;rw[h0];refine a_ ?_;refine !!⟨{sm hz,?_}⟩;refine{_,rfl,?_};have e2:decide ((40:Int)<((z.length:Nat):Int))=!decide (z.cps.size<=40):=by rw[yu];simp only[decide_eq_true_iff,Bool.not_eq_true',yw];show(40:Int)<((z.cps.size:Nat):Int)↔_;omega
 unfold ofStr pf at q;dsimp only at q;refine bQ (λh3=>?_) λh3=>?_;rw[nt<|e2.symm.trans h3,zW]at q;exact fo q;rw[nf<|e2.symm.trans h3,ye]at q;refine oq (f:=D8) rfl hz (λc hc Q hQ=>?_) q;refine !!⟨?_⟩;have e3:GK " " ⟨#[c]⟩=decide (32<=c):=j5 32 c;have e4:GK ⟨#[c]⟩ "~"= decide (c<=126):=j5 c 126;unfold D8 at hQ;refine bQ (λh=>?_) λh=>?_;rw[e3.symm.trans h,ye,<-e4]at hQ;exact hQ;rw[e3.symm.trans h,zW]at hQ;exact hQ;rw[h0];rw[h1]at q;exact dD<|dD<|fo q
inductive sy (ds:List D) (S:aw) (R:KD) (Z:KX):Prop where
 |mk (kind d) (h0:ds=[.str kind,d]) (h1:Gt S d) (h2:R (.bl<|i_ kind d) S)
theorem jK(T:Txt w K mg t):Ok P w base T.jB 3 sy:=by refine T.jB.F.bS As ?_;obtain⟨kind,d,e,hd,q⟩;refine{_,(sc (si (bj eP hr.u (dv 1) dn) (s1<|sr db) s0)<|sc (si (bj aU hr.u (dv 0) ds) (s1<|sr<|aL T.jA (jJ T) hr<|al 1 an) s0)<|s1<|sr<|aL T.v9 (Cy T) hr<|al 1 an),?_};refine !!⟨?_⟩;unfold i_ at q;refine bQ (λh=>?_) λh=>?_;rw[h,Bool.true_or]at q;exact fo q;rw[h,yW]at q;refine !!⟨?_⟩;refine bQ (λh=>?_) λh=>?_;rw[if_pos<|zC h]at q;exact !{d,rfl,hd,fo q};rw[if_neg<|zZ h]at q;exact !{d,rfl,hd,fo q}
theorem gt_str(h:z.cps.size<=1000):Gt S (.str z):={{.str,rfl},λy e=>by cases e;exact h}
theorem ou(h:kT z=true):z.cps.size<=1000:=by unfold kT at h;simp only[zI,zR]at h;lia
theorem FZ(h:∀c v,f (.tup [ay c,v])=.bl (i_ c.2 v)):(cG (cs.map ay) ws).map f=(List.zipWith (λc v=>i_ c.2 v) cs ws).map D.bl:=by unfold cG;induction cs generalizing ws with|nil=>(cases ws<;>rfl)|cons c cs ih=>cases ws with|nil=>rfl|cons v ws=>show f (.tup [ay c,v])::(List.zipWith _ (cs.map ay) ws).map f=.bl (i_ c.2 v)::_;rw[h,ih]
noncomputable def pairF:D->D|.tup [.tup [_,.str k],v]=>.bl (i_ k v)|_=>.au
inductive uW (ds:List D) (S:aw) (R:KD) (Z:KX):Prop where
 |mk (z) (h0:ds=[.str z]) (h1:(z ="number"\/z ="word")) (h2:R (.bl true) S)
theorem Cz(T:Txt w K mg t):Ok P w base T.v_ 1 uW:=by
 refine T.v_.F.bS Cr ?_;obtain⟨z,e,hz,q⟩;refine{_,(s1<|sr<|pV (cb cH T.av aq<|al 0<|ac (qx T.oZ jl) an)<|Fm<|cm vL hr.u (dv 0)<|dg (v:=.ref t.vV) T.Iy rfl T.Iz),?_};refine !{_,_,_,_,rfl,cQ,rfl,_,rfl,dD !{rfl,rfl,?_}};have e:Bz (kB<|.str z) ([D.str "number",D.str "word"].map kB)=true:=by rcases hz with rfl|rfl<;>decide +kernel
 show Fo S (R<|.bl<|if false=true then _ else Bz (kB<|.str z) ([D.str "number",D.str "word"].map kB));rw[if_neg ze,e];exact fo q
inductive pj (ds:List D) (S:aw) (R:KD) (Z:KX):Prop where
 |mk (c) (h0:ds=[ay c]) (h1:kT c.1=true) (h2:(c.2 ="number"\/c.2 ="word")) (h3:R (.bl true) S)
theorem wK(T:Txt w K mg t):Ok P w base T.og 3 pj:=by refine T.og.F.bS wu ?_;obtain⟨c,e,h1,h2,q⟩;refine{_,(sc (si (twd<|twor (cy<|tv<|cb cH T.av aq<|al 0<|ac (qx T.bu aW) an)<|tw1<|bj gH hr.u (cb ba T.aX aF<|al 0 an) di) (s1<|sr db) s0)<|s1<|sr<|pV (aL T.qC (sx T) hr<|ac (ix hr.u (dv 0) di) an)<|Fm<|aL T.v_ (Cz T) hr<|ac (ix hr.u (dv 0) di) an),?_};refine !{_,_,_,_,rfl,aV,rfl,_,rfl,?_};refine a_ !!!⟨a_ ?_⟩;refine !!!{gt_str<|ou h1,_,rfl,?_};show if kT c.1=true then _ else _;rw[h1];exact dD !!!{h2,fo q}
inductive sA (ds:List D) (S:aw) (R:KD) (Z:KX):Prop where
 |mk (cs:List<|Str×Str) (h0:ds=[.tup<|cs.map ay]) (h1:cs.length<=8) (h2:∀p,S p=none->R (.ref p) (S.set p<|.lst<|(cs.map Prod.fst).map D.str))
theorem pq(T:Txt w K mg t):Ok P w base T.my 1 sA:=by
 refine T.my.F.bS Au ?_;obtain⟨cs,e,hl,q⟩;refine{_,(s1<|sr<|tQ (N:=["name","kind"]) (src:=[none,none]) (jb (ae Ca) ["columns"] rfl rfl<|by trivial) (GP<|dv 0) (Rn<|show(["name","kind"]:List Str).Nodup by trivial) (j0 rfl rfl) j7 (λ_ _ _ _ _=>nR) λ_ _ _ _ _=>(dv 0)),?_};refine !{_,.inl rfl,?_};refine comp_map (λd=>match d with|.tup (x::_)=>x|_=>.au) trivial (by show(cs.map ay).length<=1000;rw[zb];lia) (λd hd Q hQ=>?_) λp hp=>?_;obtain⟨c,hc,rfl⟩:=zi.mp hd;exact !{rfl,_,_,rfl,_,_,rfl,rfl,_,rfl,hQ};have e:(cs.map ay).map (λd=>match d with|.tup (x::_)=>x|_=>.au)=(cs.map Prod.fst).map D.str:=by rw[zy,zy];rfl
 show Fo (S.set p<|.lst<|(cs.map ay).map _) (R<|.ref p);rw[e];exact fo<|q p hp
inductive iW (ds:List D) (S:aw) (R:KD) (Z:KX):Prop where
 |mk (cs) (h0:ds=[.tup<|cs.map ay]) (h1:Gd cs) (h2:R .au S)
theorem ow(T:Txt w K mg t):Ok P w base T.gz 4 iW:=by
 refine T.gz.F.bS oo ?_;obtain⟨cs,e,⟨hl,hn,hg⟩,q⟩;refine{_,(sc (si (twd<|twor (cy<|tv<|cb cH T.av aq<|al 0<|ac (qx T.bu aW) an)<|tw1<|bj pX hr.u (cb ba T.aX aF<|al 0 an)<|dg (v:=.int 8) T.p8 {_,rfl} λ_=>aO _) (s1<|rC ⟨T.dG⟩ T.gy<|ac ds an) s0)<|sc (si (cy<|tv<|cb jq T.jz fh<|ac (tQ (N:=["column"]) (src:=[none]) (jb (ae pZ) ["columns"] rfl rfl<|by trivial) (GP<|dv 0) (oX<|show(["column"]:List Str).Nodup by trivial) (aR rfl) aS (λ_ _ _ _ _=>nR) λ_ _ _ _ _=>(aL T.og (wK T) hr<|al 0 an)) an) (s1<|rC ⟨T.dG⟩ T.gy<|ac ds an) s0)<|s1<|si (bj gH hr.u (lse (aL T.my (pq T) hr<|al 0 an) T.aX T.Nv)<|cb ba T.aX aF<|al 0 an) (s1<|rC ⟨T.dG⟩ T.gy<|ac ds an) s0),?_};refine !{_,_,_,_,rfl,aV,rfl,_,rfl,?_};have e1:decide ((8:Int)<((cs.map ay).length:Nat))=false:=zt (by rw[zb];lia);refine a_ !!!⟨?_⟩;show if decide ((8:Int)<((cs.map ay).length:Nat))=true then _ else _;rw[e1];refine a_ ?_;refine !{_,.inl rfl,?_};refine comp_map (λ_=>.bl true) trivial (by show(cs.map ay).length<=1000;rw[zb];lia) (λd hd Q hQ=>?_) λp hp=>?_;obtain⟨c,hc,rfl⟩:=zi.mp hd;exact !{c,rfl,(hg c hc).1,(hg c hc).2,hQ};have e2:(cs.map ay).map (λ_=>D.bl true)=(cs.map λ_=>true).map D.bl:=by rw[zy,zy];rfl
 have e3:(cs.map λ_=>true).all id=true:=by rw[all_map];exact yb.mpr λ_ _=>rfl
 refine{.ref p,cs.map λ_=>true,rfl,?_,_,rfl,?_};show(S.set p<|.lst<|(cs.map ay).map _) p=_;rw[aa,e2];rw[e3];refine a_ ?_;refine !{cs,rfl,hl,λp2 eS=>?_};refine{cs.map Prod.fst,aa,by rw[zb];lia,_,rfl,_,rfl,_,rfl,?_};have e4:decide ((((iQ<|cs.map Prod.fst).length:Nat):Int)=(((cs.map ay).length:Nat):Int))=true:=zu (by rw[(uI _).mpr hn,zb,zb]);show if (if true=true then !decide ((((iQ<|cs.map Prod.fst).length:Nat):Int)=(((cs.map ay).length:Nat):Int)) else _)=true then _ else _;rw[if_pos rfl,e4];exact a_ {S,(Sub.new hp).trans<|.new eS,q}
inductive mJ (ds:List D) (S:aw) (R:KD) (Z:KX):Prop where
 |mk (cs d) (h0:ds=[.tup<|cs.map ay,d]) (h1:cs.length<=8) (h2:RC S d) (h3:R (.bl<|mI cs d) S)
theorem ub(T:Txt w K mg t):Ok P w base T.lJ 4 mJ:=by
 refine T.lJ.F.bS tX ?_;obtain⟨cs,d,e,hl,⟨⟨⟨k,hk⟩,hz⟩,hw⟩,q⟩;refine{_,(sc (si (twd<|twor (cy<|tv<|cb cH T.av aq<|al 1<|ac (qx T.bu aW) an)<|tw1<|bj gH hr.u (cb ba T.aX aF<|al 1 an)<|cb ba T.aX aF<|al 0 an) (s1<|sr db) s0)<|s1<|sr<|cb jq T.jz fh<|ac (tQ (N:=["column","value"]) (src:=[none,none]) (jb (ae vU) ["columns","thing"] rfl rfl<|by trivial) (izn T.IB<|al 0<|al 1 an) (Rn<|show(["column","value"]:List Str).Nodup by trivial) (j0 rfl rfl) j7 (λ_ _ _ _ _=>nR) λ_ _ _ _ _=>(aL T.jB (jK T) hr<|ac (ix hr.u (dv 0) di)<|al 1 an)) an),?_};refine !{_,_,_,_,rfl,aV,hk,_,rfl,?_};rcases Qb hk with⟨ws,rfl,h0⟩|⟨h0,h1⟩;obtain⟨hw1,Ud⟩:=hw ws rfl;rw[h0];refine a_ !!!!!⟨?_⟩;have e1:decide (((ws.length:Nat):Int)=(((cs.map ay).length:Nat):Int))=decide (ws.length=cs.length):=by rw[yO,zb];lia
 unfold mI at q;dsimp only at q;show if (if true=true then !decide (((ws.length:Nat):Int)=(((cs.map ay).length:Nat):Int)) else _)=true then _ else _;rw[if_pos rfl,e1];refine bQ (λh=>?_) λh=>?_;rw[nt h,zW]at q;exact fo q;have h:=nf h;rw[h,ye]at q;have h:=zC h;refine !!{cs.map ay,ws,rfl,by rw[zb];exact h.symm,?_};refine comp_map pairF trivial (by show(cG (cs.map ay) ws).length<=1000;unfold cG;rw[List.length_zipWith,zb];lia) (λd hd Q hQ=>?_) λp hp=>?_;unfold cG at hd;obtain⟨i,ei⟩:=yt hd;obtain⟨x,y,e2,e3,e4⟩:=List.getElem?_zipWith_eq_some.mp ei;subst e4;rw[zg]at e2;cases e5:cs[i]? with|none=>(rw[e5]at e2;cases e2)|some c=>rw[e5]at e2;cases e2;exact !{rfl,_,_,rfl,_,_,rfl,rfl,_,rfl,_,rfl,_,rfl,c.2,y,rfl,Ud y<|zx e3,hQ}
 refine{.ref p,List.zipWith (λc v=>i_ c.2 v) cs ws,rfl,?_,S,.new hp,q};show(S.set p<|.lst<|(cG (cs.map ay) ws).map pairF) p=_;rw[aa,FZ λ_ _=>rfl];rw[h0];have e:mI cs d=false:=by cases d with|tup ws=>exact absurd rfl (h1 ws)|_=>rfl
 rw[e]at q;exact dD<|dD<|fo q
inductive pz (t:ib) (ds:List D) (S:aw) (R:KD) (Z:KX):Prop where
 |mk (cs k v) (h0:ds=[.tup<|cs.map ay,.tup [k,v]]) (h1:cs.length<=8) (h2:Gt S k) (h3:RC S v) (h4:(ot cs k v=true->R .au S)) (h5:(ot cs k v=false->Z t.gL S))
theorem mK(T:Txt w K mg t):Ok P w base T.j_ 5 (pz t):=by refine T.j_.F.bS wA ?_;obtain⟨cs,k,v,e,hl,hk,hv,q1,q2⟩;refine{_,(sc (si (twd<|twor (cy<|tv<|cb cH T.av aq<|al 1<|ac (qx T.bu aW) an)<|tw1<|bj gH hr.u (cb ba T.aX aF<|al 1 an) di) (s1<|rC ⟨T.gO⟩ T.j9<|ac ds an) s0)<|sc (si (cy<|tv<|aL T.lI (gY T) hr<|ac (ix hr.u (dv 1) di) an) (s1<|rC ⟨T.gO⟩ T.j9<|ac ds an) s0)<|s1<|si (cy<|tv<|aL T.lJ (ub T) hr<|al 0<|ac (ix hr.u (dv 1) di) an) (s1<|rC ⟨T.gO⟩ T.j9<|ac ds an) s0),?_};refine !{_,_,_,_,rfl,aV,rfl,_,rfl,?_};refine a_ !!!⟨a_ ?_⟩;refine !!{k,rfl,hk,_,rfl,?_};unfold ot at q1 q2;refine bQ (λh=>?_) λh=>?_;rw[nt h,zW]at q2;exact{sm<|by decide,fo<|q2 rfl};rw[nf h,ye]at q1 q2;refine !!!{cs,v,rfl,hl,hv,_,rfl,?_};refine bQ (λh=>?_) λh=>?_;exact{sm<|by decide,fo<|q2<|nt h};exact fo<|q1<|nf h
theorem bg(h:n<=100000):n<sizeLine:=by rw[yg];lia
structure Std where
 b:Nat
 e:Option Nat
 ws:List D
def eD:Option Nat->D|none=>.au|some n=>.int (n:Nat)
def jL(s:Std):D:=.tup [.int (s.b:Nat),eD s.e,.tup s.ws]
noncomputable def IH:List Std->Int->D|[],_=>.au|s::r,m=>if (s.b:Int)<=m then (match s.e with|none=>.tup s.ws|some n=>if m<=(n:Int) then .tup s.ws else .au) else IH r m
noncomputable def wt(l:List Std)(m:Int):D:=IH l.reverse m
abbrev Ra:=List<|Str×Addr×List Std
abbrev nA:=List<|Str×List Std
def gZ(ra:Ra):nA:=ra.map λr=>(r.1,r.2.2)
def dM(ra:Ra):List (Key×D):=ra.map λr=>(Sum.inr r.1,D.ref r.2.1)
noncomputable def lu(rs:nA)(k:Str):Option (List Std):=(rs.find? λr=>decide<|r.1=k).map (·.2)
noncomputable def tm(ra:Ra)(k:Str):Option (Addr×List Std):=(ra.find? λr=>decide<|r.1=k).map (·.2)
noncomputable def tq(ra:Ra)(k:Str)(s:List Std):Ra:=ra.map λr=>if r.1=k then (r.1,r.2.1,s) else r
noncomputable def CA(rs:nA)(k:Str)(s:List Std):nA:=if (lu rs k).isSome then rs.map λr=>if r.1=k then (r.1,s) else r else rs++[(k,s)]
theorem gB(ra:Ra)(k:Str):lu (gZ ra) k=(tm ra k).map (·.2):=by unfold lu tm gZ;induction ra with|nil=>rfl|cons r ra ih=>rw[zA,yc,yc];by_cases h:r.1=k;rw[zu h];rfl;rw[zt h];exact ih
theorem g7(ra:Ra)(k:Str):bZ (dM ra) (.inr k)=(tm ra k).map λp=>D.ref p.1:=by unfold bZ tm dM;induction ra with|nil=>rfl|cons r ra ih=>rw[zA,yc,yc];by_cases h:r.1=k;rw[zu h];have:decide ((Sum.inr r.1:Key)=.inr k)=true:=zu (by rw[h]);dsimp only;rw[this];rfl;rw[zt h];have:decide ((Sum.inr r.1:Key)=.inr k)=false:=zt λe=>h<|yP e;dsimp only;rw[this];exact ih
theorem dk(h:tm ra k=some (l,s)):(k,l,s)∈ra:=by unfold tm at h;cases q:ra.find? λr=>decide (r.1=k) with|none=>(rw[q]at h;cases h)|some r=>rw[q]at h;have h1:=List.find?_some q;have h2:=List.mem_of_find?_eq_some q;obtain⟨k',l',s'⟩:=r;have e:k'=k:=zC h1;cases h;rw[<-e];exact h2
theorem mL(h:tm ra k=none):∀r∈ra,r.1≠k:=by unfold tm at h;intro r hr e;have:=List.find?_eq_none.mp (Option.map_eq_none_iff.mp h) r hr;simp[e]at this
theorem gm:∀{l:List α}{x y:α},(l.map f).Nodup->x∈l->y∈l->f x=f y->x=y|z::l,x,y,nd,hx,hy,e=>by rw[zA]at nd;obtain⟨n1,n2⟩:=yk.mp nd;rcases zj.mp hx with ex|EJ;rcases zj.mp hy with ey|SH;rw[ex,ey];exact absurd (zi.mpr {y,SH,by rw[<-e,ex]}) n1;rcases zj.mp hy with ey|SH;exact absurd (zi.mpr {x,EJ,by rw[e,ey]}) n1;exact gm n2 EJ SH e
structure CB(C:Addr)(S:aw)(a ld lr:Addr)(cs:List (Str×Str))(dl:List D)(ra:Ra):Prop where
 ins:S a=some (.ins C [("columns",.tup<|cs.map ay),("deeds",.ref ld),("runs",.ref lr)])
 Ay:S ld=some (.lst dl)
 run:S lr=some (.c_<|dM ra)
 cell:∀r∈ra,S r.2.1=some (.lst<|r.2.2.map jL)
 kn:(ra.map (·.1)).Nodup
 an:(ld::ra.map (·.2.1)).Nodup
 sz:∀r∈ra,r.2.2.length<=dl.length
def fp(a ld lr:Addr)(ra:Ra):List Addr:=a::ld::lr::ra.map (·.2.1)
def cD(C:Addr)(S:aw)(a:Addr)(F:List Addr)(cs:List<|Str×Str)(dl:List D)(rs:nA):Prop:=∃ld lr ra,CB C S a ld lr cs dl ra/\F=fp a ld lr ra/\rs=gZ ra
def CC(F F':List Addr)(S S':aw):Prop:=∀b c,b∉F->S b=some c->b∉F'/\S' b=some c
theorem CC.trans(a:CC F F1 S S1)(b:CC F1 F2 S1 S2):CC F F2 S S2:=λp c h e=>by obtain⟨h1,e1⟩:=a p c h e;exact b p c h1 e1
section
variable{C a ld lr:Addr}{S:aw}{cs:List (Str×Str)}{dl:List D}{ra:Ra}
theorem CB.CD(h:CB C S a ld lr cs dl ra){l:Addr}{ds:List D}(e:S l=some (.lst ds)):l≠a/\l≠lr:=by constructor;rintro rfl;rw[h.ins]at e;cases e;rintro rfl;rw[h.run]at e;cases e
theorem CB.put(h:CB C S a ld lr cs dl ra)(hk:tm ra k=some (l,s))(hs:s'.length<=dl.length):CB C (S.set l<|.lst<|s'.map jL) a ld lr cs dl (tq ra k s'):=by
 have hm:=dk hk;have hl:=h.cell _ hm;obtain⟨n1,n2⟩:=h.CD hl;obtain⟨Zw,nd2⟩:=yk.mp h.an;have n3:l≠ld:=λe=>Zw (by rw[<-e];exact zi.mpr {_,hm,rfl});have e1:(tq ra k s').map (·.1)=ra.map (·.1):=by unfold tq;rw[zy];exact zS λr _=>by dsimp only[Function.comp];split<;>rfl
 have e2:(tq ra k s').map (·.2.1)=ra.map (·.2.1):=by unfold tq;rw[zy];exact zS λr _=>by dsimp only[Function.comp];split<;>rfl
 have e3:dM (tq ra k s')=dM ra:=by unfold dM tq;rw[zy];exact zS λr _=>by dsimp only[Function.comp];split<;>rfl
 refine{by rw[ag n1.symm];exact h.ins,by rw[ag n3.symm];exact h.Ay,by rw[ag n2.symm,e3];exact h.run,λr hr=>?_,by rw[e1];exact h.kn,by rw[e2];exact h.an,λr hr=>?_};unfold tq at hr;obtain⟨r0,xu,e⟩:=zi.mp hr;by_cases q:r0.1=k;rw[if_pos q]at e;have er:r0=(k,l,s):=gm h.kn xu hm q;subst er e;rw[aa];rw[if_neg q]at e;subst e;have:r0.2.1≠l:=λe=>q (by have:=gm nd2 xu hm e;rw[this]);rw[ag this];exact h.cell _ xu;unfold tq at hr;obtain⟨r0,xu,e⟩:=zi.mp hr;by_cases q:r0.1=k;rw[if_pos q]at e;subst e;exact hs;rw[if_neg q]at e;subst e;exact h.sz _ xu
theorem CB.add(h:CB C S a ld lr cs dl ra)(hk:tm ra k=none)(hl:S l=none)(hs:s.length<=dl.length)(e1:S' l=some (.lst<|s.map jL))(e2:S' lr=some (.c_<|dM<|ra++[(k,l,s)]))(e3:∀b,b≠l->b≠lr->S' b=S b):CB C S' a ld lr cs dl (ra++[(k,l,s)]):=by
 have n1:a≠l:=gx h.ins hl;have n2:ld≠l:=gx h.Ay hl;have n3:a≠lr:=by rintro rfl;have:=h.run;rw[h.ins]at this;cases this
 have n4:ld≠lr:=by rintro rfl;have:=h.run;rw[h.Ay]at this;cases this
 refine{by rw[e3 _ n1 n3];exact h.ins,by rw[e3 _ n2 n4];exact h.Ay,e2,λr hr=>?_,?_,?_,λr hr=>?_};rcases zP.mp hr with hr|hr;have hc:=h.cell r hr;rw[e3 _ (gx hc hl) (h.CD hc).2];exact hc;rw[zK.mp hr];exact e1;rw[zJ];exact l5 h.kn λm=>by obtain⟨r,hr,e⟩:=zi.mp m;exact mL hk r hr e
 rw[zJ,<-List.cons_append];refine l5 h.an λm=>?_;rcases zj.mp m with e|m;exact n2 e.symm;obtain⟨r,hr,e⟩:=zi.mp m;exact gx (h.cell r hr) hl e;rcases zP.mp hr with hr|hr;exact h.sz r hr;rw[zK.mp hr];exact hs
theorem CB.Qc(h:CB C S a ld lr cs dl ra)(d:D):CB C (S.set ld<|.lst<|dl++[d]) a ld lr cs (dl++[d]) ra:=by obtain⟨n1,n2⟩:=h.CD h.Ay;obtain⟨Zw,nd2⟩:=yk.mp h.an;refine{by rw[ag n1.symm];exact h.ins,aa,by rw[ag n2.symm];exact h.run,λr hr=>?_,h.kn,h.an,λr hr=>by rw[zE];exact zD (h.sz r hr)<|Nat.le_add_right _ _};rw[ag λe=>Zw<|by rw[<-e];exact zi.mpr ⟨r,hr,rfl⟩];exact h.cell r hr
end
def U6(C:Addr):kC:=λds S R _=>∃a F cs dl rs,ds=[.ref a]/\cD C S a F cs dl rs/\R (.int (dl.length:Nat)) S
theorem wL(T:Txt w K mg t):Bb P w mg base T.fe 1 (U6 t.ao):=by refine T.fe.F.bS wI ?_;obtain⟨a,F,cs,dl,rs,e,⟨ld,lr,ra,h,_⟩,q⟩;refine{_,(s1<|sr<|cb ba T.aX aF<|ac (fl T.ak T.cJ<|dv 0) an),?_};exact !{a,_,_,rfl,h.ins,rfl,_,rfl,.inl {dl,h.Ay,fo q}}
inductive eW (t:ib) (ds:List D) (S:aw) (R:KD) (Z:KX):Prop where
 |mk (a F cs dl rs) (h0:ds=[.ref a]) (h1:cD t.ao S a F cs dl rs) (h2:R (.tup<|cs.map ay) S)
theorem bF(T:Txt w K mg t):Bb P w mg base T.aJ 1 (eW t):=by refine T.aJ.F.bS jI ?_;obtain⟨a,F,cs,dl,rs,e,⟨ld,lr,ra,h,_⟩,q⟩;refine{_,(s1<|sr<|fl T.ak T.cR<|dv 0),?_};exact !{a,_,_,rfl,h.ins,rfl,fo q}
noncomputable def uc(n:Nat):D->Option Int|.au=>some n|.int i=>(if 0<=i/\i<=(n:Int) then some i else none)|_=>none
def LU(C N:Addr):kC:=λds S R Z=>∃a F cs dl rs m,ds=[.ref a,m]/\cD C S a F cs dl rs/\Gt S m/\(∀i,uc dl.length m=some i->R (.int i) S)/\(uc dl.length m=none->Z N S)
theorem iX(T:Txt w K mg t):Bb P w mg base T.cq 2 (LU t.ao t.dS):=by
 refine T.cq.F.bS i9 ?_;obtain⟨a,F,cs,dl,rs,m,e,hS,hm,q1,q2⟩;obtain⟨ld,lr,ra,h,hF,tj⟩:=id hS;refine{_,(sc (si (bj eP hr.u (dv 1) dn) (s1<|sr<|rJ (dv 0) T.ak T.fe (wL T) hr) s0)<|sc (si (twd<|twor (cy<|tv<|aL T.jA (jJ T) hr<|al 1 an)<|tw1<|cy<|V6 jn jn hr.u di (dv 1)<|rJ (dv 0) T.ak T.fe (wL T) hr) (s1<|rC ⟨T.lH⟩ T.Ap<|ac ds an) s0)<|s1<|sr<|dv 1),?_};refine !!⟨?_⟩;refine bQ (λh1=>?_) λh1=>?_;have e:m=.au:=by cases m<;>first|rfl|cases h1
 subst e;exact !{a,_,rfl,h.ins,rfl,a,F,cs,dl,rs,rfl,hS,fo<|q1 _ rfl};refine !{m,rfl,hm,_,rfl,?_};refine bQ (λh2=>?_) λh2=>?_;have h2:=nt h2;have e:uc dl.length m=none:=by cases m with|au=>(cases h1)|int i=>(cases h2)|_=>rfl
 exact dD {sm<|by decide,fo<|q2 e};have h2:=nf h2;obtain⟨i,rfl⟩:∃i,m=.int i:=by cases m<;>first|exact{_,rfl}|cases h2
 refine !!⟨?_⟩;refine bQ (λh3=>?_) λh3=>?_;have h3:0<=i:=zC h3;refine !{a,_,rfl,h.ins,rfl,a,F,cs,dl,rs,rfl,hS,_,rfl,?_};refine bQ (λh4=>?_) λh4=>?_;have h4:¬i<=((dl.length:Nat):Int):=zZ<|nt h4;exact{sm<|by decide,fo<|q2<|if_neg λz=>h4 z.2};have h4:i<=((dl.length:Nat):Int):=zC<|nf h4;exact{_,rfl,fo<|q1 i<|if_pos ⟨h3,h4⟩};have h3:¬0<=i:=zZ h3;exact{_,rfl,dD {sm<|by decide,fo<|q2<|if_neg λz=>h3 z.1}}
inductive kU (ds:List D) (S:aw) (R:KD) (Z:KX):Prop where
 |mk (l uX m) (h0:ds=[.ref l,.int m]) (h1:S l=some (.lst<|uX.map jL)) (h2:R (wt uX m) S)
theorem jM(T:Txt w K mg t):Ok P w base T.gb 1 kU:=by
 refine T.gb.F.bS jG ?_;obtain⟨l,uX,m,e,hl,q⟩;refine{_,(sc (vQ<|DM (irv T.rR<|al 0 an) (gn (i:=2) jG.nd)<|s1<|si (bj jn hr.u (ix hr.u (dv 2) di)<|dv 1) (s1<|sr<|M4 (twd<|twor (bj eP hr.u (ix hr.u (dv 2) di) dn)<|tw1<|bj jn hr.u (dv 1)<|ix hr.u (dv 2) di) (ix hr.u (dv 2) di) dn) s0)<|s1<|sr dn),?_};refine{λaB S'=>S'=S/\wt uX m=.au,?_,?_};refine !{_,_,rfl,hl,?_};refine{λi aB S'=>(∃o,aB=[some<|.ref l,some<|.int m,o])/\S'=S/\wt uX m=IH (uX.reverse.drop i) m,{⟨none,rfl⟩,rfl,by rw[List.drop_zero];rfl},λi aB S' h=>by rw[h.2.1];exact hl,?_,?_};rintro i d aB S' hd ⟨⟨o,rfl⟩,rfl,hw⟩;rw[<-List.map_reverse,zg]at hd;cases e1:uX.reverse[i]? with|none=>(rw[e1]at hd;cases hd)|some sd=>rw[e1]at hd;cases hd;have e2:uX.reverse.drop i=sd::uX.reverse.drop (i+1):=(by obtain⟨hi,e⟩:=zd.mp e1;rw[yi hi,e]);obtain⟨sb,se,sw⟩:=sd;rw[e2]at hw;refine !!!!⟨?_⟩;unfold IH at hw;refine bQ (λh=>?_) λh=>?_;rw[if_pos<|zC h]at hw;refine !!!⟨?_⟩;(cases se with|none=>refine dD<|dD !!⟨?_⟩;rw[hw]at q;exact fo q|some n=>refine a_ !!!!⟨?_⟩;dsimp only at hw;refine bQ (λh=>?_) λh=>?_;rw[if_pos<|zC h]at hw;rw[hw]at q;exact !!⟨fo q⟩;rw[if_neg<|zZ h]at hw;rw[hw]at q;exact fo q);rw[if_neg<|zZ h]at hw;exact{{_,rfl},rfl,hw}
 rintro aB S' ⟨_,rfl,hw⟩;refine fo {rfl,?_};rw[hw,yG,zb,List.drop_eq_nil_of_le<|by rw[yG];exact zq _];rfl;rintro aB S' ⟨rfl,hw⟩;rw[hw]at q;exact fo q
noncomputable def Bc(rs:nA)(k:D)(i:Int):D:=match k with|.str z=>(if kI z=true then wt ((lu rs z).getD []) i else .au)|_=>.au
def U7(C N:Addr):kC:=λds S R Z=>∃a F cs dl rs k m,ds=[.ref a,k,m]/\cD C S a F cs dl rs/\Gt S k/\Gt S m/\(∀i,uc dl.length m=some i->R (Bc rs k i) S)/\(uc dl.length m=none->Z N S)
theorem mM(T:Txt w K mg t):Bb P w mg base T.dj 3 (U7 t.ao t.dS):=by
 refine T.dj.F.bS fE ?_;obtain⟨a,F,cs,dl,rs,k,m,e,hS,hk,hm,q1,q2⟩;obtain⟨ld,lr,ra,h,hF,tj⟩:=id hS;refine{_,(sc (cj (i:=3) fE.nd<|xt (dv 0) T.ak T.cq (iX T) hr<|al 2 an)<|sc (si (cy<|tv<|aL T.lI (gY T) hr<|al 1 an) (s1<|sr dn) s0)<|s1<|sr<|aL T.gb (jM T) hr<|ac (mg2 hr.u (fl T.ak T.bT<|dv 0) (dv 1)<|cz an)<|al 3 an),?_};refine !{a,_,rfl,h.ins,rfl,_,rfl,a,F,cs,dl,rs,m,rfl,hS,hm,λi hi=>?_,λhn=>fo<|q2 hn};have q:=q1 i hi;refine !{k,rfl,hk,_,rfl,?_};refine bQ (λh1=>?_) λh1=>?_;have e:Bc rs k i=.au:=by cases k with|str z=>exact if_neg (by rw[show kI z=false from nt h1];exact ze)|_=>rfl
 rw[e]at q;exact fo q;have h1:=nf h1;obtain⟨z,rfl⟩:∃z,k=.str z:=by cases k with|str z=>exact⟨z,rfl⟩|_=>cases h1
 have e:Bc rs (.str z) i=wt ((lu rs z).getD []) i:=if_pos h1;rw[e]at q;refine !{a,_,_,rfl,h.ins,rfl,lr,_,rfl,h.run,_,rfl,sm<|by decide,λp hp=>{dM ra,.inr z,?_,rfl,?_}};rw[ag<|gx h.run hp];exact h.run;rw[g7];refine{_,rfl,?_};cases e1:tm ra z with|none=>have e2:lu rs z=none:=(by rw[tj,gB,e1];rfl);rw[e2]at q;exact{p,[],i,rfl,aa,S,.new hp,q}|some ls=>obtain⟨l,uX⟩:=ls;have e2:lu rs z=some uX:=(by rw[tj,gB,e1];rfl);rw[e2]at q;have hc:=h.cell _<|dk e1;exact{l,uX,i,rfl,by rw[ag<|gx hc hp];exact hc,S,.new hp,q}
theorem Nx(h:tm ra k=some (l,s)):CA (gZ ra) k s'=gZ (tq ra k s'):=by unfold CA;rw[gB,h,if_pos<|show(Option.map (λx:Addr×List Std=>x.2)<|some (l,s)).isSome=true from rfl];unfold gZ tq;rw[zy,zy];exact zS λr _=>by dsimp only[Function.comp];split<;>rfl
theorem Qd(h:tm ra k=none):CA (gZ ra) k s=gZ (ra++[(k,l,s)]):=by unfold CA;rw[gB,h,if_neg<|show ¬(Option.map (λx:Addr×List Std=>x.2) none).isSome=true from ze];unfold gZ;rw[zJ];rfl
theorem Qe(h:tm ra k=none):dput (dM ra) (.inr k) (.ref l)=dM (ra++[(k,l,s)]):=by
 unfold dput;have e:((dM ra).any λkv=>decide<|kv.1=.inr k)=false:=by rw[List.any_eq_false];intro x hx;unfold dM at hx;obtain⟨r,hr,rfl⟩:=zi.mp hx;simp only[zR];exact λe=>mL h r hr<|yP e
 rw[e,if_neg ze];unfold dM;rw[zJ];rfl
theorem II:fp a ld lr (tq ra k s)=fp a ld lr ra:=by unfold fp tq;rw[zy];congr 3;exact zS λr _=>by dsimp only[Function.comp];split<;>rfl
theorem sC(h:l∈F):CC F F S (S.set l c):=λb x hb e=>{hb,by rw[ag<|show b≠l from λz=>hb<|by rw[z];exact h];exact e}
theorem IJ(h:r∈ra):r.2.1∈fp a ld lr ra:=zh _<|zh _<|zh _<|zi.mpr ⟨r,h,rfl⟩
def LV(C:Addr):kC:=λds S R _=>∃a F cs dl rs z ws,ds=[.ref a,.str z,.tup ws]/\cD C S a F cs dl rs/\((lu rs z).getD []).length<dl.length/\dl.length<=9000/\rs.length<=9000/\∀S' F',cD C S' a F' cs dl (CA rs z<|(lu rs z).getD []++[Std.mk dl.length none ws])->CC F F' S S'->R .au S'
theorem Az(T:Txt w K mg t):Bb P w mg base T.bM 2 (LV t.ao):=by
 refine T.bM.F.bS gW ?_;rintro _ _ _ _ _ _ _ S R Z hr ⟨a,F,cs,dl,rs,z,ws,e,⟨ld,lr,ra,h,hF,tj⟩,hl,hd,hn,q⟩;subst e hF tj;have MF:(dM ra).length<=9000:=by unfold gZ at hn;unfold dM;rw[zb]at hn⊢;exact hn
 refine{_,(s1<|se<|bm zN zX zY cA (ms2 (fl T.ak T.bT<|dv 0) (dv 1)<|cz an)<|ac (bY<|ac (rJ (dv 0) T.ak T.fe (wL T) hr)<|ac dn<|al 2 an) an),?_};refine !{a,_,_,rfl,h.ins,rfl,lr,dM ra,rfl,h.run,_,rfl,sm<|by decide,λp hp=>{dM ra,.inr z,?_,rfl,bg<|by lia,λd Bh=>?_,λhn=>?_}};rw[ag<|gx h.run hp];exact h.run;rw[g7]at Bh;cases e1:tm ra z with|none=>(rw[e1]at Bh;cases Bh)|some ls=>obtain⟨l,uX⟩:=ls;rw[e1]at Bh;cases Bh;have e2:lu (gZ ra) z=some uX:=(by rw[gB,e1];rfl);rw[e2]at q hl;have hc:=h.cell _<|dk e1;have J6:(S.set p<|.lst []) l=some (.lst<|uX.map jL):=(by rw[ag<|gx hc hp];exact hc);have hi':(S.set p<|.lst []) a=some (.ins t.ao [("columns",.tup<|cs.map ay),("deeds",.ref ld),("runs",.ref lr)]):=(by rw[ag<|gx h.ins hp];exact h.ins);have qA:CB t.ao (S.set p<|.lst []) a ld lr cs dl ra:={hi',by rw[ag<|gx h.Ay hp];exact h.Ay,by rw[ag<|gx h.run hp];exact h.run,λr hr=>by rw[ag<|gx (h.cell r hr) hp];exact h.cell r hr,h.kn,h.an,h.sz};refine{{rfl,_,J6},_,rfl,a,_,rfl,hi',rfl,a,_,cs,dl,_,rfl,⟨ld,lr,ra,qA,rfl,rfl⟩,_,rfl,so,?_};have hle:uX.length<dl.length:=hl;refine{l,uX.map jL,_,rfl,rfl,J6,bg<|by rw[zb];lia,S.set l<|.lst<|(uX++[Std.mk dl.length none ws]).map jL,λb c hb=>?_,q _ _ {ld,lr,_,h.put e1<|by rw[zE];show uX.length+1<=_;lia,rfl,Nx e1} ?_};by_cases Zx:b=l;subst Zx;rw[aa]at hb⊢;rw[zJ]at hb;exact hb;rw[ag Zx]at hb;rw[ag Zx,ag<|gx hb hp];exact hb;rw[II];exact sC<|IJ<|dk e1
 rw[g7]at hn;cases e1:tm ra z with|some ls=>(rw[e1]at hn;cases hn)|none=>have e2:lu (gZ ra) z=none:=(by rw[gB,e1];rfl);rw[e2]at q hl;have npr:p≠lr:=(gx h.run hp).symm;generalize D_:(S.set p<|.lst []).set lr _=S1;have Zy:S1 p=some (.lst []):=(by rw[<-D_,ag npr,aa]);have s1r:S1 lr=some (.c_<|dM<|ra++[(z,p,[])]):=(by rw[<-D_,aa,Qe e1]);have Zz:∀b,b≠p->b≠lr->S1 b=S b:=λb h1 h2=>(by rw[<-D_,ag h2,ag h1]);have qA:CB t.ao S1 a ld lr cs dl (ra++[(z,p,[])]):=h.add e1 hp (zT _) Zy s1r Zz;refine{{rfl,_,Zy},_,rfl,a,_,rfl,qA.ins,rfl,a,_,cs,dl,_,rfl,{ld,lr,_,qA,rfl,rfl},_,rfl,so,?_};refine{p,[],_,rfl,rfl,Zy,bg<|by show 0<=_;lia,S1.set p<|.lst<|[Std.mk dl.length none ws].map jL,.refl _,q _ _ {ld,lr,ra++[(z,p,[Std.mk dl.length none ws])],h.add e1 hp (by show 1<=_;have:0<dl.length:=hl;lia) aa ?_ λb h1 h2=>by rw[ag h1];exact Zz b h1 h2,rfl,Qd e1} ?_};rw[ag npr.symm,s1r];unfold dM;rw[zJ,zJ];rfl;intro b c hb e;have h1:b≠p:=gx e hp;have h2:b≠lr:=λz=>hb (by rw[z];exact zh _<|zh _ zp);refine{λm=>?_,by rw[ag h1,Zz b h1 h2];exact e};unfold fp at m hb;rw[zJ]at m;rcases zj.mp m with m|m;exact hb<|m ▸ zp;rcases zj.mp m with m|m;exact hb<|m ▸ zh _ zp;rcases zj.mp m with m|m;exact h2 m;rcases zP.mp m with m|m;exact hb<|zh _<|zh _<|zh _ m;exact h1<|zK.mp m
noncomputable def iF(n:Nat)(l:List Std):List Std:=l.dropLast++(l.getLast?.map λs=>Std.mk s.b (some n) s.ws).toList
noncomputable def ox(rs:nA)(z:Str)(n:Nat):nA:=CA rs z<|iF n<|(lu rs z).getD []
noncomputable def ud(rs:nA)(z:Str)(n:Nat)(ws:List D):nA:=CA rs z<|(lu rs z).getD []++[Std.mk n none ws]
theorem IK(h:cD C S a F cs dl rs)(z:Str):((lu rs z).getD []).length<=dl.length:=by obtain⟨ld,lr,ra,h,_,rfl⟩:=h;rw[gB];cases e:tm ra z with|none=>exact zT _|some ls=>exact h.sz _<|dk (l:=ls.1) (s:=ls.2) e
theorem LW(rs:nA)(z:Str)(s:List Std):(CA rs z s).length<=rs.length+1:=by unfold CA;split;rw[zb];lia;rw[zE];exact zq _
theorem eZ:lu (r::rs) k=if r.1=k then some r.2 else lu rs k:=by unfold lu;rw[yc];by_cases h:r.1=k;rw[zu h,if_pos h];rfl;rw[zt h,if_neg h]
theorem jN:lu (CA rs z s) k=if k=z then some s else lu rs k:=by
 unfold CA;by_cases hs:(lu rs z).isSome=true;rw[if_pos hs];by_cases hk:k=z;subst hk;rw[if_pos rfl];induction rs with|nil=>(cases hs)|cons r rs ih=>rw[zA,eZ];by_cases h:r.1=k;rw[if_pos h,if_pos h];rw[if_neg h,if_neg h];rw[eZ,if_neg h]at hs;exact ih hs
 rw[if_neg hk];clear hs;induction rs with|nil=>rfl|cons r rs ih=>rw[zA,eZ,eZ,ih];by_cases h:r.1=z;rw[if_pos h,if_neg<|show ¬r.1=k from λe=>hk<|e.symm.trans h,if_neg<|show ¬r.1=k from λe=>hk<|e.symm.trans h];rw[if_neg h]
 rw[if_neg hs];have hn:lu rs z=none:=by cases e:lu rs z<;>simp_all
 clear hs;induction rs with|nil=>rw[List.nil_append,eZ];by_cases hk:k=z;rw[if_pos hk,if_pos hk.symm];rw[if_neg hk,if_neg λe=>hk e.symm]|cons r rs ih=>rw[eZ]at hn;by_cases h:r.1=z;rw[if_pos h]at hn;cases hn;rw[if_neg h]at hn;rw[List.cons_append,eZ,eZ,ih hn];by_cases h2:r.1=k;rw[if_pos h2,if_pos h2,if_neg<|show ¬k=z from λe=>h<|h2.trans e];rw[if_neg h2,if_neg h2]
def U8(C:Addr):kC:=λds S R _=>∃a F cs dl rs z,ds=[.ref a,.str z]/\cD C S a F cs dl rs/\(∃s,lu rs z=some s/\s≠[])/\dl.length<=9000/\∀S',cD C S' a F cs dl (ox rs z dl.length)->CC F F S S'->R .au S'
theorem kf(h:l≠[]):∃r s,l=r++[s]:={l.dropLast,l.getLast h,(List.dropLast_concat_getLast h).symm}
theorem eL(n:Nat)(r:List Std)(s:Std):iF n (r++[s])=r++[Std.mk s.b (some n) s.ws]:=by unfold iF;rw[List.dropLast_concat,List.getLast?_concat];rfl
theorem IL(T:Txt w K mg t):Bb P w mg base T.cn 2 (U8 t.ao):=by refine T.cn.F.bS dR ?_;rintro _ _ _ _ _ _ _ S R Z hr ⟨a,F,cs,dl,rs,z,e,⟨ld,lr,ra,h,hF,tj⟩,⟨s0,Rj,mO⟩,hd,q⟩;subst e hF tj;rw[gB]at Rj;cases e1:tm ra z with|none=>(rw[e1]at Rj;cases Rj)|some ls=>obtain⟨l,uX⟩:=ls;rw[e1]at Rj;cases Rj;obtain⟨r,sd,rfl⟩:=kf mO;have hlen:=h.sz _<|dk e1;dsimp only at hlen;rw[zE]at hlen;have hlen:r.length+1<=dl.length:=hlen;have hc:=h.cell _<|dk e1;dsimp only at hc;have ed:bZ (dM ra) (.inr z)=some (.ref l):=(by rw[g7,e1];rfl);refine{_,(sc (cj (i:=2) dR.nd<|bm0 zN PySem.F.slot_list_pop PySem.F.type_list_pop TU<|ix hr.u (fl T.ak T.bT<|dv 0)<|dv 1)<|s1<|se<|bm zN zX zY cA (ix hr.u (fl T.ak T.bT<|dv 0)<|dv 1)<|ac (bY<|ac (ix hr.u (dv 2) di)<|ac (rJ (dv 0) T.ak T.fe (wL T) hr)<|ac (ix hr.u (dv 2) di) an) an),?_};refine !{a,_,_,rfl,h.ins,rfl,_,rfl,dM ra,_,h.run,ed,{rfl,_,hc},l,_,jL sd,rfl,rfl,hc,?_,?_};rw[zJ,zE];show(r.map jL++[jL sd])[(r.map jL).length+1-1]?=_;simp;have e2:((r++[sd]).map jL).dropLast=r.map jL:=(by rw[zJ];exact List.dropLast_concat);rw[e2];have h1:CB t.ao (S.set l<|.lst<|r.map jL) a ld lr cs dl (tq ra z r):=h.put e1 (by lia);generalize D_:S.set l _=S1 at h1;have ZA:tm (tq ra z r) z=some (l,r):=(by have hm:(z,l,r)∈tq ra z r:=(by unfold tq;exact zi.mpr {_,dk e1,if_pos rfl});cases e3:tm (tq ra z r) z with|none=>exact absurd rfl (mL e3 _ hm)|some x=>exact congrArg some<|congrArg Prod.snd<|gm (f:=λr:Str×Addr×List Std=>r.1) h1.kn (dk (l:=x.1) (s:=x.2) e3) hm rfl);have ed':bZ (dM<|tq ra z r) (.inr z)=some (.ref l):=(by rw[g7,ZA];rfl);have Wy:=h1.cell _<|dk ZA;refine !{a,_,_,rfl,h1.ins,rfl,_,rfl,_,_,h1.run,ed',{rfl,_,Wy},_,rfl,_,rfl,_,rfl,a,_,rfl,h1.ins,rfl,a,_,cs,dl,_,rfl,{ld,lr,_,h1,rfl,rfl},_,rfl,_,rfl,so,l,_,_,rfl,rfl,Wy,bg<|by rw[zb];show r.length<=_;lia,?_};have h2:=h1.put (s':=r++[Std.mk sd.b (some dl.length) sd.ws]) ZA (by rw[zE];exact hlen);have e4:ox (gZ ra) z dl.length=gZ (tq (tq ra z r) z<|r++[Std.mk sd.b (some dl.length) sd.ws]):=(by unfold ox;rw[gB,e1];show CA (gZ ra) z (iF dl.length<|r++[sd])=_;rw[eL,Nx e1];unfold gZ tq;rw[zy,zy,zy];exact zS λx _=>by dsimp only[Function.comp];by_cases hx:x.1=z<;>simp[hx]);refine{_,?_,q _ {ld,lr,_,h2,by rw[II,II],e4} ?_};show Sub (S1.set l<|.lst<|(r++[_]).map jL) (S1.set l<|.lst<|r.map jL++[_]);rw[zJ];exact .refl _;rw[<-D_,cF];exact sC<|IJ<|dk e1
theorem Ea(h:ofStr kI d=true):∃z,d=.str z/\kI z=true:=by cases d with|str z=>exact⟨z,rfl,h⟩|_=>cases h
theorem Eb(h:ot cs k v=true):∃z ws,k=.str z/\v=.tup ws/\kI z=true:=by unfold ot at h;rw[zI]at h;obtain⟨z,rfl,hz⟩:=Ea h.1;cases v with|tup ws=>exact⟨z,ws,rfl,rfl,hz⟩|_=>exact absurd h.2 ze
theorem sD:Gt S .au:={{.au,rfl},λ_=>nofun}
theorem Ny(h:ah (wt l m)=false):l≠[]:=by rintro rfl;cases h
theorem wM(hz:kI z=true)(i:Int):Bc rs (.str z) i=wt ((lu rs z).getD []) i:=if_pos hz
inductive eM (t:ib) (ds:List D) (S:aw) (R:KD) (Z:KX):Prop where
 |mk (a F cs dl rs k) (h0:ds=[.ref a,k]) (h1:cD t.ao S a F cs dl rs) (h2:Gt S k) (h3:(ah (Bc rs k dl.length)=false->R .au S)) (h4:(ah (Bc rs k dl.length)=true->Z t.mm S))
theorem iY(T:Txt w K mg t):Bb P w mg base T.ck 4 (eM t):=by refine T.ck.F.bS i8 ?_;obtain⟨a,F,cs,dl,rs,k,e,hS,hk,q1,q2⟩;obtain⟨ld,lr,ra,h,_⟩:=id hS;refine{_,(s1<|si (bj eP hr.u (Yy (dv 0) T.ak T.dj.e ((mM T).mono<|by decide) hr T.eU d1<|al 1 an) dn) (s1<|rC ⟨T.v8⟩ T.IC<|ac ds an) s0),?_};refine !{a,_,rfl,h.ins,rfl,_,rfl,a,F,cs,dl,rs,k,.au,rfl,hS,hk,sD,λi hi=>?_,λhn=>by cases hn};cases hi;refine{_,rfl,?_};refine bQ (λh1=>?_) λh1=>?_;exact{sj,fo<|q2 h1};exact fo<|q1 h1
inductive jO (t:ib) (ds:List D) (S:aw) (R:KD) (Z:KX):Prop where
 |mk (a F cs dl rs k v) (h0:ds=[.ref a,k,v]) (h1:cD t.ao S a F cs dl rs) (h2:cs.length<=8) (h3:Gt S k) (h4:RC S v) (h5:dl.length<=8000) (h6:rs.length<=8000) (h7:(ot cs k v=false->Z t.gL S)) (h8:(ot cs k v=true->ah (Bc rs k dl.length)=false->Z t.rP S)) (h9:(∀z ws,k=.str z->v=.tup ws->ot cs k v=true->ah (Bc rs k dl.length)=true->∀S' F',cD t.ao S' a F' cs (dl++[.tup [.str "put",k,v]]) (ud rs z (dl.length+1) ws)->CC F F' S S'->R .au S'))
theorem Qf(T:Txt w K mg t):Bb P w mg base T.fc 6 (jO t):=by refine T.fc.F.bS wH ?_;obtain⟨a,F,cs,dl,rs,k,v,e,hS,hc,hk,hv,hd,hn,q1,q2,q3⟩;obtain⟨ld,lr,ra,h,hF,tj⟩:=id hS;refine{_,(sc (se<|aL T.j_ (mK T) hr<|ac (fl T.ak T.cR<|dv 0)<|ac (bY<|al 1<|al 2 an) an)<|sc (si (bj nN hr.u (Yy (dv 0) T.ak T.dj.e ((mM T).mono<|by decide) hr T.eU d1<|al 1 an) dn) (s1<|rC ⟨T.rS⟩ T.FO<|ac ds an) s0)<|sc (se<|bm zN zX zY cA (fl T.ak T.cJ<|dv 0)<|ac (bY<|ac ds<|al 1<|al 2 an) an)<|s1<|se<|xt (dv 0) T.ak T.bM (Az T) hr<|al 1<|al 2 an),?_};refine !{a,_,_,rfl,h.ins,rfl,_,rfl,_,rfl,cu,cs,k,v,rfl,hc,hk,hv,λF8=>?_,λxu=>fo<|q1 xu};refine !{a,_,rfl,h.ins,rfl,_,rfl,a,F,cs,dl,rs,k,.au,rfl,hS,hk,sD,λi hi=>?_,λhn=>by cases hn};cases hi;refine{_,rfl,?_};refine bQ (λh1=>?_) λh1=>?_;exact{sj,fo<|q2 F8<|nt h1};obtain⟨z,ws,rfl,rfl,hz⟩:=Eb F8;refine !{a,_,_,rfl,h.ins,rfl,{rfl,_,h.Ay},_,rfl,_,rfl,so,ld,dl,_,rfl,rfl,h.Ay,bg<|by lia,?_};have Ff:=h.Qc<|.tup [.str "put",.str z,.tup ws];have D_:cD t.ao (S.set ld<|.lst<|dl++[.tup [.str "put",.str z,.tup ws]]) a F cs (dl++[.tup [.str "put",.str z,.tup ws]]) rs:=⟨ld,lr,ra,Ff,hF,tj⟩;have hl:=IK hS z;refine !{a,_,rfl,Ff.ins,rfl,_,rfl,_,rfl,a,F,cs,_,rs,z,ws,rfl,D_,by rw[zE];exact Nat.lt_succ_of_le hl,by rw[zE];show dl.length+1<=_;lia,by lia,λS' F' qA hK=>fo<|q3 z ws rfl rfl F8 (nf h1) S' F' ?_ ?_};have:(dl++[D.tup [.str "put",.str z,.tup ws]]).length=dl.length+1:=zE;rw[this]at qA;exact qA;refine CC.trans (sC ?_) hK;rw[hF];exact zh _ zp
inductive fG (t:ib) (ds:List D) (S:aw) (R:KD) (Z:KX):Prop where
 |mk (a F cs dl rs k v) (h0:ds=[.ref a,k,v]) (h1:cD t.ao S a F cs dl rs) (h2:cs.length<=8) (h3:Gt S k) (h4:RC S v) (h5:dl.length<=8000) (h6:rs.length<=8000) (h7:(ot cs k v=false->Z t.gL S)) (h8:(ot cs k v=true->ah (Bc rs k dl.length)=true->Z t.mm S)) (h9:(∀z ws,k=.str z->v=.tup ws->ot cs k v=true->ah (Bc rs k dl.length)=false->∀S' F',cD t.ao S' a F' cs (dl++[.tup [.str "change",k,v]]) (ud (ox rs z dl.length) z (dl.length+1) ws)->CC F F' S S'->R .au S'))
theorem F9(T:Txt w K mg t):Bb P w mg base T.cS 6 (fG t):=by
 refine T.cS.F.bS qf ?_;obtain⟨a,F,cs,dl,rs,k,v,e,hS,hc,hk,hv,hd,hn,q1,q2,q3⟩;obtain⟨ld,lr,ra,h,hF,tj⟩:=id hS;refine{_,(sc (se<|aL T.j_ (mK T) hr<|ac (fl T.ak T.cR<|dv 0)<|ac (bY<|al 1<|al 2 an) an)<|sc (se<|xt (dv 0) T.ak T.ck (iY T) hr<|al 1 an)<|sc (se<|xt (dv 0) T.ak T.cn (IL T) hr<|al 1 an)<|sc (se<|bm zN zX zY cA (fl T.ak T.cJ<|dv 0)<|ac (bY<|ac ds<|al 1<|al 2 an) an)<|s1<|se<|xt (dv 0) T.ak T.bM (Az T) hr<|al 1<|al 2 an),?_};refine !{a,_,_,rfl,h.ins,rfl,_,rfl,_,rfl,cu,cs,k,v,rfl,hc,hk,hv,λF8=>?_,λxu=>fo<|q1 xu};refine !{a,_,rfl,h.ins,rfl,_,rfl,a,F,cs,dl,rs,k,rfl,hS,hk,λh1=>?_,λh1=>fo<|q2 F8 h1};obtain⟨z,ws,rfl,rfl,hz⟩:=Eb F8;have mO:∃s,lu rs z=some s/\s≠[]:=by rw[wM hz]at h1;have:=Ny h1;cases e:lu rs z with|none=>rw[e]at this;exact absurd rfl this|some s=>rw[e]at this;exact⟨s,rfl,this⟩
 refine !{a,_,rfl,h.ins,rfl,_,rfl,a,F,cs,dl,rs,z,rfl,hS,mO,by lia,λS1 D_ U9=>?_};obtain⟨RD,ZC,ZD,Ff,U_,Qg⟩:=id D_;refine !{a,_,_,rfl,Ff.ins,rfl,{rfl,_,Ff.Ay},_,rfl,_,rfl,so,RD,dl,_,rfl,rfl,Ff.Ay,bg<|by lia,?_};have h2:=Ff.Qc<|.tup [.str "change",.str z,.tup ws];have Va:cD t.ao (S1.set RD<|.lst<|dl++[.tup [.str "change",.str z,.tup ws]]) a F cs (dl++[.tup [.str "change",.str z,.tup ws]]) (ox rs z dl.length):=⟨RD,ZC,ZD,h2,U_,Qg⟩;have hl:=IK D_ z;have tR:(ox rs z dl.length).length<=rs.length+1:=LW _ _ _;refine !{a,_,rfl,h2.ins,rfl,_,rfl,_,rfl,a,F,cs,_,_,z,ws,rfl,Va,by rw[zE];exact Nat.lt_succ_of_le hl,by rw[zE];show dl.length+1<=_;lia,by lia,λS' F' qA hK=>fo<|q3 z ws rfl rfl F8 h1 S' F' ?_ ?_};have:(dl++[D.tup [.str "change",.str z,.tup ws]]).length=dl.length+1:=zE;rw[this]at qA;exact qA;refine U9.trans<|CC.trans (sC ?_) hK;rw[U_];exact zh _ zp
inductive iG (t:ib) (ds:List D) (S:aw) (R:KD) (Z:KX):Prop where
 |mk (a F cs dl rs k) (h0:ds=[.ref a,k]) (h1:cD t.ao S a F cs dl rs) (h2:Gt S k) (h3:dl.length<=8000) (h4:(ofStr kI k=false->Z t.gL S)) (h5:(ofStr kI k=true->ah (Bc rs k dl.length)=true->Z t.mm S)) (h6:(∀z,k=.str z->kI z=true->ah (Bc rs k dl.length)=false->∀S',cD t.ao S' a F cs (dl++[.tup [.str "take",k]]) (ox rs z dl.length)->CC F F S S'->R .au S'))
theorem LX(T:Txt w K mg t):Bb P w mg base T.dY 6 (iG t):=by
 refine T.dY.F.bS t_ ?_;obtain⟨a,F,cs,dl,rs,k,e,hS,hk,hd,q1,q2,q3⟩;obtain⟨ld,lr,ra,h,hF,tj⟩:=id hS;refine{_,(sc (si (cy<|tv<|aL T.lI (gY T) hr<|al 1 an) (s1<|rC ⟨T.gO⟩ T.j9<|ac ds an) s0)<|sc (se<|xt (dv 0) T.ak T.ck (iY T) hr<|al 1 an)<|sc (se<|xt (dv 0) T.ak T.cn (IL T) hr<|al 1 an)<|s1<|se<|bm zN zX zY cA (fl T.ak T.cJ<|dv 0)<|ac (bY<|ac ds<|al 1 an) an),?_};refine !{k,rfl,hk,_,rfl,?_};refine bQ (λh0=>?_) λh0=>?_;exact{sj,fo<|q1<|nt h0};have h0:=nf h0;refine !{a,_,rfl,h.ins,rfl,_,rfl,a,F,cs,dl,rs,k,rfl,hS,hk,λh1=>?_,λh1=>fo<|q2 h0 h1};obtain⟨z,rfl,hz⟩:=Ea h0;have mO:∃s,lu rs z=some s/\s≠[]:=by rw[wM hz]at h1;have:=Ny h1;cases e:lu rs z with|none=>rw[e]at this;exact absurd rfl this|some s=>rw[e]at this;exact⟨s,rfl,this⟩
 refine !{a,_,rfl,h.ins,rfl,_,rfl,a,F,cs,dl,rs,z,rfl,hS,mO,by lia,λS1 D_ U9=>?_};obtain⟨RD,ZC,ZD,Ff,U_,Qg⟩:=id D_;refine !{a,_,_,rfl,Ff.ins,rfl,{rfl,_,Ff.Ay},_,rfl,cu,RD,dl,_,rfl,rfl,Ff.Ay,bg<|by lia,?_};refine fo<|q3 z rfl hz h1 _ {RD,ZC,ZD,Ff.Qc _,U_,Qg}<|U9.trans<|sC ?_;rw[U_];exact zh _ zp
inductive g_ (t:ib) (ds:List D) (S:aw) (R:KD) (Z:KX):Prop where
 |mk (a cs) (h0:ds=[.ref a,.tup<|cs.map ay]) (h1:Gd cs) (h2:S a=some (.ins t.ao [])) (h3:∀S' F,cD t.ao S' a F cs [] []->CC [a] F S S'->R .au S')
theorem LY(T:Txt w K mg t):Bb P w mg base T.fz 5 (g_ t):=by
 refine T.fz.F.bS mG ?_;obtain⟨a,cs,e,hg,ha,q⟩;refine{_,(sc (se<|aL T.gz (ow T) hr<|al 1 an)<|sc (sf T.ak T.cR (dv 0)<|dv 1)<|sc (sf T.ak T.cJ (dv 0)<|cz an)<|s1<|sf T.ak T.bT (dv 0) TH),?_};refine !{cs,rfl,hg,_,rfl,_,rfl,a,[],rfl,ha,(show 0<1000 by decide),?_};refine{mH,λld RE=>!{a,[("columns",.tup<|cs.map ay)],rfl,?_,(show 1<1000 by decide),λlr tR=>!{a,[("columns",.tup<|cs.map ay),("deeds",.ref ld)],rfl,?_,(show 2<1000 by decide),?_}}};have nl:a≠ld:=by rintro rfl;rw[aa]at RE;cases RE
 rw[ag nl,aa];rfl;have nl:a≠lr:=by rintro rfl;rw[aa]at tR;cases tR
 rw[ag nl,aa];rfl;have n1:a≠ld:=by rintro rfl;rw[aa]at RE;cases RE
 have n2:a≠lr:=by rintro rfl;rw[aa]at tR;cases tR
 have n3:ld≠lr:=by rintro rfl;rw[ag n1.symm,aa]at tR;cases tR
 rw[ag n1.symm]at RE;rw[ag n2.symm,ag n3.symm,ag n2.symm]at tR;refine fo<|q _ (fp a ld lr []) {ld,lr,[],{aa,?_,?_,λr hr=>(nomatch hr),List.nodup_nil,(by simp),λr hr=>(nomatch hr)},rfl,rfl} λb c hb e=>?_;rw[ag n1.symm,ag n3,ag n1.symm,aa];rw[ag n2.symm,aa];rfl;have b1:b≠a:=λz=>hb (by rw[z];exact zp);have b2:b≠ld:=gx e RE;have b3:b≠lr:=gx e tR;refine{λm=>?_,by rw[ag b1,ag b3,ag b1,ag b2,ag b1];exact e};unfold fp at m;simp only[yU,zj,zM,or_false]at m;rcases m with m|m|m;exact b1 m;exact b2 m;exact b3 m
noncomputable def ue(rs:nA)(i:Int)(z:Str):D:=.tup [.str z,wt ((lu rs z).getD []) i]
noncomputable def ee(rs:nA)(i:Int)(ss:List Str):List D:=(ss.filter λz=>!ah (wt ((lu rs z).getD []) i)).map<|ue rs i
noncomputable def wN:D->Bool|.tup [_,x]=>!ah x|_=>false
theorem AA(ss:List Str):((ss.map<|ue rs i).filter wN).map id=ee rs i ss:=by unfold ee;rw[List.map_id,List.filter_map];rfl
def Nz(C N:Addr):kC:=λds S R Z=>∃a F cs dl rs m,ds=[.ref a,m]/\cD C S a F cs dl rs/\rs.length<64/\Gt S m/\(∀i ss,uc dl.length m=some i->ss.Perm (rs.map (·.1))->PyProof.Rows.sortedS ss=true->∀p,S p=none->R (.ref p) (S.set p<|.lst<|ee rs i ss))/\(uc dl.length m=none->Z N S)
theorem uY(T:Txt w K mg t):Bb P w mg base T.dF 3 (Nz t.ao t.dS):=by
 refine T.dF.F.bS eR ?_;obtain⟨a,F,cs,dl,rs,m,e,hS,hn,hm,q1,q2⟩;obtain⟨ld,lr,ra,h,hF,tj⟩:=id hS;have ek:(dM ra).map (·.1)=(rs.map (·.1)).map Sum.inr:=by rw[tj];unfold dM gZ;rw[zy,zy,zy];rfl
 have el:(dM ra).length<64:=by rw[tj]at hn;unfold gZ at hn;unfold dM;rw[zb]at hn⊢;exact hn
 refine{_,(sc (cj (i:=2) eR.nd<|xt (dv 0) T.ak T.cq (iX T) hr<|al 1 an)<|sc (HQ (i:=3) (N:=["key","then","self"]) (src:=[none,some 2,some 0]) eR.nd (jb (ae<|inClass bA 10) ["self","moment","then","rows"] rfl rfl<|by trivial) (il<|cb y1 T.gN e_<|ac (fl T.ak T.bT<|dv 0) an) (oX<|show(["key","then","self"]:List Str).Nodup by trivial) (aR rfl) aS (λ_ _ _ _ _=>nR) λ_ _ _ _ _=>(bY<|al 0<|ac (aL T.gb (jM T) hr<|ac (ix hr.u (fl T.ak T.bT<|dv 2)<|dv 0)<|al 1 an) an))<|s1<|sr<|tQ (N:=["row"]) (src:=[none]) (jb (ae<|inClass bA 10) ["self","moment","then","rows"] rfl rfl<|by trivial) (il<|dv 3) (oX<|show(["row"]:List Str).Nodup by trivial) (aR rfl) aS (λ_ _ _ _ _=>(if1<|bj nN hr.u (ix hr.u (dv 0) di) dn)) λ_ _ _ _ _=>(dv 0)),?_};refine !{a,_,rfl,h.ins,rfl,_,rfl,a,F,cs,dl,rs,m,rfl,hS,hm,λi hi=>?_,λhn=>fo<|q2 hn};refine !{a,_,_,rfl,h.ins,rfl,lr,dM ra,rs.map (·.1),rfl,h.run,ek,el,λss hp hs p kJ=>?_};have hlen:ss.length<64:=by rw[hp.length_eq,zb];exact hn
 refine{_,aa,?_};refine comp_map (λd=>match d with|.str z=>ue rs i z|_=>.au) aa (by show(ss.map D.str).length<=1000;rw[zb];omega) (λd hd Q hQ=>?_) λp2 eS=>?_;obtain⟨z,hz,rfl⟩:=zi.mp hd;have X_:z∈rs.map (·.1):=hp.mem_iff.mp hz;obtain⟨r,jc,e⟩:=zi.mp X_;rw[tj]at jc;unfold gZ at jc;obtain⟨r0,xu,rfl⟩:=zi.mp jc;have e1:tm ra z=some r0.2:=by cases e3:tm ra z with|none=>exact absurd e (mL e3 _ xu)|some x=>exact congrArg some<|congrArg Prod.snd<|gm (f:=λr:Str×Addr×List Std=>r.1) h.kn (dk (l:=x.1) (s:=x.2) e3) xu e.symm
 have ed:bZ (dM ra) (.inr z)=some (.ref r0.2.1):=by rw[g7,e1];rfl
 have hc:=h.cell _ xu;have eq:(lu rs z).getD []=r0.2.2:=by rw[tj,gB,e1];rfl
 have hQ:Q (.tup [.str z,wt ((lu rs z).getD []) i]) (S.set p<|.lst<|ss.map D.str):=hQ;rw[eq]at hQ;have hi1:(S.set p<|.lst<|ss.map D.str) a=_:=(ag<|gx h.ins kJ).trans h.ins;have F8:(S.set p<|.lst<|ss.map D.str) lr=_:=(ag<|gx h.run kJ).trans h.run;have Wy:(S.set p<|.lst<|ss.map D.str) r0.2.1=_:=(ag<|gx hc kJ).trans hc;exact !!{a,_,_,rfl,hi1,rfl,_,rfl,dM ra,_,F8,ed,_,rfl,_,_,i,rfl,Wy,cu,hQ};have em:(ss.map D.str).map (λd=>match d with|.str z=>ue rs i z|_=>.au)=ss.map (ue rs i):=by rw[zy];rfl
 refine !{ss.map<|ue rs i,by show((S.set p _).set p2<|.lst<|(ss.map D.str).map _) p2=_;rw[aa,em],?_};refine gX wN id (by show((S.set p _).set p2<|.lst<|(ss.map D.str).map _) p2=_;rw[aa,em]) (by show(ss.map<|ue rs i).length<=1000;rw[zb];omega) (λd hd Q Q' hQ LZ=>?_) λp3 L3=>?_;obtain⟨z,hz,rfl⟩:=zi.mp hd;refine !!!⟨?_⟩;exact bQ (λh=>!⟨hQ h⟩) λh=>LZ h;have ZE:S p3=none:=by cases e:S p3 with|none=>rfl|some c=>exact absurd L3<|by rw[ag (gx e<|by have:(S.set p<|.lst<|ss.map D.str) p2=none:=eS;cases e':S p2 with|none=>rfl|some c'=>rw[ag<|gx e' kJ,e']at this;cases this),ag<|gx e kJ,e];exact nofun
 refine{S.set p3<|.lst<|ee rs i ss,λb c hb=>?_,q1 i ss hi hp hs p3 ZE};show((((S.set p<|.lst<|ss.map D.str).set p2 _).set p3<|.lst<|((ss.map<|ue rs i).filter wN).map id)) b=some c;rw[AA];by_cases ZF:b=p3;subst ZF;rw[aa]at hb⊢;exact hb;rw[ag ZF]at hb;have ZG:S p2=none:=by cases e':S p2 with|none=>rfl|some c'=>have:(S.set p<|.lst<|ss.map D.str) p2=none:=eS;rw[ag<|gx e' kJ,e']at this;cases this
 rw[ag ZF,ag<|gx hb ZG,ag<|gx hb kJ];exact hb
theorem F_{S:aw}{p:Addr}{c:Ce}(h:S p=some c):S.set p c=S:=by funext b;by_cases e:b=p;subst e;rw[aa,h];rw[ag e]
theorem IM{S:aw}{p q:Addr}{c e:Ce}(h:S q=none)(hn:p≠q):Sub (S.set p c) ((S.set q e).set p c):=λb x hb=>by by_cases Vb:b=p;subst Vb;rw[aa]at hb⊢;exact hb;rw[ag Vb]at hb⊢;exact(Sub.new h) _ _ hb
theorem dpI:∀xs:List Int,DpAll S (xs.map D.int) (xs.map PyData.int)/\PyData.canLayAll0 (xs.map PyData.int)=true/\PyData.depthAll (xs.map PyData.int)<=0|[]=>{by simp only[yU,DpAll],rfl,zT _}|x::xs=>by obtain⟨a,b,c⟩:=dpI (S:=S) xs;exact{by simp only[zA,DpAll];exact{_,_,rfl,by simp only[Dp],a},by simp only[zA,PyData.canLayAll0,PyData.canLay0,b,Bool.and_self],by simp only[zA,PyData.depthAll,PyData.depth];lia}
theorem L4{S:aw}{a b:Addr}{xs:List Int}{R:KD}(e1:S a=some (.lst<|xs.map D.int))(e2:S b=some (.lst []))(q:R (.bl xs.isEmpty) S):DJ false (.ref a) (.ref b) S R:=by obtain⟨k1,k2,k3⟩:=dpI (S:=S) xs;refine{.list<|xs.map PyData.int,.list [],{_,_,e1,rfl,k1},{[],[],e2,rfl,by simp only[DpAll]},by simp only[PyData.canLay0];exact k2,by simp only[PyData.canLay0,PyData.canLayAll0],.inl<|by simp only[PyData.depth];lia,?_};rw[if_neg ze,show PyData.eqv (.list<|xs.map PyData.int) (.list [])=xs.isEmpty by cases xs<;>simp[PyData.eqv,PyData.eqvAll]];exact q
theorem L5{k n:Nat}(h:k<n):seqIndex? ((k:Nat):Int) n=some k:=by have e:(if ((k:Nat):Int)<0 then ((k:Nat):Int)+(n:Int) else ((k:Nat):Int))=((k:Nat):Int):=if_neg (by lia);unfold seqIndex?;dsimp only;rw[e,if_pos<|by simp;lia];rfl
theorem bx{p:Bool}{A B:Prop}(h:p=false)(q:B):if p=true then A else B:=by rw[h];exact a_ q
theorem iH{p:Bool}{A B:Prop}(h:p=true)(q:A):if p=true then A else B:=by rw[h];exact dD q
theorem bN{L:List D}{S:aw}{p:Addr}{n:Int}{R:KD}(h0:0<=n)(h1:n<(L.length:Int))(hp:S p=none)(q:∀d,d∈L->R d S):Yo p n (S.set p<|.lst L) λd S'=>Fo S' (R d):=by obtain⟨v,e1,e2⟩:=qw (l:=L) h0 h1;exact{L,v,aa,e1,S,.new hp,q v<|zx e2}
theorem mP{xs:List Int}{i:Int}{P:Int->Prop}(h0:0<=i)(h1:i<((xs.map D.int).length:Int))(h:∀x∈xs,P x):∃x,gE (xs.map D.int) i=some (.int x)/\P x:=by obtain⟨d,e1,e2⟩:=qw (l:=xs.map D.int) h0 h1;obtain⟨x,hx,rfl⟩:=zi.mp<|zx e2;exact{x,e1,h x hx}
inductive pA (ds:List D) (S:aw) (R:KD) (Z:KX):Prop where
 |mk (ns:List Int) (k:Nat) (h0:ds=[.j6<|ns.map D.int,.int k]) (h1:∀c:Int,R (.int c) S)
theorem iI(T:Txt w K mg t):Ok P w base T.fb 1 pA:=by
 refine T.fb.F.bS wG ?_;obtain⟨ns,k,e,q⟩;refine{_,(sc (si (bj pW hr.u (dv 1)<|cb ba T.aX aF<|al 0 an) (s1<|sr<|ix hr.u (dv 0)<|dv 1) s0)<|s1<|sr di),?_};refine !!!!⟨?_⟩;refine bQ (λh=>?_) λh=>?_;have h:(k:Int)<(((ns.map D.int).length:Nat):Int):=zC h;have hk:k<ns.length:=by rw[zb]at h;lia
 exact !!{.int ns[k],bG<|by rw[zg];simp[hk],fo<|q _};exact fo<|q 0
inductive uZ (ds:List D) (S:aw) (R:KD) (Z:KX):Prop where
 |mk (c:Int) (n:Nat) (h0:ds=[.int c,.int (n:Nat)]) (h1:n<=20) (h2:∀(xs:List Int) p,xs.length=n->(∀x∈xs,0<=x)->S p=none->R (.ref p) (S.set p<|.lst<|xs.map D.int))
theorem hG(T:Txt w K mg t):Ok P w base T.gf 1 uZ:=by
 refine T.gf.F.bS cL ?_;obtain⟨c,n,e,hn,q⟩;refine{_,(sc (cj (i:=2) cL.nd<|cz an)<|sc (cj (i:=3) cL.nd di)<|sc (vQ<|si (bj Ym hr.u (dv 0)<|bo l9 hr.u di di) (s1<|cj (i:=3) cL.nd<|bo rn hr.u (dv 0)<|bo l9 hr.u di di) s0)<|sc (vQ<|Y9 (twd<|twand (bj pX hr.u (dv 3) di)<|tw1<|bj pW hr.u (cb ba T.aX aF<|al 2 an)<|dv 1)<|sc (se<|bm zN zX zY cA (dv 2)<|ac (bo bp hr.u (dv 3)<|bo l9 hr.u di di) an)<|s1<|cj (i:=3) cL.nd<|bo bR hr.u (dv 3)<|bo l9 hr.u di di)<|sc (cj (i:=4) cL.nd<|bo bB hr.u (bo bp hr.u (dv 0)<|bo bB hr.u (bo l9 hr.u di di) di) di)<|sc (vQ<|DM (JU T.eE<|ac (bo bB hr.u (dv 1) di) an) (gn (i:=5) cL.nd)<|sc (cj (i:=4) cL.nd<|bo bp hr.u (bo bB hr.u (bo bB hr.u (bo rq hr.u (dv 4)<|dv 4)<|bo rq hr.u di<|dv 4)<|dv 5)<|bo bB hr.u (bo l9 hr.u di di) di)<|s1<|si (bj pX hr.u (dv 5) di) (s1<|se<|bm zN zX zY cA (dv 2)<|ac (bo bp hr.u (bo rq hr.u (dv 4)<|bo bB hr.u (bo bR hr.u (dv 4) di) di)<|bo bB hr.u (bo l9 hr.u di di) di) an) s0)<|s1<|sr<|P2 (dv 2) o0<|o1<|dv 1),?_};refine{mH,λlf Bd=>?_};refine{λaB S'=>∃r:Int,aB=[some<|.int c,some<|.int (n:Nat),some<|.ref lf,some<|.int r,none,none]/\S'=S.set lf (.lst []),?_,?_};refine{_,rfl,{by decide,by decide,by decide},_,rfl,bQ (λh=>?_) λh=>fo {0,rfl,rfl}};exact{_,rfl,{by decide,by decide,by decide},fo !⟨rfl⟩};rintro aB S' ⟨r,rfl,rfl⟩;refine{λaB S'=>∃(r:Int)(xs:List Int),aB=[some<|.int c,some<|.int (n:Nat),some<|.ref lf,some<|.int r,none,none]/\S'=S.set lf (.lst<|xs.map D.int)/\xs.length<=n/\∀x∈xs,0<=x,?_,?_};refine{λm aB S'=>∃(r:Int)(xs:List Int),aB=[some<|.int c,some<|.int (n:Nat),some<|.ref lf,some<|.int r,none,none]/\S'=S.set lf (.lst<|xs.map D.int)/\xs.length+m=n/\∀x∈xs,0<=x,{n,r,[],rfl,rfl,Nat.zero_add _,λ_ h=>(nomatch h)},?_};rintro m aB S' ⟨r,xs,rfl,rfl,hl,hx⟩;have hS:(S.set lf<|.lst<|xs.map D.int) lf=some (.lst<|xs.map D.int):=aa;refine !!⟨bQ (λh1=>!!⟨.inl {_,hS,_,rfl,_,rfl,bQ (λh2=>?_) λh2=>?_}⟩) λh1=>a_<|fo {r,xs,rfl,rfl,by lia,hx}⟩;have h2:(((xs.map D.int).length:Nat):Int)<((n:Nat):Int):=zC h2;rw[zb]at h2;refine{_,rfl,{rfl,_,hS},_,rfl,{by decide,by decide,by decide},by decide,lf,_,_,rfl,rfl,hS,bg<|by rw[zb];lia,?_};refine{_,rfl,{by decide,by decide,by decide},{by decide,by trivial},m-1,by lia,_,xs++[r%10^(15:Int).toNat],rfl,?_,by rw[zE];show xs.length+1+_=_;lia,λx EJ=>?_};rw[cF,zJ];rfl;rcases zP.mp EJ with h|h;exact hx x h;rw[zK.mp h];exact zO _ (by decide);exact fo {r,xs,rfl,rfl,by lia,hx};rintro aB S' ⟨r,xs,rfl,rfl,hl,hx⟩;have nb:∀z:Int,0<=z%1000000000000000009/\z%1000000000000000009<1000000000000000009:=λz=>{zO z<|by decide,zL z<|by decide};have e18:((10:Int)^(18:Int).toNat+9)=1000000000000000009:=by decide
 refine{_,rfl,{by decide,by decide,by decide},by decide,?_};refine{λaB S'=>∃(o4 o5:Option D)(ys:List Int),aB=[some<|.int c,some<|.int (n:Nat),some<|.ref lf,some<|.int r,o4,o5]/\S'=S.set lf (.lst<|ys.map D.int)/\n<=ys.length/\ys.length<=40/\∀x∈ys,0<=x,?_,?_};refine !{((n:Nat):Int)+3,rfl,by lia,by lia,?_};refine{λi aB S'=>∃(nu:Int)(o5:Option D)(ys:List Int),aB=[some<|.int c,some<|.int (n:Nat),some<|.ref lf,some<|.int r,some<|.int nu,o5]/\0<=nu/\nu<1000000000000048280/\S'=S.set lf (.lst<|ys.map D.int)/\ys.length=xs.length+(i-3)/\∀x∈ys,0<=x,?_,λ_ _ _ _=>trivial,?_,?_};have:=nb c;rw[e18];exact{_,none,xs,rfl,by lia,by lia,rfl,rfl,hx};rintro i d aB S' hd ⟨nu,o5,ys,rfl,n0,n1,rfl,hyl,hy⟩;have hd:(df 0 (((n:Nat):Int)+3).toNat)[i]?=some d:=hd;obtain⟨hi,rfl⟩:=cB hd;refine !!{.inl {by lia,by lia},_,rfl,.inl {by decide,by decide},_,rfl,{by decide,by decide,by decide},by decide,?_};rw[e18];have b1:=nb<|nu*nu+48271*nu+(0+(i:Nat));generalize (nu*nu+48271*nu+(0+(i:Nat)))%1000000000000000009=nu2 at b1⊢;have hS:(S.set lf<|.lst<|ys.map D.int) lf=some (.lst<|ys.map D.int):=aa;refine !!⟨bQ (λh=>?_) λh=>?_⟩;have h:(2:Int)<0+((i:Nat):Int):=zC h;refine{_,rfl,{rfl,_,hS},_,rfl,_,rfl,{by decide,by trivial},.inl {by lia,by lia},{by decide,by decide,by decide},by decide,lf,_,_,rfl,rfl,hS,bg<|by rw[zb];lia,?_};refine{nu2,_,ys++[nu2*(nu2/1009+69621)%(10^(18:Int).toNat+9)],rfl,by lia,by lia,?_,by rw[zE];show ys.length+1=_;lia,λx EJ=>?_};rw[cF,zJ];rfl;rcases zP.mp EJ with h|h;exact hy x h;rw[zK.mp h];exact zO _ (by decide);have h:¬(2:Int)<0+((i:Nat):Int):=zZ h;exact{nu2,_,ys,rfl,by lia,by lia,rfl,by lia,hy};rintro aB S' ⟨nu,o5,ys,rfl,_,_,rfl,hyl,hy⟩;rw[show({df 0 (((n:Nat):Int)+3).toNat,λ_=>True}:nQ).xs.length=(((n:Nat):Int)+3).toNat from bL]at hyl;exact fo {_,_,ys,rfl,rfl,by lia,by lia,hy};rintro aB S' ⟨o4,o5,ys,rfl,rfl,Nk,MO,hy⟩;refine !!!{_,aa,λp hp=>?_};have Ec:S p=none:=by rw[ag<|show p≠lf by rintro rfl;rw[aa]at hp;cases hp]at hp;exact hp
 have e:b_ (ys.map D.int) none (some ((n:Nat):Int))=(ys.take n).map D.int:=by unfold b_;rw[HT.sIx_nat,HT.sIx_none,zb,Nat.min_eq_left Nk,List.drop_zero,Nat.sub_zero,List.map_take]
 rw[e];refine{_,λb x hb=>?_,q (ys.take n) p (by rw[yp];lia) (λx EJ=>hy x<|List.mem_of_mem_take EJ) Ec};by_cases Vb:b=p;subst Vb;rw[aa]at hb⊢;exact hb;rw[ag Vb]at hb⊢;exact(Sub.new Bd) _ _ hb
inductive u0 (ds:List D) (S:aw) (R:KD) (Z:KX):Prop where
 |mk (p:Addr) (xs:List Int) (h0:ds=[.ref p]) (h1:S p=some (.lst<|xs.map D.int)) (h2:xs.length<=20) (h3:∀x∈xs,0<=x) (h4:∀(x:Int)(ys:List Int),0<=x->ys.length<=xs.length->(∀y∈ys,0<=y)->R (.int x) (S.set p<|.lst<|ys.map D.int))
theorem AB(T:Txt w K mg t):Ok P w base T.qE 1 u0:=by refine T.qE.F.bS Cv ?_;obtain⟨p,xs,e,hp,hl,hx,q⟩;refine{_,(sc (si (bj aU hr.u (dv 0)<|cz an) (s1<|sr di) s0)<|s1<|sr<|bm zN PySem.F.slot_list_pop PySem.F.type_list_pop Ll (dv 0)<|ac di an),?_};refine !{mH,λp2 eS=>L4 ((Sub.new eS) _ _ hp) aa !⟨?_⟩};cases xs with|nil=>refine iH rfl {S.set p<|.lst [],?_,q 3 [] (by decide) (zq _) λ_ h=>(nomatch h)};rw[F_<|show S p=some (.lst []) from hp];exact .new eS|cons x xs=>refine bx rfl !⟨{rfl,_,(Sub.new eS) _ _ hp},p,_,_,0,.int x,rfl,rfl,(Sub.new eS) _ _ hp,by decide,by decide,L5 (k:=0)<|by simp,rfl,?_⟩;refine{_,?_,q x xs (hx x zp) (by simp) λy hy=>hx y<|zh _ hy};exact IM eS λe=>by rw[e,eS]at hp;cases hp
noncomputable abbrev KW:List Str:=["a","ab","b","abc","z","a1","b22","aa","m","m0","ba","zzzzzzzzz"]
noncomputable abbrev KU:List Str:=["","0","b7","zz","9"]
noncomputable abbrev KS:List Str:=KW.flatMap λa=>KU.map λb=>a++b
theorem fH:∀z∈KS,kI z=true/\z.cps.size<=12/\PyData.strOk z=true:=by trivial
theorem Vc:∀a∈KW,∀b∈KU,a.length+b.length<=1000:=by trivial
noncomputable abbrev Be:List Str:=["key","a","ab","at","up","mark","b","price"]
theorem IP:∀z∈Be,kT z=true/\PyData.strOk z=true:=by trivial
noncomputable abbrev WDS:List Str:=["","a","ab","b","a b","B","~","=b"]
theorem Qh:∀z∈WDS,pf z=true:=by trivial
noncomputable def bh:D->Bool|.au=>true|.int _=>true|.str z=>decide (z.cps.size<=40)&&PyData.strOk z|_=>false
def Vg(kind:Str)(d:D):Prop:=i_ kind d=true/\bh d=true
theorem L6(h:pf z=true):bh (.str z)=true:=by unfold pf at h;rw[zI,yb]at h;show(decide (z.cps.size<=40)&&PyData.strOk z)=true;rw[h.1,ye];unfold PyData.strOk;rw[<-Array.all_toList,yb];intro c hc;have:=h.2 c hc;unfold D8 at this;simp only[zI,zR]at this⊢;lia
theorem Qi{k:Str}(h:k ="number")(i:Int):Vg k (.int i):={by rw[h];rfl,rfl}
theorem Qj{k:Str}(h:¬k ="number")(hz:pf z=true):Vg k (.str z):={by unfold i_;rw[if_neg h];exact hz,L6 hz}
theorem Ql(k:Str):Vg k .au:=⟨rfl,rfl⟩
inductive u3 (ds:List D) (S:aw) (R:KD) (Z:KX):Prop where
 |mk (k:Str) (x:Int) (h0:ds=[.str k,.int x]) (h1:∀d,Vg k d->R d S)
theorem sE(T:Txt w K mg t):Ok P w base T.mz 1 u3:=by refine T.mz.F.bS r9 ?_;obtain⟨k,x,e,q⟩;refine{_,(sc (si (bj aU hr.u (bo bp hr.u (dv 1) di) di) (s1<|sr dn) s0)<|sc (si (bj aU hr.u (dv 0) ds) (sc (cj (i:=2) r9.nd<|bo rq hr.u (bo bp hr.u (bo bR hr.u (dv 1) di)<|bo l9 hr.u di di)<|bo l9 hr.u di di)<|s1<|sr<|uM<|ix hr.u (cz<|ac di<|ac di<|ac di<|ac di<|ac (x6 di)<|ac (x6 di)<|al 2<|ac (bo rn hr.u di<|dv 2) an)<|bo bp hr.u (bo bR hr.u (dv 1) di) di) s0)<|s1<|sr<|uM<|ix hr.u (cz<|ac ds<|ac ds<|ac ds<|ac ds<|ac ds<|ac ds<|ac ds<|ac ds an)<|bo bp hr.u (bo bR hr.u (dv 1) di) di),?_};refine !{by decide,_,rfl,bQ (λ_=>fo<|q _<|Ql k) λ_=>!!⟨?_⟩};have i0:0<=x/5%8:=zO _ (by decide);have i1:x/5%8<8:=zL _ (by decide);refine bQ (λh=>?_) λh=>?_;have h:k ="number":=zC h;have g0:0<=x/40%10^(15:Int).toNat:=zO _ (by decide);have g1:x/40%10^(15:Int).toNat<10^(15:Int).toNat:=zL _ (by decide);refine{_,rfl,{by decide,by trivial},{by decide,by decide,by decide},by decide,{by decide,by decide,by decide},.inl {Int.lt_of_lt_of_le (by decide) g0,Int.lt_trans g1<|by decide},?_};generalize x/40%10^(15:Int).toNat*10^(44:Int).toNat=gr;refine !!!!{FW,λp hp=>!⟨{by decide,by trivial},by decide,bN i0 i1 hp λd hd=>?_⟩};have hd:d∈[D.int 0,.int 1,.int 2,.int 10,.int (-1),.int (-2),.int gr,.int<|0-gr]:=hd;simp only[zj,zM,or_false]at hd;rcases hd with rfl|rfl|rfl|rfl|rfl|rfl|rfl|rfl<;>exact fo (q _<|Qi h _);refine{FW,λp hp=>!⟨{by decide,by trivial},by decide,bN i0 i1 hp λd hd=>?_⟩};have hd:d∈WDS.map D.str:=hd;obtain⟨z,hz,rfl⟩:=zi.mp hd;exact fo<|q _<|Qj (zZ h)<|Qh z hz
inductive Ed (ds:List D) (S:aw) (R:KD) (Z:KX):Prop where
 |mk (x:Int) (h0:ds=[.int x]) (h1:∀z∈KS,R (.str z) S)
theorem CF(T:Txt w K mg t):Ok P w base T.Aq 1 Ed:=by
 refine T.Aq.F.bS Aw ?_;obtain⟨x,e,q⟩;refine{_,(sc (cj (i:=1) Aw.nd<|uM<|ix hr.u (cz<|ac ds<|ac ds<|ac ds<|ac ds<|ac ds<|ac ds<|ac ds<|ac ds<|ac ds<|ac ds<|ac ds<|ac ds an)<|bo bp hr.u (dv 0) di)<|s1<|sr<|bo bB hr.u (dv 1)<|uM<|ix hr.u (cz<|ac ds<|ac ds<|ac ds<|ac ds<|ac ds<|ac ds<|ac ds<|ac ds an)<|bo bp hr.u (bo bR hr.u (dv 0) di) di),?_};refine{U5,λp hp=>!{by decide,bN (zO _<|by decide) (zL _<|by decide) hp λd hd=>?_}};have hd:d∈KW.map D.str:=hd;obtain⟨a,ha,rfl⟩:=zi.mp hd;refine !{FW,λp hp=>!⟨{by decide,by trivial},by decide,bN (zO _<|by decide) (zL _<|by decide) hp λd hd=>?_⟩};obtain⟨b,hb,rfl⟩:∃b∈KU,d=.str b:=by have hd:d∈[D.str "",.str "",.str "",.str "",.str "0",.str "b7",.str "zz",.str "9"]:=hd;simp only[zj,zM,or_false]at hd;rcases hd with h|h|h|h|h|h|h|h<;>exact{_,by simp,h}
 exact{sm<|Vc a ha b hb,fo<|q _<|List.mem_flatMap.mpr {a,ha,zi.mpr ⟨b,hb,rfl⟩}}
theorem bO:∀{l:List α}{m:List β},Paired rel l m->∀{i:Nat}{b:β},m[i]?=some b->∃a,l[i]?=some a/\rel a b|_,_,.nil,_,_,h=>by simp at h|_,_,.cons r t,0,b,h=>(by rw[List.getElem?_cons_zero]at h⊢;cases h;exact{_,rfl,r})|_,_,.cons r t,i+1,b,h=>by rw[List.getElem?_cons_succ]at h⊢;exact bO t h
theorem oy:∀{l:List α}{m:List β},m.length=l.length->(∀(i:Nat) a b,l[i]?=some a->m[i]?=some b->rel a b)->Paired rel l m|[],[],_,_=>.nil|a::l,b::m,h,k=>.cons (k 0 a b rfl rfl)<|oy (by simpa using h) λi x y e1 e2=>k (i+1) x y (by rw[List.getElem?_cons_succ];exact e1)<|by rw[List.getElem?_cons_succ];exact e2
def Wg(cs:List<|Str×Str)(ws:List D):Prop:=Paired (λ(c:Str×Str) v=>Vg c.2 v) cs ws
noncomputable def sF(tr j:Nat):Str:=Be.getD ((tr+3*j)%8) ""
theorem IQ:∀tr<8,∀i<9,((List.range i).map<|sF tr).Nodup:=by trivial
theorem Qm(tr j:Nat):sF tr j∈Be:=by have:(tr+3*j)%8<8:=Nat.mod_lt _ (by decide);unfold sF;rw[zH,zf<|show(tr+3*j)%8<Be.length from this];exact List.getElem_mem _
theorem Qn(tr j:Nat):sF (tr%8) j=sF tr j:=by unfold sF;rw[show(tr%8+3*j)%8=(tr+3*j)%8 by lia]
def Cg(cs:List<|Str×Str):Prop:=Gd cs/\∀c∈cs,c.1∈Be
inductive pB (ds:List D) (S:aw) (R:KD) (Z:KX):Prop where
 |mk (c:Int) (h0:ds=[.int c]) (h1:∀cs,Cg cs->R (.tup<|cs.map ay) S)
theorem CG(T:Txt w K mg t):Ok P w base T.om 2 pB:=by
 refine T.om.F.bS cT ?_;obtain⟨c,e,q⟩;refine{_,(sc (cj (i:=1) cT.nd<|aL T.gf (hG T) hr<|al 0<|ac di an)<|sc (cj (i:=2) cT.nd<|cz<|ac ds<|ac ds<|ac ds<|ac ds<|ac ds<|ac ds<|ac ds<|ac ds an)<|sc (cj (i:=3) cT.nd<|uM<|ix hr.u (cz<|ac di<|ac di<|ac di<|ac di<|ac di<|ac di<|ac di<|ac di an)<|bo bp hr.u (ix hr.u (dv 1) di) di)<|sc (cj (i:=4) cT.nd<|cz an)<|sc (vQ<|DM (JU T.eE<|al 3 an) (gn (i:=5) cT.nd)<|sc (se<|bm zN zX zY cA (dv 4)<|ac (bY<|ac (ix hr.u (dv 2)<|bo bp hr.u (bo bB hr.u (ix hr.u (dv 1) di)<|bo rq hr.u di<|dv 5) di)<|ac (uM<|ix hr.u (cz<|ac ds<|ac ds an)<|bo bp hr.u (ix hr.u (dv 1) di) di) an) an)<|s1<|sls (dv 1) di<|bo bR hr.u (ix hr.u (dv 1) di) di)<|s1<|sr<|ct fU T.bu aW<|al 4 an),?_};refine !{c,3,rfl,by decide,λxs lx JX hx xQ=>?_};obtain⟨x0,x1,x2,rfl⟩:∃x0 x1 x2,xs=[x0,x1,x2]:=by match xs,JX with|[a,b,c],_=>exact⟨a,b,c,rfl⟩
 obtain⟨tr,rfl⟩:=Int.eq_ofNat_of_zero_le<|hx x1 (by simp);refine{FW,λln Uq=>?_};have GQ:((S.set lx<|.lst<|[x0,((tr:Nat):Int),x2].map D.int).set ln<|.lst<|Be.map D.str) lx=some (.lst<|[x0,((tr:Nat):Int),x2].map D.int):=(ag<|gx aa Uq).trans aa;have Nk:((S.set lx<|.lst<|[x0,((tr:Nat):Int),x2].map D.int).set ln<|.lst<|Be.map D.str) ln=some (.lst<|Be.map D.str):=aa;have s1:=(Sub.new (c:=.lst<|[x0,((tr:Nat):Int),x2].map D.int) xQ).trans<|.new (c:=.lst<|Be.map D.str) Uq;have nxn:lx≠ln:=gx aa Uq;rw[show[D.str "key",.str "a",.str "ab",.str "at",.str "up",.str "mark",.str "b",.str "price"]=Be.map D.str from rfl];generalize (S.set lx<|.lst<|[x0,((tr:Nat):Int),x2].map D.int).set ln (.lst<|Be.map D.str)=S1 at GQ Nk s1⊢;refine{FW,λp hp=>!{_,_,(Sub.new hp) _ _ GQ,rfl,by decide,bN (zO _<|by decide) (zL _<|by decide) hp λd hd=>?_}};obtain⟨m,rfl,hm⟩:∃m:Nat,d=.int m/\m<=8:=by have hd:d∈[D.int 1,.int 2,.int 3,.int 0,.int 2,.int 1,.int 8,.int 3]:=hd;simp only[zj,zM,or_false]at hd;rcases hd with h|h|h|h|h|h|h|h;exact{1,h,by decide};exact{2,h,by decide};exact{3,h,by decide};exact{0,h,by decide};exact{2,h,by decide};exact{1,h,by decide};exact{8,h,by decide};exact{3,h,by decide}
 refine{mH,λlf Bd=>?_};have adn:S1 lx≠none:=by rw[GQ];nofun
 have ZH:lx≠lf:=gx GQ Bd;have nnf:ln≠lf:=gx Nk Bd;have sz:=s1.trans<|Sub.new (c:=.lst []) Bd;have Qo:S lf=none:=by cases e:S lf with|none=>rfl|some z=>have:=s1 _ _ e;rw[Bd]at this;cases this
 refine{λaB S'=>∃(cs:List (Str×Str))(o6:Option D),aB=[some<|.int c,some<|.ref lx,some<|.ref ln,some<|.int (m:Nat),some<|.ref lf,o6]/\Cg cs/\S' lf=some (.lst<|cs.map ay)/\Sub S S',?_,?_};refine !{((m:Nat):Int),rfl,by lia,by lia,?_};refine{λi aB S'=>∃(cs:List (Str×Str))(y2:Int)(o6:Option D),aB=[some<|.int c,some<|.ref lx,some<|.ref ln,some<|.int (m:Nat),some<|.ref lf,o6]/\cs.map Prod.fst=(List.range i).map (sF tr)/\(∀c∈cs,c.2 ="number"\/c.2 ="word")/\S' lx=some (.lst<|[x0,((tr:Nat):Int),y2].map D.int)/\S' ln=some (.lst<|Be.map D.str)/\S' lf=some (.lst<|cs.map ay)/\Sub S S',{[],x2,none,rfl,rfl,λ_ h=>(nomatch h),(ag ZH).trans GQ,(ag nnf).trans Nk,aa,sz},λ_ _ _ _=>trivial,?_,?_};rintro i d aB S' hd ⟨cs,y2,o6,rfl,hn,hk,hX,hN,hF,hs⟩;have hd:(df 0 ((m:Nat):Int).toNat)[i]?=some d:=hd;obtain⟨hi,rfl⟩:=cB hd;have xP:cs.length=i:=by have:=congrArg List.length hn;simpa using this
 have enm:gE (Be.map D.str) ((((tr:Nat):Int)+3*(0+((i:Nat):Int)))%8)=some (.str<|sF tr i):=by rw[show(((tr:Nat):Int)+3*(0+((i:Nat):Int)))%8=(((tr+3*i)%8:Nat):Int) by lia];have eO:(tr+3*i)%8<8:=Nat.mod_lt _ (by decide);refine bG ?_;rw[zg];unfold sF;rw[zH,zf<|show(tr+3*i)%8<Be.length from eO];rfl
 refine{_,rfl,{rfl,_,hF},_,rfl,_,rfl,_,_,hX,rfl,_,rfl,.inl {by decide,by decide},by decide,_,_,hN,enm,cu,λp hp=>!{_,_,(Sub.new hp) _ _ hX,rfl,by decide,bN (zO _<|by decide) (zL _<|by decide) hp λd hd=>?_}};obtain⟨kd,rfl,Vd⟩:∃kd:Str,d=.str kd/\(kd ="number"\/kd ="word"):=by have hd:d∈[D.str "number",.str "word"]:=hd;simp only[zj,zM,or_false]at hd;rcases hd with h|h;exact{_,h,.inl rfl};exact{_,h,.inr rfl}
 refine{cu,lf,_,_,rfl,rfl,hF,bg<|by rw[zb];lia,?_};have xw:(S'.set lf<|.lst<|cs.map ay++[.tup [.str<|sF tr i,.str kd]]) lx=some (.lst<|[x0,((tr:Nat):Int),y2].map D.int):=(ag ZH).trans hX;refine !{_,_,xw,rfl,{by decide,by trivial},_,rfl,lx,_,2,2,rfl,rfl,xw,rfl,?_};refine{cs++[(sF tr i,kd)],y2/2,_,rfl,?_,?_,aa,(ag nxn.symm).trans<|(ag nnf).trans hN,?_,λb x hb=>?_};rw[zJ,hn,List.range_succ,zJ];rfl;intro c hc;rcases zP.mp hc with h|h;exact hk c h;rw[zK.mp h];exact Vd;rw[ag ZH.symm,aa,zJ];rfl;have hbx:b≠lx:=gx hb xQ;rw[ag hbx,ag<|gx hb Qo];exact hs b x hb;rintro aB S' ⟨cs,y2,o6,rfl,hn,hk,hX,hN,hF,hs⟩;rw[show({df 0 ((m:Nat):Int).toNat,λ_=>True}:nQ).xs.length=((m:Nat):Int).toNat from bL,show((m:Nat):Int).toNat=m by lia]at hn;have xP:cs.length=m:=by have:=congrArg List.length hn;simpa using this
 have Rf:∀c∈cs,c.1∈Be:=λc hc=>by have:c.1∈cs.map Prod.fst:=zi.mpr ⟨c,hc,rfl⟩;rw[hn]at this;obtain⟨j,_,e⟩:=zi.mp this;rw[<-e];exact Qm tr j
 have hnd:(cs.map Prod.fst).Nodup:=by rw[hn,zS λj _=>(Qn tr j).symm];exact IQ (tr%8) (Nat.mod_lt _<|by decide) m<|by lia
 exact fo {cs,_,rfl,{{by lia,hnd,λc hc=>{(IP _<|Rf c hc).1,hk c hc}},Rf},hF,hs};rintro aB S' ⟨cs,o6,rfl,hc,hF,hs⟩;exact !{_,_,rfl,.inl hF,S,hs,q cs hc}
inductive sG (ds:List D) (S:aw) (R:KD) (Z:KX):Prop where
 |mk (cs:List<|Str×Str) (l:Addr) (xs:List Int) (h0:ds=[.tup<|cs.map ay,.ref l]) (h1:Gd cs) (h2:S l=some (.lst<|xs.map D.int)) (h3:cs.length<=xs.length) (h4:∀ws,Wg cs ws->R (.tup ws) S)
theorem Ga(T:Txt w K mg t):Ok P w base T.rW 2 sG:=by
 refine T.rW.F.bS Ax ?_;obtain⟨cs,l,xs,e,hg,hl,JX,q⟩;have h8:=hg.1;refine{_,(s1<|sr<|ct fU T.bu aW<|ac (tQ (N:=["_law_k","_law_xs","_law_columns_here"]) (src:=[none,some 1,some 0]) (jb (ae Cc) ["_law_columns_here","_law_xs"] rfl rfl<|by trivial) (JU T.eE<|ac (cb ba T.aX aF<|al 0 an) an) (oX<|show(["_law_k","_law_xs","_law_columns_here"]:List Str).Nodup by trivial) (aR rfl) aS (λ_ _ _ _ _=>nR) λ_ _ _ _ _=>(aL T.mz (sE T) hr<|ac (ix hr.u (ix hr.u (dv 2)<|dv 0) di)<|ac (ix hr.u (dv 1)<|dv 0) an)) an),?_};refine !!!{by rw[zb];lia,by rw[zb];lia,?_};rw[zb];refine fF (λd v=>∃(j:Nat) (c:Str×Str),d=.int (0+(j:Nat))/\cs[j]?=some c/\Vg c.2 v) trivial (by show(df 0 _).length<=_;rw[bL];lia) (λd hd Q hQ=>?_) λout hp p kJ=>?_;obtain⟨j,hj⟩:=yt hd;have hj:(df 0 ((cs.length:Nat):Int).toNat)[j]?=some d:=hj;obtain⟨hjn,rfl⟩:=cB hj;have ZI:j<cs.length:=by lia
 have ec:=zf ZI;generalize cs[j]=c at ec;have ex:(xs.map D.int)[j]?=some (.int<|xs[j]'(by lia)):=by rw[zg,zf<|show j<xs.length by lia];rfl
 generalize xs[j]'_=x at ex;have ej:(0:Int)+((j:Nat):Int)=((j:Nat):Int):=Int.zero_add _;refine !!{ay c,by rw[ej];exact bG<|by rw[zg,ec];rfl,_,rfl,_,rfl,_,rfl,_,_,hl,by rw[ej];exact bG ex,c.2,x,rfl,λv hv=>hQ v ⟨j,c,rfl,ec,hv⟩};have hw:Wg cs out:=by have hlen:=yN hp;rw[show({df 0 ((cs.length:Nat):Int).toNat,λ_=>True}:nQ).xs=df 0 ((cs.length:Nat):Int).toNat from rfl,bL]at hlen;refine oy (by lia) λj c v ec ev=>?_;obtain⟨d,hd,j',c',e1,e2,hv⟩:=bO hp ev;have hd:(df 0 ((cs.length:Nat):Int).toNat)[j]?=some d:=hd;obtain⟨_,e3⟩:=cB hd;rw[e3]at e1;have e1:(0:Int)+((j:Nat):Int)=0+((j':Nat):Int):=D.int.inj e1;obtain rfl:j=j':=(by lia);rw[ec]at e2;cases e2;exact hv
 exact{_,out,rfl,.inl aa,S,.new kJ,q out hw}
abbrev Kn:=List<|Str×List D
noncomputable def jP(kn:Kn):List (Key×D):=kn.map λr=>(Sum.inr r.1,D.tup r.2)
noncomputable def iJ(kn:Kn)(z:Str):Option (List D):=(kn.find? λr=>decide<|r.1=z).map (·.2)
structure KI(cs:List (Str×Str))(kn:Kn):Prop where
 nd:(kn.map (·.1)).Nodup
 ok:∀r∈kn,r.1∈KS/\Wg cs r.2
theorem bP:iJ (r::kn) k=if r.1=k then some r.2 else iJ kn k:=by unfold iJ;rw[yc];by_cases h:r.1=k;rw[zu h,if_pos h];rfl;rw[zt h,if_neg h]
theorem sH(kn:Kn)(k:Str):bZ (jP kn) (.inr k)=(iJ kn k).map D.tup:=by induction kn with|nil=>rfl|cons r kn ih=>rw[bP];unfold bZ jP at *;rw[zA,yc];by_cases h:r.1=k;have:decide ((Sum.inr r.1:Key)=.inr k)=true:=zu (by rw[h]);dsimp only;rw[this,if_pos h];rfl;have:decide ((Sum.inr r.1:Key)=.inr k)=false:=zt λe=>h<|yP e;dsimp only;rw[this,if_neg h];exact ih
theorem mQ(h:iJ kn k=some ws):(k,ws)∈kn:=by induction kn with|nil=>(cases h)|cons r kn ih=>rw[bP]at h;by_cases hk:r.1=k;rw[if_pos hk]at h;cases h;rw[<-hk];exact zp;rw[if_neg hk]at h;exact zh _<|ih h
theorem jQ(h:k∈kn.map (·.1)):∃ws,iJ kn k=some ws:=by induction kn with|nil=>(cases h)|cons r kn ih=>rw[bP];by_cases hk:r.1=k;exact{r.2,if_pos hk};rw[if_neg hk];rw[zA]at h;rcases zj.mp h with e|h;exact absurd e.symm hk;exact ih h
theorem sub_len[DecidableEq α]:∀{l m:List α},l.Nodup->(∀x∈l,x∈m)->l.length<=m.length|[],m,_,_=>zT _|a::l,m,nd,h=>by obtain⟨n1,n2⟩:=yk.mp nd;have h1:=sub_len (m:=m.erase a) n2 λx hx=>(List.mem_erase_of_ne λe=>n1<|by rw[<-e];exact hx).mpr<|h x<|zh _ hx;have h2:=List.length_erase_of_mem<|h a zp;have h3:0<m.length:=List.length_pos_of_mem<|h a zp;rw[zQ];omega
theorem KI.len(h:KI cs kn):kn.length<=60:=by
 have:=sub_len h.nd (m:=KS) λx hx=>by obtain⟨r,hr,rfl⟩:=zi.mp hx;exact(h.ok r hr).1
 rw[zb]at this;exact zD this<|by trivial
noncomputable def qg(kn:Kn)(z:Str)(ws:List D):Kn:=if (iJ kn z).isSome then kn.map λr=>if r.1=z then (r.1,ws) else r else kn++[(z,ws)]
noncomputable def wO(kn:Kn)(z:Str):Kn:=kn.filter λr=>decide<|r.1≠z
theorem IS(kn:Kn)(z:Str)(ws:List D):dput (jP kn) (.inr z) (.tup ws)=jP (qg kn z ws):=by
 unfold dput qg;have e:((jP kn).any λkv=>decide<|kv.1=.inr z)=(iJ kn z).isSome:=by induction kn with|nil=>rfl|cons r kn ih=>unfold jP at *;rw[zA,yR,ih,bP];by_cases h:r.1=z;rw[if_pos h,zu<|by rw[h],Bool.true_or];rfl;rw[if_neg h,zt λe=>h<|yP e,yW]
 rw[e];split;unfold jP;rw[zy,zy];refine zS λr _=>?_;dsimp only[Function.comp];by_cases h:r.1=z;rw[if_pos h,if_pos<|by rw[h]];rw[if_neg h,if_neg λe=>h<|yP e];unfold jP;rw[zJ];rfl
theorem Qp(kn:Kn)(z:Str):x5 (jP kn) (.inr z)=jP (wO kn z):=by unfold x5 wO jP;rw[List.filter_map];congr 1;refine List.filter_congr λr _=>?_;dsimp only[Function.comp];rw[yO];exact{λh e=>h<|by rw[e],λh e=>h<|yP e}
theorem L7:iJ (qg kn z ws) k=if k=z then some ws else iJ kn k:=by
 unfold qg;by_cases hs:(iJ kn z).isSome=true;rw[if_pos hs];by_cases hk:k=z;subst hk;rw[if_pos rfl];induction kn with|nil=>(cases hs)|cons r rs ih=>rw[zA,bP];by_cases h:r.1=k;rw[if_pos h,if_pos h];rw[if_neg h,if_neg h];rw[bP,if_neg h]at hs;exact ih hs
 rw[if_neg hk];clear hs;induction kn with|nil=>rfl|cons r rs ih=>rw[zA,bP,bP,ih];by_cases h:r.1=z;rw[if_pos h,if_neg<|show ¬r.1=k from λe=>hk<|e.symm.trans h,if_neg<|show ¬r.1=k from λe=>hk<|e.symm.trans h];rw[if_neg h]
 rw[if_neg hs];have hn:iJ kn z=none:=by cases e:iJ kn z<;>simp_all
 clear hs;induction kn with|nil=>rw[List.nil_append,bP];by_cases hk:k=z;rw[if_pos hk,if_pos hk.symm];rw[if_neg hk,if_neg λe=>hk e.symm]|cons r rs ih=>rw[bP]at hn;by_cases h:r.1=z;rw[if_pos h]at hn;cases hn;rw[if_neg h]at hn;rw[List.cons_append,bP,bP,ih hn];by_cases h2:r.1=k;rw[if_pos h2,if_pos h2,if_neg<|show ¬k=z from λe=>h<|h2.trans e];rw[if_neg h2,if_neg h2]
theorem L8:iJ (wO kn z) k=if k=z then none else iJ kn k:=by unfold wO;induction kn with|nil=>(split<;>rfl)|cons r kn ih=>rw[yq,bP];by_cases h:r.1=z;rw[if_neg<|by simp[h],ih];by_cases hk:k=z;rw[if_pos hk,if_pos hk];rw[if_neg hk,if_neg hk,if_neg<|show ¬r.1=k from λe=>hk<|e.symm.trans h];rw[if_pos<|by simp[h],bP,ih];by_cases hk:k=z;rw[if_pos hk,if_pos hk,if_neg<|show ¬r.1=k from λe=>h<|e.trans hk];rw[if_neg hk,if_neg hk]
theorem KI.put(h:KI cs kn)(hz:z∈KS)(hw:Wg cs ws):KI cs (qg kn z ws):=by
 unfold qg;split;refine{?_,λr hr=>?_};have:(kn.map λr=>if r.1=z then (r.1,ws) else r).map (·.1)=kn.map (·.1):=by rw[zy];exact zS λr _=>by dsimp only[Function.comp];split<;>rfl
 rw[this];exact h.nd;obtain⟨r0,xu,e⟩:=zi.mp hr;by_cases q:r0.1=z;rw[if_pos q]at e;subst e;exact{(h.ok r0 xu).1,hw};rw[if_neg q]at e;subst e;exact h.ok r0 xu;rename_i hs;refine{?_,λr hr=>?_};rw[zJ];refine l5 h.nd λm=>hs ?_;obtain⟨Wz,e⟩:=jQ m;show(iJ kn z).isSome=true;rw[show iJ kn z=some Wz from e];rfl;rcases zP.mp hr with hr|hr;exact h.ok r hr;rw[zK.mp hr];exact⟨hz,hw⟩
theorem KI.del(h:KI cs kn)(z:Str):KI cs (wO kn z):={(List.Sublist.map _ yo).nodup h.nd,λr hr=>h.ok r (yh.mp hr).1}
def GD(ks:List Str)(cs:List<|Str×Str)(kn:Kn)(d:D):Prop:=(∃z ws,z∈ks/\Wg cs ws/\iJ kn z=none/\d=.tup [.str "put",.str z,.tup ws])\/(∃z ws,z∈KS/\Wg cs ws/\(iJ kn z).isSome=true/\d=.tup [.str "change",.str z,.tup ws])\/∃z,z∈KS/\(iJ kn z).isSome=true/\d=.tup [.str "take",.str z]
def Ly(S:aw)(n:Nat)(d:D):Prop:=∃p,Dp S d p/\p.canLay0=true/\p.depth<=n
theorem Ly.all:∀{ds:List D},(∀d∈ds,Ly S n d)->∃ps:List PyData,DpAll S ds ps/\PyData.canLayAll0 ps=true/\PyData.depthAll ps<=n/\ps.length=ds.length|[],_=>{[],by simp only[DpAll],rfl,zT _,rfl}|d::ds,h=>by obtain⟨p,h1,h2,h3⟩:=h d zp;obtain⟨ps,k1,k2,k3,k4⟩:=Ly.all λx hx=>h x<|zh _ hx;refine{p::ps,by simp only[DpAll];exact⟨p,ps,rfl,h1,k1⟩,by simp only[PyData.canLayAll0,h2,k2,Bool.and_self],by simp only[PyData.depthAll];lia,by rw[zQ,zQ,k4]}
theorem Ly.tup{S:aw}{n:Nat}{ds:List D}(h:∀d∈ds,Ly S n d):Ly S (n+1) (.tup ds):=by obtain⟨ps,k1,k2,k3,_⟩:=Ly.all h;exact{.tuple ps,by simp only[Dp];exact⟨ps,rfl,k1⟩,by simp only[PyData.canLay0];exact k2,by simp only[PyData.depth];lia}
theorem Ly.str(h:PyData.strOk z=true):Ly S 0 (.str z):={.str z,by simp only[Dp],by simp only[PyData.canLay0];exact h,by simp only[PyData.depth];lia}
theorem Ly.le(h:Ly S n d)(l:n<=m):Ly S m d:=by obtain⟨p,a,b,c⟩:=h;exact{p,a,b,zD c l}
theorem Ly.au:Ly S 0 .au:={.none,by simp only[Dp],by simp only[PyData.canLay0],by simp only[PyData.depth];lia}
theorem Ly.plain(h:bh d=true):Ly S 0 d:=by cases d with|au=>exact Ly.au|int i=>exact{.int i,by simp only[Dp],by simp only[PyData.canLay0],by simp only[PyData.depth];lia}|str z=>have h:(decide (z.cps.size<=40)&&PyData.strOk z)=true:=h;rw[zI]at h;exact Ly.str h.2|_=>cases h
theorem Ly.dl(h:Ly S n d):∃p,Dl S d p/\p.canLay0=true/\p.depth<=n:=by obtain⟨p,a,b,c⟩:=h;refine{p,?_,b,c};cases d with|ref x=>simp only[Dp]at a|_=>exact a
theorem Ly.lst{S:aw}{n:Nat}{a:Addr}{ds:List D}(e:S a=some (.lst ds))(h:∀d∈ds,Ly S n d):∃p,Dl S (.ref a) p/\p.canLay0=true/\p.depth<=n+1/\∀b,S b=some (.lst ds)->Dl S (.ref b) p:=by obtain⟨ps,k1,k2,k3,_⟩:=Ly.all h;exact{.list ps,⟨ds,ps,e,rfl,k1⟩,by simp only[PyData.canLay0];exact k2,by simp only[PyData.depth];lia,λb hb=>⟨ds,ps,hb,rfl,k1⟩}
theorem eq_self(h:Ly S 64 d)(q:R (.bl<|!neg) S):DJ neg d d S R:=by
 obtain⟨p,a,b,c⟩:=h.dl;have e:(if neg then !PyData.eqv p p else PyData.eqv p p)=!neg:=by rw[SeqAt.eqv_refl p b];cases neg<;>rfl
 have Ve:∃p q,Dl S d p/\Dl S d q/\p.canLay0=true/\q.canLay0=true/\(p.depth<=64\/q.depth<=64)/\R (.bl<|if neg then !PyData.eqv p q else PyData.eqv p q) S:={p,p,a,a,b,b,.inl c,by rw[e];exact q};cases d with|int i=>(show R (.bl<|if neg then !decide (i=i) else decide (i=i)) S;rw[zu rfl];cases neg<;>exact q)|str i=>(show R (.bl<|if neg then !decide (i=i) else decide (i=i)) S;rw[zu rfl];cases neg<;>exact q)|_=>exact Ve
theorem hU{S:aw}{a b:Addr}{ds:List D}{R:KD}{neg:Bool}(e1:S a=some (.lst ds))(e2:S b=some (.lst ds))(h:∀d∈ds,Ly S 60 d)(q:R (.bl<|!neg) S):DJ neg (.ref a) (.ref b) S R:=by
 obtain⟨p,k1,k2,k3,k4⟩:=Ly.lst e1 h;have e:(if neg then !PyData.eqv p p else PyData.eqv p p)=!neg:=by rw[SeqAt.eqv_refl p k2];cases neg<;>rfl
 exact{p,p,k1,k4 b e2,k2,k2,.inl<|by lia,by rw[e];exact q}
theorem AD(ps:List PyData):PyData.eqv (.list ps) (.list [])=ps.isEmpty:=by cases ps<;>simp[PyData.eqv,PyData.eqvAll]
theorem IT(ps:List PyData):PyData.eqv (.tuple ps) (.tuple [])=ps.isEmpty:=by cases ps<;>simp[PyData.eqv,PyData.eqvAll]
theorem eq_nil{S:aw}{a b:Addr}{ds:List D}{R:KD}(e1:S a=some (.lst ds))(e2:S b=some (.lst []))(h:∀d∈ds,Ly S 60 d)(q:R (.bl ds.isEmpty) S):DJ false (.ref a) (.ref b) S R:=by obtain⟨ps,k1,k2,k3,k4⟩:=Ly.all h;refine{.list ps,.list [],⟨ds,ps,e1,rfl,k1⟩,{[],[],e2,rfl,by simp only[DpAll]},by simp only[PyData.canLay0];exact k2,by simp only[PyData.canLay0,PyData.canLayAll0],.inl<|by simp only[PyData.depth];lia,?_};rw[if_neg ze,AD,show ps.isEmpty=ds.isEmpty by cases ps<;>cases ds<;>first|rfl|cases k4];exact q
theorem L9{S:aw}{ds:List D}{R:KD}(h:∀d∈ds,Ly S 60 d)(q:R (.bl ds.isEmpty) S):DJ false (.tup ds) (.tup []) S R:=by obtain⟨ps,k1,k2,k3,k4⟩:=Ly.all h;refine{.tuple ps,.tuple [],by simp only[Dl,Dp];exact⟨ps,rfl,k1⟩,by simp only[Dl,Dp];exact{[],rfl,by simp only[DpAll]},by simp only[PyData.canLay0];exact k2,by simp only[PyData.canLay0,PyData.canLayAll0],.inl<|by simp only[PyData.depth];lia,?_};rw[if_neg ze,IT,show ps.isEmpty=ds.isEmpty by cases ps<;>cases ds<;>first|rfl|cases k4];exact q
theorem Wg.all(h:Wg cs ws):∀d∈ws,bh d=true:=by unfold Wg at h;induction h with|nil=>exact λ_ h=>(nomatch h)|cons r t ih=>intro d hd;rcases zj.mp hd with e|hd;rw[e];exact r.2;exact ih d hd
theorem Wg.ly{cs:List<|Str×Str}{ws:List D}(h:Wg cs ws){S:aw} : Ly S 1 (.tup ws):=Ly.tup λd hd=>Ly.plain<|h.all d hd
def Mo(sp:kC):kC:=λds S R Z=>∃R0 Z0,sp ds S R0 Z0/\(∀d S',R0 d S'->R d S')/\∀C S',Z0 C S'->Z C S'
theorem Qq(F:bI P w K mg base (fN P w mg) k f fd ps<|qz K sp):bI P w K mg base (fN P w mg) k f fd ps (qz K<|Mo sp):=F.imp <| by rintro vs H Q E ⟨ds,S,R,Z,v,hS,⟨R0,Z0,h,h1,h2⟩,hR,hZ⟩;exact{ds,S,R0,Z0,v,hS,h,λd S' u H' r=>hR d S' u H'<|h1 _ _ r,λC S' H' z=>hZ C S' H'<|h2 _ _ z}
abbrev NA:=jO
abbrev AE:=fG
abbrev IU:=iG
def ZJ(kn:Kn)(d:D)(qF:Kn):Prop:=(∃(n:Str) (z:Str) (ws:List D),(n ="put"\/n ="change")/\d=.tup [.str n,.str z,.tup ws]/\qF=qg kn z ws)\/∃z,(iJ kn z).isSome=true/\d=.tup [.str "take",.str z]/\qF=wO kn z
inductive CH (t:ib) (ds:List D) (S:aw) (R:KD) (Z:KX):Prop where
 |mk (a fs) (h0:S a=some (.ins t.ao fs)) (h1:fs.map Prod.fst=(["columns","deeds","runs"]:List Str)) (h2:((∃k v,ds=[.ref a,.tup [.str "put",k,v]]/\NA t [.ref a,k,v] S R Z)\/(∃k v,ds=[.ref a,.tup [.str "change",k,v]]/\AE t [.ref a,k,v] S R Z)\/∃k,ds=[.ref a,.tup [.str "take",k]]/\IU t [.ref a,k] S R Z))
theorem lk0:∀{fs:List (Str×D)},m∉fs.map Prod.fst->fs.lookup m=none|[],_=>rfl| (a,b)::fs,h=>by rw[zA,zj]at h;rw[yf,show(m==a)=false from beq_false_of_ne λe=>h<|.inl e];exact lk0 λq=>h<|.inr q
theorem ZK{fs:List<|Str×D}(h:fs.map Prod.fst=(["columns","deeds","runs"]:List Str)){m:Str}(hm:m∉(["columns","deeds","runs"]:List Str)):fs.lookup m=none:=lk0<|by rw[h];exact hm
def NB(t:ib):kC:=λds S R Z=>CH t ds S (λ_=>R .au) Z
theorem L_(T:Txt w K mg t):Ok P w base T.wg 7 (NB t):=by have jR:Bb P w mg base T.fc 6 (Mo<|NA t):=Qq<|Qf T;have fI:Bb P w mg base T.cS 6 (Mo<|AE t):=Qq<|F9 T;have iK:Bb P w mg base T.dY 6 (Mo<|IU t):=Qq<|LX T;refine T.wg.F.ok FT (λds S R Z ⟨_,_,_,_,h⟩=>by rcases h with⟨_,_,e,_⟩|⟨_,_,e,_⟩|⟨_,e,_⟩<;>rw[e]<;>rfl) λfT A outer s H E ds S R Z hr ⟨a,fs,ha,hf,h⟩=>?_;rcases h with⟨k,v,e,h⟩|⟨k,v,e,h⟩|⟨k,e,h⟩;subst e;refine{_,(s1<|si (bj aU hr.u (ix hr.u (dv 1) di) ds) (s1<|se<|xt (dv 0) T.ak T.fc jR hr<|ac (ix hr.u (dv 1) di)<|ac (ix hr.u (dv 1) di) an)<|s1<|si (bj aU hr.u (ix hr.u (dv 1) di) ds) (s1<|se<|xt (dv 0) T.ak T.cS fI hr<|ac (ix hr.u (dv 1) di)<|ac (ix hr.u (dv 1) di) an)<|s1<|se<|xt (dv 0) T.ak T.dY iK hr<|ac (ix hr.u (dv 1) di) an),?_};refine !!!⟨?_⟩;refine bQ (λ_=>?_) λh=>absurd h (by decide);exact !{a,_,rfl,ha,ZK hf<|by decide,_,rfl,_,rfl,_,rfl,_,rfl,_,Z,h,λd S' r=>fo r,λC S' z=>fo z};subst e;refine{_,(s1<|si (bj aU hr.u (ix hr.u (dv 1) di) ds) (s1<|se<|xt (dv 0) T.ak T.fc jR hr<|ac (ix hr.u (dv 1) di)<|ac (ix hr.u (dv 1) di) an)<|s1<|si (bj aU hr.u (ix hr.u (dv 1) di) ds) (s1<|se<|xt (dv 0) T.ak T.cS fI hr<|ac (ix hr.u (dv 1) di)<|ac (ix hr.u (dv 1) di) an)<|s1<|se<|xt (dv 0) T.ak T.dY iK hr<|ac (ix hr.u (dv 1) di) an),?_};refine !!!⟨?_⟩;refine bQ (λh=>absurd h<|by decide) λ_=>?_;refine !!!⟨?_⟩;refine bQ (λ_=>?_) λh=>absurd h (by decide);exact !{a,_,rfl,ha,ZK hf<|by decide,_,rfl,_,rfl,_,rfl,_,rfl,_,Z,h,λd S' r=>fo r,λC S' z=>fo z};subst e;refine{_,(s1<|si (bj aU hr.u (ix hr.u (dv 1) di) ds) (s1<|se<|xt (dv 0) T.ak T.fc jR hr<|ac (ix hr.u (dv 1) di)<|ac (ix hr.u (dv 1) di) an)<|s1<|si (bj aU hr.u (ix hr.u (dv 1) di) ds) (s1<|se<|xt (dv 0) T.ak T.cS fI hr<|ac (ix hr.u (dv 1) di)<|ac (ix hr.u (dv 1) di) an)<|s1<|se<|xt (dv 0) T.ak T.dY iK hr<|ac (ix hr.u (dv 1) di) an),?_};refine !!!⟨?_⟩;refine bQ (λh=>absurd h<|by decide) λ_=>?_;refine !!!⟨?_⟩;refine bQ (λh=>absurd h<|by decide) λ_=>?_;exact !{a,_,rfl,ha,ZK hf<|by decide,_,rfl,_,rfl,_,Z,h,λd S' r=>fo r,λC S' z=>fo z}
noncomputable def p3(p:Str×Str×Str):D:=.tup [.str p.1,.str p.2.1,.str p.2.2]
noncomputable def mR(z:Str):Bool:=decide (z ="up")||decide (z ="down")
noncomputable def Gb(z:Str):Bool:=decide (z ="first")||decide (z ="last")
theorem IV(z a b:Str)(x y:V):(([(a,x),(b,y)]:List (Str×V)).lookup z).isSome=(decide (z=a)||decide (z=b)):=by rw[yf,yf];by_cases h:z=a;rw[show(z==a)=true by simp[h],zu h];rfl;rw[show(z==a)=false by simp[h],zt h];by_cases h2:z=b;rw[show(z==b)=true by simp[h2],zu h2];rfl;rw[show(z==b)=false by simp[h2],zt h2];rfl
noncomputable def gp(cs:List<|Str×Str)(p:Str×Str×Str):Bool:=decide (p.1∈cs.map Prod.fst)&&(mR p.2.1&&Gb p.2.2)
noncomputable def CI(cs:List<|Str×Str)(ps:List<|Str×Str×Str)(wy:Str):Bool:=decide (ps.length<=8)&&(ps.all (gp cs)&&(decide ((ps.map Prod.fst).Nodup)&&mR wy))
theorem mT(l:List<|Str×D)(z:Str)(h:bZ (fj l) (.inr z)=some d):∃p∈l,p.1=z/\d=p.2:=by
 have all:∀(l:List (Str×D))(c:List (Key×D)),bZ (l.foldl (λc p=>dput c (.inr p.1) p.2) c) (.inr z)=some d->(∃p∈l,p.1=z/\d=p.2)\/bZ c (.inr z)=some d:=by intro l;induction l with|nil=>intro c h;exact .inr h|cons p l ih=>intro c h;rcases ih _ h with⟨q,hq,e⟩|h;exact .inl {q,zh _ hq,e};rw[y3]at h;by_cases e:(.inr z:Key)=.inr p.1;rw[if_pos e]at h;exact .inl {p,zp,(yP e).symm,(zU h).symm};rw[if_neg e]at h;exact .inr h
 rcases all l [] h with h|h;exact h;cases h
def ZL(p:Str×Str×Str):Prop:=p.1.cps.size<=1000/\p.2.1.cps.size<=1000/\p.2.2.cps.size<=1000
inductive AF (ds:List D) (S:aw) (R:KD) (Z:KX):Prop where
 |mk (z) (h0:ds=[.str z]) (h1:R (.bl<|mR z) S)
theorem u4(T:Txt w K mg t):Ok P w base T.wa 1 AF:=by refine T.wa.F.bS FQ ?_;obtain⟨z,e,q⟩;refine{_,(s1<|sr<|pV (cb cH T.av aq<|al 0<|ac (qx T.oZ jl) an)<|Fm<|YO T.Al (dv 0)<|dg (v:=.ref t.ju) T.vZ rfl λ_=>ij _),?_};refine !{_,_,_,_,rfl,cQ,rfl,_,rfl,dD !{z,rfl,rfl,?_}};rw[IV];exact fo q
inductive AG (ds:List D) (S:aw) (R:KD) (Z:KX):Prop where
 |mk (z) (h0:ds=[.str z]) (h1:R (.bl<|Gb z) S)
theorem Ge(T:Txt w K mg t):Ok P w base T.Cj 1 AG:=by refine T.Cj.F.bS FR ?_;obtain⟨z,e,q⟩;refine{_,(s1<|sr<|pV (cb cH T.av aq<|al 0<|ac (qx T.oZ jl) an)<|Fm<|YO T.Am (dv 0)<|dg (v:=.ref t.jv) T.v5 rfl λ_=>ij _),?_};refine !{_,_,_,_,rfl,cQ,rfl,_,rfl,dD !{z,rfl,rfl,?_}};rw[IV];exact fo q
inductive mU (ds:List D) (S:aw) (R:KD) (Z:KX):Prop where
 |mk (cs z) (h0:ds=[.tup<|cs.map ay,.str z]) (h1:Gd cs) (h2:z.cps.size<=1000) (h3:(∀k,(z,k)∈cs->R (.str k) S)) (h4:(z∉cs.map Prod.fst->R .au S))
theorem gC(T:Txt w K mg t):Ok P w base T.dW 3 mU:=by
 refine T.dW.F.bS tW ?_;obtain⟨cs,z,e,hg,hz,q1,q2⟩;refine{_,(sc (si (cy<|tv<|aL T.qC (sx T) hr<|al 1 an) (s1<|sr dn) s0)<|s1<|sr<|mg1 hr.u (ct HW T.IA Dz<|al 0 an)<|dv 1),?_};refine !{.str z,rfl,gt_str hz,_,rfl,?_};refine bQ (λh=>?_) λh=>?_;have h:kT z=false:=nt h;refine fo<|q2 λm=>?_;obtain⟨c,hc,rfl⟩:=zi.mp m;rw[(hg.2.2 c hc).1]at h;cases h;have ek:cs.map ay=(cs.map λc=>(c.1,D.str c.2)).map DQ:=by rw[zy];rfl
 refine !{(cs.map λc=>(c.1,D.str c.2)),by rw[ek],λp hp=>{p,_,rfl,aa,_,rfl,_,.inr z,aa,rfl,S,.new hp,?_}};have h1:=uN (cs.map λc=>(c.1,D.str c.2)) z;cases q3:bZ (fj<|cs.map λc=>(c.1,D.str c.2)) (.inr z) with|none=>(rw[q3]at h1;refine q2 λm=>?_;obtain⟨c,hc,e⟩:=zi.mp m;have:(cs.map λc=>(c.1,D.str c.2)).any (λp=>decide<|p.1=z)=true:=List.any_eq_true.mpr {_,zi.mpr ⟨c,hc,rfl⟩,zu e};rw[this]at h1;cases h1)|some d=>obtain⟨p,hp,e1,rfl⟩:=mT _ _ q3;obtain⟨c,hc,rfl⟩:=zi.mp hp;have e1:c.1=z:=e1;exact q1 c.2<|by rw[<-e1];exact hc
inductive u5 (ds:List D) (S:aw) (R:KD) (Z:KX):Prop where
 |mk (cs p) (h0:ds=[.tup<|cs.map ay,p3 p]) (h1:Gd cs) (h2:ZL p) (h3:R (.bl<|gp cs p) S)
theorem CJ(T:Txt w K mg t):Ok P w base T.wc 4 u5:=by
 have wQ:Ok P w base T.dW 3 (λds S R _=>∃cs z,ds=[.tup<|cs.map ay,.str z]/\Gd cs/\z.cps.size<=1000/\∀d,ah d=!decide (z∈cs.map Prod.fst)->R d S):=(gC T).Lq <| by rintro ds S R Z ⟨cs,z,e,hg,hz,q⟩;exact{cs,z,e,hg,hz,λk hk=>q _<|by rw[zu<|zi.mpr {_,hk,rfl}];rfl,λhn=>q _<|by rw[zt hn];rfl}
 refine T.wc.F.bS Ct ?_;obtain⟨cs,p,e,hg,hp,q⟩;refine{_,(sc (si (twd<|twor (cy<|tv<|cb cH T.av aq<|al 1<|ac (qx T.bu aW) an)<|tw1<|bj gH hr.u (cb ba T.aX aF<|al 1 an) di) (s1<|sr db) s0)<|s1<|sr<|pV (cm nN hr.u (aL T.dW wQ hr<|al 0<|ac (ix hr.u (dv 1) di) an) dn)<|pV (aL T.wa (u4 T) hr<|ac (ix hr.u (dv 1) di) an)<|Fm<|aL T.Cj (Ge T) hr<|ac (ix hr.u (dv 1) di) an),?_};refine !{_,_,_,_,rfl,aV,rfl,_,rfl,a_ !!!⟨a_ ?_⟩};refine !!!{cs,p.1,rfl,hg,hp.1,λd hd=>!⟨?_⟩};unfold gp at q;refine bQ (λh=>?_) λh=>?_;have h:(!ah d)=true:=h;rw[hd,Bool.not_not]at h;rw[h,ye]at q;refine !!{p.2.1,rfl,_,rfl,?_};refine bQ (λh2=>?_) λh2=>?_;rw[h2,ye]at q;exact !!{p.2.2,rfl,fo q};rw[h2,zW]at q;exact fo q;have h:(!ah d)=false:=h;rw[hd,Bool.not_not]at h;rw[h,zW]at q;exact fo q
inductive kW (t:ib) (ds:List D) (S:aw) (R:KD) (Z:KX):Prop where
 |mk (cs ps wy) (h0:ds=[.tup<|cs.map ay,.tup [.tup<|ps.map p3,.str wy]]) (h1:Gd cs) (h2:(∀p∈ps,ZL p)) (h3:(CI cs ps wy=true->R .au S)) (h4:(CI cs ps wy=false->Z t.lC S))
theorem jS(T:Txt w K mg t):Ok P w base T.fZ 5 (kW t):=by
 refine T.fZ.F.bS fA ?_;obtain⟨cs,ps,wy,e,hg,hp,q1,q2⟩;have RF:(ps.map p3).length=ps.length:=zb _;refine{_,(sc (si (twd<|twor (cy<|tv<|cb cH T.av aq<|al 1<|ac (qx T.bu aW) an)<|tw1<|bj gH hr.u (cb ba T.aX aF<|al 1 an) di) (s1<|rC ⟨T.dq⟩ T.eG<|ac ds an) s0)<|sc (cj (i:=2) fA.nd<|ix hr.u (dv 1) di)<|sc (si (twd<|twor (cy<|tv<|cb cH T.av aq<|al 2<|ac (qx T.bu aW) an)<|tw1<|bj pX hr.u (cb ba T.aX aF<|al 2 an)<|dg (v:=.int 8) T.jx {_,rfl} λ_=>aO _) (s1<|rC ⟨T.dq⟩ T.eG<|ac ds an) s0)<|sc (si (cy<|tv<|cb jq T.jz fh<|ac (tQ (N:=["part","columns"]) (src:=[none,some 0]) (jb (ae kQ) ["columns","order","parts","names"] rfl rfl<|by trivial) (GP<|dv 2) (oX<|show(["part","columns"]:List Str).Nodup by trivial) (aR rfl) aS (λ_ _ _ _ _=>nR) λ_ _ _ _ _=>(aL T.wc (CJ T) hr<|al 1<|al 0 an)) an) (s1<|rC ⟨T.dq⟩ T.eG<|ac ds an) s0)<|sc (HQ (i:=3) (N:=["part"]) (src:=[none]) fA.nd (jb (ae kQ) ["columns","order","parts","names"] rfl rfl<|by trivial) (GP<|dv 2) (oX<|show(["part"]:List Str).Nodup by trivial) (aR rfl) aS (λ_ _ _ _ _=>nR) λ_ _ _ _ _=>(ix hr.u (dv 0) di))<|sc (si (bj gH hr.u (lse (dv 3) T.aX T.Nv)<|cb ba T.aX aF<|al 3 an) (s1<|rC ⟨T.dq⟩ T.eG<|ac ds an) s0)<|s1<|si (cy<|tv<|aL T.wa (u4 T) hr<|ac (ix hr.u (dv 1) di) an) (s1<|rC ⟨T.dq⟩ T.eG<|ac ds an) s0),?_};refine !{_,_,_,_,rfl,aV,rfl,_,rfl,a_ !!!⟨a_ ?_⟩};refine !!!{_,_,_,_,rfl,aV,rfl,_,rfl,a_ !!!⟨?_⟩};refine bQ (λh=>?_) λh=>?_;have h:(8:Int)<(((ps.map p3).length:Nat):Int):=zC h;rw[RF]at h;exact{sj,fo<|q2<|by unfold CI;rw[zt<|by omega];rfl};have h:¬(8:Int)<(((ps.map p3).length:Nat):Int):=zZ h;rw[RF]at h;have h8:ps.length<=8:=by omega
 unfold CI at q1 q2;rw[zu h8,ye]at q1 q2;refine !{_,.inl rfl,?_};refine fF (λd v=>∃p,d=p3 p/\v=.bl (gp cs p)) trivial (by show(ps.map p3).length<=_;omega) (λd hd Q hQ=>?_) λout ho p kJ=>?_;obtain⟨p,NC,rfl⟩:=zi.mp hd;exact !!{cs,p,rfl,hg,hp p NC,hQ _ ⟨p,rfl,rfl⟩};have eo:out=(ps.map<|gp cs).map D.bl:=by have:∀{ps:List (Str×Str×Str)}{out:List D},Paired (λd v=>∃p,d=p3 p/\v=.bl (gp cs p)) (ps.map p3) out->out=(ps.map<|gp cs).map D.bl:=(by intro ps;induction ps with|nil=>(intro out h;cases h;rfl)|cons x ps ih=>intro out h;cases h with|cons r t=>obtain⟨p,e1,e2⟩:=r;have:x=p:=(by obtain⟨a,b,c⟩:=x;obtain⟨a',b',c'⟩:=p;unfold p3 at e1;injection e1 with e1;injection e1 with h1 e1;injection e1 with h2 e1;injection e1 with h3 _;injection h1 with h1;injection h2 with h2;injection h3 with h3;rw[show a=a' from h1,show b=b' from h2,show c=c' from h3]);rw[e2,ih t,<-this];rfl);exact this ho
 subst eo;refine{.ref p,ps.map<|gp cs,rfl,aa,_,rfl,?_};rw[show(ps.map<|gp cs).all id=ps.all (gp cs) from all_map];refine bQ (λha=>?_) λha=>?_;have ha:=nt ha;exact{sj,S,.new kJ,q2<|by rw[ha];rfl};have ha:=nf ha;rw[ha,ye]at q1 q2;refine !{_,.inl rfl,?_};refine comp_map (λd=>match d with|.tup (x::_)=>x|_=>.au) trivial (by show(ps.map p3).length<=_;omega) (λd hd Q hQ=>?_) λp2 eS=>?_;obtain⟨p,NC,rfl⟩:=zi.mp hd;exact !!⟨hQ⟩;have e3:(ps.map p3).map (λd=>match d with|.tup (x::_)=>x|_=>.au)=(ps.map Prod.fst).map D.str:=by rw[zy,zy];rfl
 rw[show({ps.map p3,λ_=>True}:nQ).xs=ps.map p3 from rfl,e3];have sb:Sub S ((S.set p<|.lst<|(ps.map<|gp cs).map D.bl).set p2<|.lst<|(ps.map Prod.fst).map D.str):=(Sub.new kJ).trans<|.new eS;have Va:((S.set p<|.lst<|(ps.map<|gp cs).map D.bl).set p2<|.lst<|(ps.map Prod.fst).map D.str) p2=some (.lst<|(ps.map Prod.fst).map D.str):=aa;generalize (S.set p<|.lst<|(ps.map<|gp cs).map D.bl).set p2 (.lst<|(ps.map Prod.fst).map D.str)=S2 at sb Va⊢;refine !{ps.map Prod.fst,Va,by rw[zb];omega,_,rfl,_,rfl,.inl {_,Va,_,rfl,?_}};have e4:decide ((((iQ<|ps.map Prod.fst).length:Nat):Int)=((((ps.map Prod.fst).map D.str).length:Nat):Int))=decide ((ps.map Prod.fst).Nodup):=by rw[yO,<-uI,zb];omega
 refine bQ (λhn=>?_) λhn=>?_;have hn:(!decide ((((iQ<|ps.map Prod.fst).length:Nat):Int)=((((ps.map Prod.fst).map D.str).length:Nat):Int)))=true:=hn;rw[e4]at hn;exact{sj,S,sb,q2<|by rw[nt hn];rfl};have hn:(!decide ((((iQ<|ps.map Prod.fst).length:Nat):Int)=((((ps.map Prod.fst).map D.str).length:Nat):Int)))=false:=hn;rw[e4]at hn;rw[nf hn,ye]at q1 q2;refine !!{wy,rfl,_,rfl,?_};refine bQ (λhw=>?_) λhw=>?_;exact{sj,S,sb,q2<|nt hw};exact{S,sb,q1<|nf hw}
def wR(o:Str)(c:Str×Str)(v:D):Prop:=o ="is"\/(v≠.au/\(o ="below"\/o ="above"\/(o ="begins"/\c.2 ="word")))
def Lf(cs:List<|Str×Str)(d:D):Prop:=d=.tup [.str "every"]\/(∃ks:List Str,d=.tup [.str "key",.tup<|ks.map .str]/\ks.length<=8/\∀k∈ks,k∈KS)\/∃(o:Str) (c:Str×Str) (v:D),c∈cs/\Vg c.2 v/\wR o c v/\d=.tup [.str o,.str c.1,v]
def Sg(cs:List<|Str×Str):Nat->D->Prop|0,_=>False|n+1,d=>Lf cs d\/(∃e,d=.tup [.str "not",e]/\Sg cs n e)\/∃(o:Str) (ds:List D),(o ="and"\/o ="or")/\d=.tup [.str o,.tup ds]/\ds.length<=8/\∀e∈ds,Sg cs n e
theorem Ee(h:Vg k v):Gt S v:=by have h:=h.2;cases v with|au=>(exact{{_,rfl},λz e=>by cases e})|int i=>(exact{{_,rfl},λz e=>by cases e})|str z=>unfold bh at h;simp only[zI,zR]at h;exact gt_str (by lia)|_=>cases h
noncomputable def mV:D->List D|.tup [.str o,.tup ds]=>(if o ="not" then[.tup ds] else if o ="and"\/o ="or" then ds else[])|.tup [.str o,e]=>(if o ="not" then[e] else[])|_=>[]
noncomputable def pC:Nat->D->Nat|0,_=>0|n+1,d=>((mV d).map<|pC n).sum+1
theorem wU(e:D):mV (.tup [.str "not",e])=[e]:=by cases e<;>rfl
theorem wV{o:Str}(h:o ="and"\/o ="or")(ds:List D):mV (.tup [.str o,.tup ds])=ds:=by rcases h with rfl|rfl<;>rfl
def Sq(cs:List<|Str×Str)(d:D):Prop:=Sg cs 7 d/\pC 7 d<=200
inductive hW (ds:List D) (S:aw) (R:KD) (Z:KX):Prop where
 |mk (es) (h0:ds=[.tup es]) (h1:es.length<=8) (h2:R (.bl true) S)
theorem pE(T:Txt w K mg t):Ok P w base T.dI 1 hW:=by refine T.dI.F.bS mC ?_;obtain⟨es,e,hl,q⟩;refine{_,(s1<|sr<|pV (cb cH T.av aq<|al 0<|ac (qx T.bu aW) an)<|Fm<|cm jn hr.u (cb ba T.aX aF<|al 0 an)<|dg (v:=.int 8) T.lG {_,rfl} λ_=>aO _),?_};refine !{_,_,_,_,rfl,aV,rfl,_,rfl,dD !!⟨?_⟩};have e1:decide (((es.length:Nat):Int)<=8)=true:=zu (by lia);show Fo S (R<|.bl<|decide<|((es.length:Nat):Int)<=8);rw[e1];exact fo q
inductive gD (ds:List D) (S:aw) (R:KD) (Z:KX):Prop where
 |mk (cs o c v) (h0:ds=[.tup<|cs.map ay,.tup [.str o,.str c.1,v]]) (h1:Gd cs) (h2:c∈cs) (h3:Vg c.2 v) (h4:wR o c v) (h5:R (.bl true) S)
theorem sI(T:Txt w K mg t):Ok P w base T.jE 4 gD:=by
 refine T.jE.F.bS jF ?_;obtain⟨cs,o,c,v,e,hg,hc,hv,ho,q⟩;have hn:∀k,(c.1,k)∈cs->k=c.2:=λk hk=>by have:=gm hg.2.1 hk hc rfl;rw[<-this]
 refine{_,(sc (cj (i:=2) jF.nd<|aL T.dW (gC T) hr<|al 0<|ac (ix hr.u (dv 1) di) an)<|sc (si (twd<|twor (bj eP hr.u (dv 2) dn)<|tw1<|cy<|tv<|aL T.jB (jK T) hr<|al 2<|ac (ix hr.u (dv 1) di) an) (s1<|sr db) s0)<|sc (si (bj aU hr.u (ix hr.u (dv 1) di) ds) (s1<|sr db) s0)<|sc (si (twd<|twand (bj aU hr.u (ix hr.u (dv 1) di) ds)<|tw1<|bj gH hr.u (dv 2) ds) (s1<|sr db) s0)<|s1<|sr<|cm nN hr.u (ix hr.u (dv 1) di) dn),?_};refine !!!{cs,c.1,rfl,hg,ou (hg.2.2 c hc).1,λk hk=>?_,λhk=>absurd (zi.mpr ⟨c,hc,rfl⟩) hk};cases hn k hk;refine !!⟨a_ !!!{c.2,v,rfl,Ee hv,_,rfl,?_}⟩;rw[hv.1];refine a_ !!!⟨?_⟩;rcases ho with rfl|⟨hvn,ho⟩;exact iH (by trivial)<|fo q;have Nl:ah v=false:=by cases v<;>first|rfl|exact absurd rfl hvn
 have e9:(!ah v)=true:=by rw[Nl];rfl
 have fin:Fo S (R<|.bl<|!ah v):=by rw[e9];exact fo q
 rcases ho with rfl|rfl|⟨rfl,hw⟩;refine bx (by trivial) !!!⟨bx (by trivial) !!⟨fin⟩⟩;refine bx (by trivial) !!!⟨bx (by trivial) !!⟨fin⟩⟩;refine bx (by trivial) !!!⟨iH (by trivial) !!⟨?_⟩⟩;rw[hw];exact bx (by trivial) !!⟨fin⟩
theorem Ma(h:z∈KS):z.cps.size<=1000:=zD (fH z h).2.1<|by decide
inductive pF (ds:List D) (S:aw) (R:KD) (Z:KX):Prop where
 |mk (cs n d) (h0:ds=[.tup<|cs.map ay,d]) (h1:Gd cs) (h2:Sg cs n d) (h3:R (.bl true) S)
theorem wW(T:Txt w K mg t):Ok P w base T.oi 5 pF:=by
 refine T.oi.F.bS wC ?_;obtain⟨cs,n,d,e,hg,hs,q⟩;refine{_,(sc (si (twd<|twor (cy<|tv<|cb cH T.av aq<|al 1<|ac (qx T.bu aW) an)<|twor (bj aU hr.u (cb ba T.aX aF<|al 1 an) di)<|tw1<|cy<|tv<|cb cH T.av aq<|ac (ix hr.u (dv 1) di)<|ac (qx T.oZ jl) an) (s1<|sr db) s0)<|sc (si (bj gH hr.u (mgk T.FN (by decide) (gK T.Cf)<|ix hr.u (dv 1) di)<|cb ba T.aX aF<|al 1 an) (s1<|sr db) s0)<|sc (si (bj vL hr.u (ix hr.u (dv 1) di)<|bY<|ac ds<|ac ds<|ac ds<|ac ds an) (s1<|sr<|aL T.jE (sI T) hr<|al 0<|al 1 an) s0)<|sc (si (bj aU hr.u (ix hr.u (dv 1) di) ds) (s1<|sr<|pV (aL T.dI (pE T) hr<|ac (ix hr.u (dv 1) di) an)<|Fm<|cb jq T.jz fh<|ac (tQ (N:=["key"]) (src:=[none]) (jb (ae Ac) ["columns","thing"] rfl rfl<|by trivial) (GP<|ix hr.u (dv 1) di) (oX<|show(["key"]:List Str).Nodup by trivial) (aR rfl) aS (λ_ _ _ _ _=>nR) λ_ _ _ _ _=>(aL T.lI (gY T) hr<|al 0 an)) an) s0)<|sc (si (bj vL hr.u (ix hr.u (dv 1) di)<|bY<|ac ds<|ac ds an) (s1<|sr<|aL T.dI (pE T) hr<|ac (ix hr.u (dv 1) di) an) s0)<|s1<|sr db),?_};cases n with|zero=>exact hs.elim|succ n =>
 rcases hs with (rfl|⟨ks,rfl,ZM,Ba⟩|⟨o,c,v,hc,hv,ho,rfl⟩)|⟨e,rfl,he⟩|⟨o,es,ho,rfl,JY,_⟩;refine !{_,_,_,_,rfl,aV,rfl,_,rfl,a_ !!!⟨bx rfl !!{_,_,_,_,rfl,cQ,rfl,_,rfl,a_ ?_}⟩};refine !!!!!!⟨bx rfl ?_⟩;exact !!{ua,rfl,rfl,_,rfl,bx (by trivial) !!!⟨bx (by trivial) !!{cu,rfl,rfl,_,rfl,bx (by trivial)<|fo q}⟩};refine !{_,_,_,_,rfl,aV,rfl,_,rfl,a_ !!!⟨bx rfl !!{_,_,_,_,rfl,cQ,rfl,_,rfl,a_ ?_}⟩};refine !!!!!!⟨bx rfl ?_⟩;refine !!{ua,rfl,rfl,_,rfl,bx (by trivial) !!!⟨iH (by trivial) ?_⟩};refine !!!{by rw[zb];exact ZM,_,rfl,dD !!{_,.inl rfl,?_}};refine comp_map (λ_=>.bl true) trivial (by show(ks.map D.str).length<=1000;rw[zb];lia) (λd hd Q hQ=>?_) λp hp=>?_;obtain⟨k,hk,rfl⟩:=zi.mp hd;refine !{.str k,rfl,gt_str<|Ma<|Ba k hk,?_};show Q (.bl<|kI k) S;rw[(fH k<|Ba k hk).1];exact hQ;have e2:(ks.map D.str).map (λ_=>D.bl true)=(ks.map λ_=>true).map D.bl:=by rw[zy,zy];rfl
 have e3:(ks.map λ_=>true).all id=true:=by rw[all_map];exact yb.mpr λ_ _=>rfl
 refine{.ref p,ks.map λ_=>true,rfl,?_,S,.new hp,?_};show(S.set p<|.lst<|(ks.map D.str).map _) p=_;rw[aa,e2];rw[e3];exact q;have h4:o ="is"\/o ="below"\/o ="above"\/o ="begins":=by rcases ho with h|⟨_,h|h|⟨h,_⟩⟩;exact .inl h;exact .inr<|.inl h;exact .inr<|.inr<|.inl h;exact .inr<|.inr<|.inr h
 refine !{_,_,_,_,rfl,aV,rfl,_,rfl,a_ !!!⟨bx rfl !!{_,_,_,_,rfl,cQ,rfl,_,rfl,a_ ?_}⟩};have fin:∀Zq:KX,gD [D.tup<|cs.map ay,.tup [.str o,.str c.1,v]] S (λd S'=>Fo S'<|R d) Zq:=λ_=>{cs,o,c,v,rfl,hg,hc,hv,ho,fo q};rcases h4 with rfl|rfl|rfl|rfl;exact !!!!!!⟨bx rfl !!{ua,rfl,rfl,_,rfl,iH (by trivial) !!⟨(fin _)⟩}⟩;exact !!!!!!⟨bx rfl !!{ua,rfl,rfl,_,rfl,iH (by trivial) !!⟨(fin _)⟩}⟩;exact !!!!!!⟨bx rfl !!{ua,rfl,rfl,_,rfl,iH (by trivial) !!⟨(fin _)⟩}⟩;exact !!!!!!⟨bx rfl !!{ua,rfl,rfl,_,rfl,iH (by trivial) !!⟨(fin _)⟩}⟩;refine !{_,_,_,_,rfl,aV,rfl,_,rfl,a_ !!!⟨bx rfl !!{_,_,_,_,rfl,cQ,rfl,_,rfl,a_ ?_}⟩};refine !!!!!!⟨bx rfl ?_⟩;exact !!{ua,rfl,rfl,_,rfl,bx (by trivial) !!!⟨bx (by trivial) !!{cu,rfl,rfl,_,rfl,bx (by trivial)<|fo q}⟩};have h8:es.length<=8:=by lia
 rcases ho with rfl|rfl;refine !{_,_,_,_,rfl,aV,rfl,_,rfl,a_ !!!⟨bx rfl !!{_,_,_,_,rfl,cQ,rfl,_,rfl,a_ ?_}⟩};refine !!!!!!⟨bx rfl ?_⟩;exact !!{ua,rfl,rfl,_,rfl,bx (by trivial) !!!⟨bx (by trivial) !!{cu,rfl,rfl,_,rfl,iH (by trivial) !!!{h8,fo q}}⟩};refine !{_,_,_,_,rfl,aV,rfl,_,rfl,a_ !!!⟨bx rfl !!{_,_,_,_,rfl,cQ,rfl,_,rfl,a_ ?_}⟩};refine !!!!!!⟨bx rfl ?_⟩;exact !!{ua,rfl,rfl,_,rfl,bx (by trivial) !!!⟨bx (by trivial) !!{cu,rfl,rfl,_,rfl,iH (by trivial) !!!{h8,fo q}}⟩}
inductive iZ (ds:List D) (S:aw) (R:KD) (Z:KX):Prop where
 |mk (l es cs m) (h0:ds=[.ref l]) (h1:S l=some (.lst es)) (h2:(es.flatMap mV).length<=900) (h3:(∀e∈es,Sg cs (m+1) e)) (h4:∀p,S p=none->R (.ref p) (S.set p<|.lst<|es.flatMap mV))
theorem oz(T:Txt w K mg t):Ok P w base T.gA 1 iZ:=by
 refine T.gA.F.bS dZ ?_;obtain⟨l,es,cs,m,e,hl,h8,JY,q⟩;refine{_,(sc (cj (i:=1) dZ.nd<|cz an)<|sc (vQ<|DM (il<|dv 0) (gn (i:=2) dZ.nd)<|sc (vQ<|si (bj aU hr.u (ix hr.u (dv 2) di) ds) (s1<|se<|bm zN zX zY cA (dv 1)<|ac (ix hr.u (dv 2) di) an) s0)<|s1<|si (bj vL hr.u (ix hr.u (dv 2) di)<|bY<|ac ds<|ac ds an) (s1<|se<|bm zN PySem.F.slot_list_extend PySem.F.type_list_extend Fv (dv 1)<|ac (ix hr.u (dv 2) di) an) s0)<|s1<|sr<|dv 1),?_};refine{mH,λf hf=>?_};have Bd:l≠f:=gx hl hf;refine{λaB S'=>∃o,aB=[some<|.ref l,some<|.ref f,o]/\S'=S.set f (.lst<|es.flatMap mV),?_,?_};refine !{es,(ag Bd).trans hl,?_};refine{λi aB S'=>∃o,aB=[some<|.ref l,some<|.ref f,o]/\S'=S.set f (.lst<|(es.take i).flatMap mV),⟨none,rfl,rfl⟩,?_,?_,?_};rintro i aB S' ⟨o,rfl,rfl⟩;exact(ag Bd).trans hl;rintro i e aB S' he ⟨o,rfl,rfl⟩;have he:es[i]?=some e:=he;have hem:=JY e<|zx he;have et:(es.take<|i+1).flatMap mV=(es.take i).flatMap mV++mV e:=by rw[List.take_add_one,he,List.flatMap_append];simp
 have Mb:((es.take i).flatMap mV).length+(mV e).length<=900:=by rw[<-zE,<-et];refine zD ?_ h8;(conv=>rhs;rw[<-List.take_append_drop (i+1) es,List.flatMap_append,zE]);exact Nat.le_add_right _ _
 generalize (es.take i).flatMap mV=fs at et Mb⊢;have RG:(S.set f<|.lst fs) f=some (.lst fs):=aa;have keep:mV e=[]->∃o,[some<|D.ref l,some<|D.ref f,some e]=[some<|.ref l,some<|.ref f,o]/\S.set f (.lst fs)=S.set f (.lst<|(es.take<|i+1).flatMap mV):=λh=>!⟨by rw[et,h,List.append_nil]⟩;have more:∀ds,mV e=ds->∃o,[some<|D.ref l,some<|D.ref f,some e]=[some<|.ref l,some<|.ref f,o]/\(S.set f<|.lst fs).set f (.lst<|fs++ds)=S.set f (.lst<|(es.take<|i+1).flatMap mV):=λds h=>!⟨by rw[et,h,cF]⟩;rcases hem with (rfl|⟨ks,rfl,_,_⟩|⟨o,c,v,_,_,ho,rfl⟩)|⟨e',rfl,Wb⟩|⟨o,ds,ho,rfl,Q5,hd⟩;refine{λqt S2=>qt=_/\S2=S.set f (.lst fs),!!!⟨bx (by trivial)<|fo ⟨rfl,rfl⟩⟩,?_};rintro _ _ ⟨rfl,rfl⟩;exact !!{cu,rfl,rfl,_,rfl,bx (by trivial)<|keep rfl};refine{λqt S2=>qt=_/\S2=S.set f (.lst fs),!!!⟨bx (by trivial)<|fo ⟨rfl,rfl⟩⟩,?_};rintro _ _ ⟨rfl,rfl⟩;exact !!{cu,rfl,rfl,_,rfl,bx (by trivial)<|keep rfl};rcases ho with rfl|⟨_,rfl|rfl|⟨rfl,_⟩⟩;refine{λqt S2=>qt=_/\S2=S.set f (.lst fs),!!!⟨bx (by trivial)<|fo ⟨rfl,rfl⟩⟩,?_};rintro _ _ ⟨rfl,rfl⟩;exact !!{cu,rfl,rfl,_,rfl,bx (by trivial)<|keep rfl};refine{λqt S2=>qt=_/\S2=S.set f (.lst fs),!!!⟨bx (by trivial)<|fo ⟨rfl,rfl⟩⟩,?_};rintro _ _ ⟨rfl,rfl⟩;exact !!{cu,rfl,rfl,_,rfl,bx (by trivial)<|keep rfl};refine{λqt S2=>qt=_/\S2=S.set f (.lst fs),!!!⟨bx (by trivial)<|fo ⟨rfl,rfl⟩⟩,?_};rintro _ _ ⟨rfl,rfl⟩;exact !!{cu,rfl,rfl,_,rfl,bx (by trivial)<|keep rfl};refine{λqt S2=>qt=_/\S2=S.set f (.lst fs),!!!⟨bx (by trivial)<|fo ⟨rfl,rfl⟩⟩,?_};rintro _ _ ⟨rfl,rfl⟩;exact !!{cu,rfl,rfl,_,rfl,bx (by trivial)<|keep rfl};refine{λqt S2=>qt=_/\S2=(S.set f<|.lst fs).set f (.lst<|fs++[e']),!!!⟨iH (by trivial) !⟨{rfl,_,RG},_,rfl,_,rfl,f,_,_,rfl,rfl,RG,bg<|by rw[wU]at Mb;simp at Mb;omega,fo ⟨rfl,rfl⟩⟩⟩,?_};rintro _ _ ⟨rfl,rfl⟩;exact !!{cu,rfl,rfl,_,rfl,bx (by trivial)<|more _<|wU e'};have ZO:=wV ho ds;rw[ZO]at Mb;rcases ho with rfl|rfl;refine{λqt S2=>qt=_/\S2=S.set f (.lst fs),!!!⟨bx (by trivial)<|fo ⟨rfl,rfl⟩⟩,?_};rintro _ _ ⟨rfl,rfl⟩;exact !!{cu,rfl,rfl,_,rfl,iH (by trivial) !⟨{rfl,_,RG},_,rfl,_,rfl,f,_,_,rfl,rfl,RG,sm<|by omega,more _ ZO⟩};refine{λqt S2=>qt=_/\S2=S.set f (.lst fs),!!!⟨bx (by trivial)<|fo ⟨rfl,rfl⟩⟩,?_};rintro _ _ ⟨rfl,rfl⟩;exact !!{cu,rfl,rfl,_,rfl,iH (by trivial) !⟨{rfl,_,RG},_,rfl,_,rfl,f,_,_,rfl,rfl,RG,sm<|by omega,more _ ZO⟩};rintro aB S' ⟨o,rfl,rfl⟩;refine fo {o,rfl,?_};rw[show({es,λS=>S l=some (.lst es)}:nQ).xs=es from rfl,yz];rintro aB S' ⟨o,rfl,rfl⟩;exact{_,rfl,fo<|q f hf}
theorem IW{cs:List<|Str×Str}{n:Nat}{d:D}(h:Sg cs (n+1) d):∀f∈mV d,Sg cs n f:=by
 rcases h with (rfl|⟨ks,rfl,_,_⟩|⟨o,c,v,_,_,ho,rfl⟩)|⟨e',rfl,Wb⟩|⟨o,ds,ho,rfl,Q5,hd⟩;exact nofun;exact nofun;exact nofun;rw[wU];exact λf hf=>by rw[zK.mp hf];exact Wb
 rw[wV ho];exact hd
theorem IX(n:Nat):∀es:List D,(es.map<|pC<|n+1).sum=es.length+((es.flatMap mV).map<|pC n).sum|[]=>rfl|e::es=>by have:=IX n es;rw[zA,List.sum_cons,zQ,List.flatMap_cons,zJ,List.sum_append,this,show pC (n+1) e=((mV e).map<|pC n).sum+1 from rfl];lia
theorem Qr{cs:List<|Str×Str}{n:Nat}{es:List D}(h:∀e∈es,Sg cs (n+1) e):(es.flatMap mV).length<=((es.flatMap mV).map<|pC n).sum:=by
 have h:∀f∈es.flatMap mV,Sg cs n f:=λf hf=>by obtain⟨e,he,hf⟩:=List.mem_flatMap.mp hf;exact IW (h e he) f hf
 generalize es.flatMap mV=fs at h⊢;induction fs with|nil=>exact zq _|cons f fs ih=>have h1:=h f zp;have ih:=ih λx hx=>h x<|zh _ hx;have:1<=pC n f:=(by cases n with|zero=>exact h1.elim|succ n=>exact Nat.le_add_left _ _);rw[zA,List.sum_cons,zQ];lia
inductive kX (ds:List D) (S:aw) (R:KD) (Z:KX):Prop where
 |mk (cs d) (h0:ds=[.tup<|cs.map ay,d]) (h1:Gd cs) (h2:Sq cs d) (h3:R .au S)
theorem jT(T:Txt w K mg t):Ok P w base T.f_ 6 kX:=by
 refine T.f_.F.bS bE ?_;obtain⟨cs,d,e,hg,hd,q⟩;refine{_,(sc (cj (i:=2) bE.nd<|cz<|al 1 an)<|sc (cj (i:=3) bE.nd di)<|sc (cj (i:=4) bE.nd di)<|s1<|Y9 (bj pX hr.u (cb ba T.aX aF<|al 2 an) di)<|sc (sau (i:=3) bE.nd di)<|sc (sau (i:=4) bE.nd<|cb ba T.aX aF<|al 2 an)<|sc (si (twd<|twor (bj pX hr.u (dv 3)<|dg (v:=.int 8) T.vX {_,rfl} λ_=>aO _)<|tw1<|bj pX hr.u (dv 4)<|dg (v:=.int 200) T.jy {_,rfl} λ_=>aO _) (s1<|rC ⟨T.iu⟩ T.o9<|ac ds an) s0)<|sc (si (cy<|tv<|cb jq T.jz fh<|ac (tQ (N:=["thing","columns"]) (src:=[none,some 0]) (jb (ae tU) ["columns","sieve","level","deep","parts"] rfl rfl<|by trivial) (il<|dv 2) (oX<|show(["thing","columns"]:List Str).Nodup by trivial) (aR rfl) aS (λ_ _ _ _ _=>nR) λ_ _ _ _ _=>(aL T.oi (wW T) hr<|al 1<|al 0 an)) an) (s1<|rC ⟨T.iu⟩ T.o9<|ac ds an) s0)<|s1<|cj (i:=2) bE.nd<|aL T.gA (oz T) hr<|al 2 an),?_};refine !{sj,λl0 RA=>?_};refine{λm aB S'=>∃(l:Addr) (es:List D) (dp p:Nat),aB=[some<|.tup<|cs.map ay,some d,some<|.ref l,some<|.int dp,some<|.int p]/\S' l=some (.lst es)/\Sub S S'/\(∀e∈es,Sg cs m e)/\dp+m=7/\p+(es.map<|pC m).sum<=200,{7,l0,[d],0,0,rfl,aa,.new RA,λe he=>by rw[zK.mp he];exact hd.1,rfl,by have:=hd.2;simp only[zA,yU,List.sum_cons,List.sum_nil];lia},?_};rintro m aB S' ⟨l,es,dp,p,rfl,hl,sb,JY,hdp,hp⟩;refine !!⟨.inl {_,hl,_,rfl,?_}⟩;refine bQ (λh1=>?_) λh1=>?_;have vF:0<es.length:=by have h1:(0:Int)<((es.length:Nat):Int):=zC h1;lia
 obtain⟨e0,he0⟩:=List.exists_mem_of_length_pos vF;obtain⟨n,rfl⟩:∃n,m=n+1:=by cases m with|zero=>exact(JY e0 he0).elim|succ n=>exact⟨n,rfl⟩
 have adw:=IX n es;have Td:=Qr (cs:=cs) (n:=n) (es:=es) JY;refine !!!!!⟨.inl {_,hl,_,rfl,?_}⟩;refine !!⟨bx (zt<|by lia) !!⟨bx (zt<|by lia) ?_⟩⟩;refine !{es,hl,?_};refine comp_map (λ_=>.bl true) hl (by show es.length<=1000;lia) (λe he Q hQ=>?_) λp1 tw=>?_;exact !!{cs,_,e,rfl,hg,JY e he,hQ};have e2:es.map (λ_=>D.bl true)=(es.map λ_=>true).map D.bl:=by rw[zy];rfl
 have e3:(es.map λ_=>true).all id=true:=by rw[all_map];exact yb.mpr λ_ _=>rfl
 refine{.ref p1,es.map λ_=>true,rfl,?_,_,rfl,?_};show(S'.set p1<|.lst<|es.map _) p1=_;rw[aa,e2];rw[e3];refine a_ ?_;have s1:=sb.trans<|.new (c:=.lst<|es.map λ_=>D.bl true) tw;have WA:(S'.set p1<|.lst<|es.map λ_=>D.bl true) l=some (.lst es):=(ag<|gx hl tw).trans hl;refine !{l,es,cs,n,rfl,WA,by lia,JY,λp2 h3=>?_};refine{n,Nat.lt_succ_self n,p2,es.flatMap mV,dp+1,p+es.length,?_,aa,s1.trans<|.new h3,λf hf=>?_,by lia,by lia};show[_,_,_,some<|D.int<|((dp:Nat):Int)+1,some<|D.int<|((p:Nat):Int)+((es.length:Nat):Int)]=_;rw[show(((dp:Nat):Int)+1)=((dp+1:Nat):Int) by lia,show(((p:Nat):Int)+((es.length:Nat):Int))=((p+es.length:Nat):Int) by lia];obtain⟨e,he,hf⟩:=List.mem_flatMap.mp hf;exact IW (JY e he) f hf;exact⟨S,sb,q⟩
noncomputable def IY(cs:List<|Str×Str)(z:Str):Nat:=(cs.map Prod.fst).idxOf z
noncomputable def aj(cs:List<|Str×Str)(ws:List D)(z:Str):D:=(ws[IY cs z]?).getD .au
noncomputable def ai(r:Str×List D):D:=.tup [.str r.1,.tup r.2]
theorem sJ:∀{l:List α}{m:List β},Paired rel l m->∀{i:Nat}{a:α},l[i]?=some a->∃b,m[i]?=some b/\rel a b|_,_,.nil,_,_,h=>by simp at h|_,_,.cons r t,0,a,h=>(by rw[List.getElem?_cons_zero]at h⊢;cases h;exact{_,rfl,r})|_,_,.cons r t,i+1,a,h=>by rw[List.getElem?_cons_succ]at h⊢;exact sJ t h
theorem oA(hg:Gd cs)(h:c∈cs):cs[IY cs c.1]?=some c/\(cs.map Prod.fst)[IY cs c.1]?=some c.1:=by
 have hm:c.1∈cs.map Prod.fst:=zi.mpr ⟨c,h,rfl⟩;have hi:(cs.map Prod.fst).idxOf c.1<(cs.map Prod.fst).length:=List.idxOf_lt_length_of_mem hm;have e1:(cs.map Prod.fst)[(cs.map Prod.fst).idxOf c.1]?=some c.1:=by rw[zf hi,List.getElem_idxOf]
 refine{?_,e1};obtain⟨j,ej⟩:=yt h;have ej1:(cs.map Prod.fst)[j]?=some c.1:=by rw[zg,ej];rfl
 obtain⟨b1,c1⟩:=zd.mp e1;obtain⟨b2,c2⟩:=zd.mp ej1;have:=(List.getElem_inj hg.2.1 (h₀:=b1) (h₁:=b2)).mp<|c1.trans c2.symm;unfold IY;rw[this];exact ej
theorem kh(hg:Gd cs)(hw:Wg cs ws)(h:c∈cs):ws[IY cs c.1]?=some (aj cs ws c.1)/\Vg c.2 (aj cs ws c.1):=by obtain⟨v,e,r⟩:=sJ hw (oA hg h).1;unfold aj;rw[e];exact⟨rfl,r⟩
noncomputable def kj:D->D->Bool|.au,.au=>true|.int i,.int j=>decide (i=j)|.str i,.str j=>decide (i=j)|_,_=>false
theorem aT(ha:bh a=true)(hb:bh b=true):kj a b=true↔a=b:=by cases a<;>cases b<;>first|(cases ha;done)|(cases hb;done)|simp[kj]
theorem mW(ha:bh a=true)(hb:bh b=true)(q:R (.bl<|if neg then !kj a b else kj a b) S):DJ neg a b S R:=by
 have mix:∀{a b:D},bh a=true->bh b=true->(∀p q,Dp S a p->Dp S b q->PyData.eqv p q=kj a b)->(∀i j,a=.int i->b≠.int j)->(∀i j,a=.str i->b≠.str j)->R (.bl<|if neg then !kj a b else kj a b) S->DJ neg a b S R:=by intro a b ha hb h h1 h2 q;obtain⟨p,p1,p2,p3⟩:=Ly.plain (S:=S) ha;obtain⟨r,r1,r2,r3⟩:=Ly.plain (S:=S) hb;have e:=h p r p1 r1;obtain⟨p',p1',p2',p3'⟩:=Ly.dl<|Ly.plain (S:=S) ha;cases a<;>cases b<;>first|(cases ha;done)|(cases hb;done)|exact absurd rfl (h1 _ _ rfl)|exact absurd rfl (h2 _ _ rfl)|exact{p,r,p1,r1,p2,r2,.inl<|by lia,by rw[e];exact q}
 cases a with|au=>(cases b with|au=>exact mix ha hb (λp q h1 h2=>by simp only[Dp]at h1 h2;subst h1 h2;rfl) nofun nofun q|int j=>exact mix ha hb (λp q h1 h2=>by simp only[Dp]at h1 h2;subst h1 h2;rfl) nofun nofun q|str j=>exact mix ha hb (λp q h1 h2=>by simp only[Dp]at h1 h2;subst h1 h2;rfl) nofun nofun q|_=>cases hb)|int i=>(cases b with|au=>exact mix ha hb (λp q h1 h2=>by simp only[Dp]at h1 h2;subst h1 h2;rfl) nofun nofun q|int j=>exact q|str j=>exact mix ha hb (λp q h1 h2=>by simp only[Dp]at h1 h2;subst h1 h2;rfl) nofun nofun q|_=>cases hb)|str i=>(cases b with|au=>exact mix ha hb (λp q h1 h2=>by simp only[Dp]at h1 h2;subst h1 h2;rfl) nofun nofun q|int j=>exact mix ha hb (λp q h1 h2=>by simp only[Dp]at h1 h2;subst h1 h2;rfl) nofun nofun q|str j=>exact q|_=>cases hb)|_=>cases ha
noncomputable def uf:D->D->Bool|.int i,.int j=>decide (i<j)|.str i,.str j=>nJ i j|_,_=>false
noncomputable def stP:D->D->Bool|.str i,.str j=>PySem.Txt.startswith i j|_,_=>false
noncomputable def AH(o:Str)(a b:D):Bool:=if o ="is" then kj a b else if ah a then false else if o ="below" then uf a b else if o ="above" then uf b a else stP a b
noncomputable def Gf:D->List D|.tup ds=>ds|_=>[]
noncomputable def Vf(cs:List<|Str×Str)(r:Str×List D)(f:D->Bool):D->Bool|.tup [.str _]=>true|.tup [.str o,e]=>(if o ="not" then !f e else if o ="key" then Bz (kB<|.str r.1) ((Gf e).map kB) else if o ="and" then (Gf e).all f else (Gf e).any f)|.tup [.str o,.str z,v]=>AH o (aj cs r.2 z) v|_=>false
noncomputable def bq(cs:List<|Str×Str)(r:Str×List D):Nat->D->Bool|0,_=>false|n+1,d=>Vf cs r (bq cs r n) d
theorem Ef(cs:List<|Str×Str)(r:Str×List D)(n:Nat)(o:Str)(e:D):bq cs r (n+1) (.tup [.str o,e])=if o ="not" then !bq cs r n e else if o ="key" then Bz (kB<|.str r.1) ((Gf e).map kB) else if o ="and" then (Gf e).all (bq cs r n) else (Gf e).any (bq cs r n):=rfl
theorem ND(cs:List<|Str×Str)(r:Str×List D)(n:Nat)(o z:Str)(v:D):bq cs r (n+1) (.tup [.str o,.str z,v])=AH o (aj cs r.2 z) v:=rfl
theorem AI(cs:List<|Str×Str)(r:Str×List D)(n:Nat)(ks:List D):bq cs r (n+1) (.tup [.str "key",.tup ks])=Bz (kB<|.str r.1) (ks.map kB):=by rw[Ef,if_neg<|by trivial,if_pos rfl];rfl
theorem AJ(cs:List<|Str×Str)(r:Str×List D)(n:Nat)(e:D):bq cs r (n+1) (.tup [.str "not",e])=!bq cs r n e:=by rw[Ef,if_pos rfl]
theorem AK(cs:List<|Str×Str)(r:Str×List D)(n:Nat)(es:List D):bq cs r (n+1) (.tup [.str "and",.tup es])=es.all (bq cs r n):=by rw[Ef,if_neg<|by trivial,if_neg<|by trivial,if_pos rfl];rfl
theorem Eg(cs:List<|Str×Str)(r:Str×List D)(n:Nat)(es:List D):bq cs r (n+1) (.tup [.str "or",.tup es])=es.any (bq cs r n):=by rw[Ef,if_neg<|by trivial,if_neg<|by trivial,if_neg<|by trivial];rfl
theorem lN{k:Str}(ha:Vg k a)(hb:Vg k b)(na:a≠.au)(nb:b≠.au):(∃i j,a=.int i/\b=.int j)\/∃i j,a=.str i/\b=.str j:=by obtain⟨a1,a2⟩:=ha;obtain⟨b1,b2⟩:=hb;cases a with|au=>exact absurd rfl na|int i=>(cases b with|au=>exact absurd rfl nb|int j=>exact .inl ⟨i,j,rfl,rfl⟩|str j=>(exfalso;unfold i_ at a1 b1;simp only[ah,yW]at a1 b1;by_cases e:k ="number";rw[if_pos e]at b1;cases b1;rw[if_neg e]at a1;cases a1)|_=>cases b2)|str i=>(cases b with|au=>exact absurd rfl nb|str j=>exact .inr ⟨i,j,rfl,rfl⟩|int j=>(exfalso;unfold i_ at a1 b1;simp only[ah,yW]at a1 b1;by_cases e:k ="number";rw[if_pos e]at a1;cases a1;rw[if_neg e]at b1;cases b1)|_=>cases b2)|_=>cases a2
theorem qG(h:Vg "word" a)(n:a≠.au):∃z,a=.str z:=by obtain⟨h1,h2⟩:=h;cases a with|au=>exact absurd rfl n|str z=>exact⟨z,rfl⟩|int i=>(unfold i_ at h1;rw[if_neg<|by trivial]at h1;cases h1)|_=>cases h2
theorem aY(h:ah a=false):a≠.au:=by rintro rfl;cases h
inductive lO (ds:List D) (S:aw) (R:KD) (Z:KX):Prop where
 |mk (cs r c) (h0:ds=[.tup<|cs.map ay,ai r,.str c.1]) (h1:Gd cs) (h2:Wg cs r.2) (h3:c∈cs) (h4:R (aj cs r.2 c.1) S)
theorem dA(T:Txt w K mg t):Ok P w base T.cC 2 lO:=by
 refine T.cC.F.bS Av ?_;obtain⟨cs,r,c,e,hg,hw,hc,q⟩;obtain⟨n1,n2⟩:=oA hg hc;refine{_,(s1<|sr<|ix hr.u (ix hr.u (dv 1) di)<|bm zN PySem.F.slot_list_index PySem.F.type_list_index rB (aL T.my (pq T) hr<|al 0 an)<|al 2 an),?_};refine !!!{cs,rfl,hg.1,λp hp=>?_};refine{{rfl,_,aa},_,rfl,(cs.map Prod.fst).map D.str,.str c.1,IY cs c.1,rfl,aa,rfl,?_,{.str c.1,by rw[zg,n2];rfl,by show(c.1==c.1)=true;simp},?_,?_};rw[List.all_map];exact yb.mpr λ_ _=>rfl;intro m u hm hu;rw[zg]at hu;cases e:(cs.map Prod.fst)[m]? with|none=>(rw[e]at hu;cases hu)|some z'=>rw[e]at hu;cases hu;show(z'==c.1)=false;have:z'≠c.1:=λq=>(by subst q;obtain⟨b1,c1⟩:=zd.mp e;obtain⟨b2,c2⟩:=zd.mp n2;have:=(List.getElem_inj hg.2.1 (h₀:=b1) (h₁:=b2)).mp<|c1.trans c2.symm;lia);simpa using this
 exact{_,bG (kh hg hw hc).1,S,.new hp,q}
inductive fJ (ds:List D) (S:aw) (R:KD) (Z:KX):Prop where
 |mk (o a b c) (h0:ds=[.str o,a,b]) (h1:Vg c.2 a) (h2:Vg c.2 b) (h3:wR o c b) (h4:R (.bl<|AH o a b) S)
theorem qh(T:Txt w K mg t):Ok P w base T.iw 1 fJ:=by
 refine T.iw.F.bS p_ ?_;obtain⟨o,a,b,c,e,ha,hb,ho,q⟩;refine{_,(sc (si (bj aU hr.u (dv 0) ds) (s1<|sr<|cm aU hr.u (dv 1)<|dv 2) s0)<|sc (si (bj eP hr.u (dv 1) dn) (s1<|sr db) s0)<|sc (si (bj aU hr.u (dv 0) ds) (s1<|sr<|cm pW hr.u (dv 1)<|dv 2) s0)<|sc (si (bj aU hr.u (dv 0) ds) (s1<|sr<|cm pX hr.u (dv 1)<|dv 2) s0)<|s1<|sr<|bm PySem.F.plainAttrs_str PySem.F.slot_str_startswith PySem.F.type_str_startswith HJ (dv 1)<|al 2 an),?_};unfold AH at q;rcases ho with rfl|⟨nb,ho⟩;rw[if_pos rfl]at q;exact !!⟨iH (by trivial) !!⟨mW ha.2 hb.2<|fo q⟩⟩;have ne:∀{A B:Bool},o≠"is"->R (.bl<|if o ="is" then A else B) S->R (.bl B) S:=λh q=>by rw[if_neg h]at q;exact q
 rcases ho with rfl|rfl|⟨rfl,hk⟩;rw[if_neg<|by trivial]at q;refine !!⟨bx (by trivial) !!⟨bQ (λh=>?_) λh=>?_⟩⟩;rw[if_pos h]at q;exact fo q;rw[if_neg<|by rw[show ah a=false from h];exact ze,if_pos rfl]at q;refine !!⟨iH (by trivial) !!⟨?_⟩⟩;rcases lN ha hb (aY h) nb with⟨i,j,rfl,rfl⟩|⟨i,j,rfl,rfl⟩<;>exact fo q;rw[if_neg<|by trivial]at q;refine !!⟨bx (by trivial) !!⟨bQ (λh=>?_) λh=>?_⟩⟩;rw[if_pos h]at q;exact fo q;rw[if_neg<|by rw[show ah a=false from h];exact ze,if_neg<|by trivial,if_pos rfl]at q;refine !!⟨bx (by trivial) !!⟨iH (by trivial) !!⟨?_⟩⟩⟩;rcases lN ha hb (aY h) nb with⟨i,j,rfl,rfl⟩|⟨i,j,rfl,rfl⟩<;>exact fo q;rw[if_neg<|by trivial]at q;refine !!⟨bx (by trivial) !!⟨bQ (λh=>?_) λh=>?_⟩⟩;rw[if_pos h]at q;exact fo q;rw[if_neg<|by rw[show ah a=false from h];exact ze,if_neg<|by trivial,if_neg<|by trivial]at q;refine !!⟨bx (by trivial) !!⟨bx (by trivial) ?_⟩⟩;rw[hk]at ha hb;obtain⟨i,rfl⟩:=qG ha<|aY h;obtain⟨j,rfl⟩:=qG hb nb;exact !{rfl,_,rfl,i,j,rfl,rfl,fo q}
def IZ(n:Nat):kC:=λds S R _=>∃cs d r,ds=[.tup<|cs.map ay,d,ai r]/\Gd cs/\Sg cs n d/\Wg cs r.2/\R (.bl<|bq cs r n d) S
theorem kl(T:Txt w K mg t):∀n,Ok P w base T.passes (3+n) (IZ n)
 |0=>by refine T.passes.F.ok (k:=2) uV (by rintro ds S R Z ⟨_,_,_,e,_⟩;exact by rw[e];rfl) (by rintro fT A outer s H E ds S R Z hr ⟨cs,d,r,e,hg,hs,_⟩;exact hs.elim)
 |n+1=>by
  refine T.passes.F.ok (k:=3+n) uV (by rintro ds S R Z ⟨_,_,_,e,_⟩;rw[e];rfl) ?_;obtain⟨cs,d,r,e,hg,hs,hw,q⟩;refine{_,(sc (si (bj aU hr.u (ix hr.u (dv 1) di) ds) (s1<|sr db) s0)<|sc (si (bj aU hr.u (ix hr.u (dv 1) di) ds) (s1<|sr<|cm vL hr.u (ix hr.u (dv 2) di)<|ix hr.u (dv 1) di) s0)<|sc (si (bj aU hr.u (ix hr.u (dv 1) di) ds) (s1<|sr<|Li<|aL T.passes (kl T n) hr<|al 0<|ac (ix hr.u (dv 1) di)<|al 2 an) s0)<|sc (si (bj aU hr.u (ix hr.u (dv 1) di) ds) (s1<|sr<|cb jq T.jz fh<|ac (tQ (N:=["inner","columns","row"]) (src:=[none,some 0,some 2]) (jb (ae Ad) ["columns","sieve","row"] rfl rfl<|by trivial) (GP<|ix hr.u (dv 1) di) (oX<|show(["inner","columns","row"]:List Str).Nodup by trivial) (aR rfl) aS (λ_ _ _ _ _=>nR) λ_ _ _ _ _=>(aL T.passes (kl T n) hr<|al 1<|al 0<|al 2 an)) an) s0)<|sc (si (bj aU hr.u (ix hr.u (dv 1) di) ds) (s1<|sr<|cb M7 T.Nu Hv<|ac (tQ (N:=["inner","columns","row"]) (src:=[none,some 0,some 2]) (jb (ae Ad) ["columns","sieve","row"] rfl rfl<|by trivial) (GP<|ix hr.u (dv 1) di) (oX<|show(["inner","columns","row"]:List Str).Nodup by trivial) (aR rfl) aS (λ_ _ _ _ _=>nR) λ_ _ _ _ _=>(aL T.passes (kl T n) hr<|al 1<|al 0<|al 2 an)) an) s0)<|s1<|sr<|aL T.iw (qh T) hr<|ac (ix hr.u (dv 1) di)<|ac (aL T.cC (dA T) hr<|al 0<|al 2<|ac (ix hr.u (dv 1) di) an)<|ac (ix hr.u (dv 1) di) an),?_};rcases hs with (rfl|⟨ks,rfl,ZM,Ba⟩|⟨o,c,v,hc,hv,ho,rfl⟩)|⟨e,rfl,he⟩|⟨o,es,ho,rfl,JY,Tr⟩;exact !!!⟨iH (by trivial)<|fo q⟩;refine !!!⟨bx (by trivial) !!!⟨iH (by trivial) ?_⟩⟩;refine !!!!{rfl,?_,?_};rw[List.all_map];exact yb.mpr λ_ _=>rfl;rw[AI]at q;exact fo q;rw[ND]at q;have fin:∀Zq,fJ [D.str o,aj cs r.2 c.1,v] S (λd S'=>Fo S'<|R d) Zq:=λ_=>{o,_,v,c,rfl,(kh hg hw hc).2,hv,ho,fo q};have h4:o ="is"\/o ="below"\/o ="above"\/o ="begins":=by rcases ho with h|⟨_,h|h|⟨h,_⟩⟩;exact .inl h;exact .inr<|.inl h;exact .inr<|.inr<|.inl h;exact .inr<|.inr<|.inr h
  rcases h4 with rfl|rfl|rfl|rfl;exact !!!⟨bx (by trivial) !!!⟨bx (by trivial) !!!⟨bx (by trivial) !!!⟨bx (by trivial) !!!⟨bx (by trivial) !!!!!!{cs,r,c,rfl,hg,hw,hc,_,rfl,_,rfl,fin _}⟩⟩⟩⟩⟩;exact !!!⟨bx (by trivial) !!!⟨bx (by trivial) !!!⟨bx (by trivial) !!!⟨bx (by trivial) !!!⟨bx (by trivial) !!!!!!{cs,r,c,rfl,hg,hw,hc,_,rfl,_,rfl,fin _}⟩⟩⟩⟩⟩;exact !!!⟨bx (by trivial) !!!⟨bx (by trivial) !!!⟨bx (by trivial) !!!⟨bx (by trivial) !!!⟨bx (by trivial) !!!!!!{cs,r,c,rfl,hg,hw,hc,_,rfl,_,rfl,fin _}⟩⟩⟩⟩⟩;exact !!!⟨bx (by trivial) !!!⟨bx (by trivial) !!!⟨bx (by trivial) !!!⟨bx (by trivial) !!!⟨bx (by trivial) !!!!!!{cs,r,c,rfl,hg,hw,hc,_,rfl,_,rfl,fin _}⟩⟩⟩⟩⟩;rw[AJ]at q;exact !!!⟨bx (by trivial) !!!⟨bx (by trivial) !!!⟨iH (by trivial) !!!!{cs,e,r,rfl,hg,he,hw,_,rfl,fo q}⟩⟩⟩;have hz:es.length<=1000:=by lia
  rcases ho with rfl|rfl;rw[AK]at q;refine !!!⟨bx (by trivial) !!!⟨bx (by trivial) !!!⟨bx (by trivial) !!!⟨iH (by trivial) !!{_,.inl rfl,?_}⟩⟩⟩⟩;refine comp_map (λd=>.bl<|bq cs r n d) trivial hz (λd hd Q hQ=>!!!{cs,d,r,rfl,hg,Tr d hd,hw,hQ}) λp hp=>?_;refine{.ref p,es.map<|bq cs r n,rfl,?_,S,.new hp,?_};show(S.set p<|.lst<|es.map _) p=_;rw[aa,zy];rfl;rw[all_map];exact q;rw[Eg]at q;refine !!!⟨bx (by trivial) !!!⟨bx (by trivial) !!!⟨bx (by trivial) !!!⟨bx (by trivial) !!!⟨iH (by trivial) !!{_,.inl rfl,?_}⟩⟩⟩⟩⟩;refine comp_map (λd=>.bl<|bq cs r n d) trivial hz (λd hd Q hQ=>!!!{cs,d,r,rfl,hg,Tr d hd,hw,hQ}) λp hp=>?_;refine{.ref p,es.map<|bq cs r n,rfl,?_,S,.new hp,?_};show(S.set p<|.lst<|es.map _) p=_;rw[aa,zy];rfl;rw[List.any_map];exact q
abbrev Row:=Str×List D
abbrev Part:=Str×Str×Str
theorem Qt{a b:Str}(h:a.cps.toList=b.cps.toList):a=b:=by obtain⟨x⟩:=a;obtain⟨y⟩:=b;exact congrArg Str.mk<|Array.ext' h
theorem Eh(a:Str):nJ a a=false:=zt<|List.lt_irrefl _
theorem km{a b:Str}(h:a≠b):nJ b a=!nJ a b:=by unfold nJ;rw[yu];simp only[decide_eq_true_iff,Bool.not_eq_true',yw];constructor;exact λh1 h2=>List.lt_irrefl _<|List.lt_trans h1 h2;intro h1;by_cases h2:b.cps.toList<a.cps.toList;exact h2;exact absurd (Qt<|List.le_antisymm (List.not_lt.mp h2)<|List.not_lt.mp h1) h
theorem CK(h1:nJ a b=true)(h2:nJ b c=true):nJ a c=true:=zu<|List.lt_trans (zC h1)<|zC h2
theorem Ei(a:D):uf a a=false:=by cases a<;>first|rfl|exact Eh _|exact zt (Int.lt_irrefl _)
theorem mX(ha:Vg k a)(hb:Vg k b)(na:a≠.au)(nb:b≠.au)(h:a≠b):uf b a=!uf a b:=by rcases lN ha hb na nb with⟨i,j,rfl,rfl⟩|⟨i,j,rfl,rfl⟩;have jg:i≠j:=λe=>h<|congrArg D.int e;show decide (j<i)=!decide (i<j);rw[yu];simp only[decide_eq_true_iff,Bool.not_eq_true',yw];lia;exact km λe=>h<|congrArg D.str e
theorem I0(h1:uf a b=true)(h2:uf b c=true):uf a c=true:=by cases a with|int i=>(cases b with|int j=>(cases c with|int l=>have h1:i<j:=zC h1;have h2:j<l:=zC h2;exact zu (by lia)|_=>cases h2)|_=>cases h1)|str i=>(cases b with|str j=>(cases c with|str l=>exact CK h1 h2|_=>cases h2)|_=>cases h1)|_=>cases h1
theorem I9(h:UG a b):uf a b=true:=by cases a with|int i=>(cases b with|int j=>exact zu h|_=>exact h.elim)|str i=>(cases b with|str j=>exact zu h|_=>exact h.elim)|_=>exact h.elim
noncomputable def cE(p:Part)(x y:D):Bool:=if (ah x != ah y)=true then ah x==decide (p.2.2 ="first") else uf x y==decide (p.2.1 ="up")
noncomputable def bH(cs:List<|Str×Str)(wy:Str):List Part->Row->Row->Bool|[],a,b=>nJ a.1 b.1==decide (wy ="up")|p::ps,a,b=>if kj (aj cs a.2 p.1) (aj cs b.2 p.1)=true then bH cs wy ps a b else cE p (aj cs a.2 p.1) (aj cs b.2 p.1)
theorem bxor:((!x)==u)=!(x==u):=by cases x<;>cases u<;>rfl
theorem cY(h:ah x=true):x=.au:=by cases x<;>first|rfl|cases h
theorem oB(hx:Vg k x)(hy:Vg k y)(h:x≠y):cE p y x=!cE p x y:=by unfold cE;cases nx:ah x with|true=>(cases ny:ah y with|true=>exact absurd ((cY nx).trans (cY ny).symm) h|false=>rw[if_pos<|by rfl,if_pos<|by rfl];cases decide (p.2.2 ="first")<;>rfl)|false=>cases ny:ah y with|true=>(rw[if_pos<|by rfl,if_pos<|by rfl];cases decide (p.2.2 ="first")<;>rfl)|false=>rw[if_neg<|by simp,if_neg<|by simp,mX hx hy (aY nx) (aY ny) h,bxor]
theorem Ej(hx:Vg k x)(hy:Vg k y)(hz:Vg k z)(Qu:x≠y)(hyz:y≠z)(h1:cE p x y=true)(h2:cE p y z=true):x≠z/\cE p x z=true:=by
 have ZP:x≠z:=by rintro rfl;have:=oB (p:=p) hx hy Qu;rw[h1,h2]at this;cases this
 refine{ZP,?_};unfold cE at h1 h2⊢;cases nx:ah x with|true=>(cases ny:ah y with|true=>exact absurd ((cY nx).trans (cY ny).symm) Qu|false=>rw[nx,ny,if_pos<|by rfl]at h1;cases nz:ah z with|true=>exact absurd ((cY nx).trans (cY nz).symm) ZP|false=>rw[if_pos<|by rfl];exact h1)|false=>cases ny:ah y with|true=>(rw[nx,ny,if_pos<|by rfl]at h1;cases nz:ah z with|true=>exact absurd ((cY ny).trans (cY nz).symm) hyz|false=>rw[ny,nz,if_pos<|by rfl]at h2;cases e:decide (p.2.2 ="first")<;>rw[e]at h1 h2<;>first|cases h1;done|cases h2;done)|false=>rw[nx,ny,if_neg<|by simp]at h1;cases nz:ah z with|true=>rw[ny,nz,if_pos<|by rfl]at h2;rw[if_pos<|by rfl];exact h2|false=>rw[ny,nz,if_neg<|by simp]at h2;rw[if_neg<|by simp];cases e:decide (p.2.1 ="up") with|true=>rw[e]at h1 h2;rw[I0 (a:=x) (b:=y) (c:=z) (by simpa using h1)<|by simpa using h2];rfl|false=>rw[e]at h1 h2;have h1:uf x y=false:=(by simpa using h1);have h2:uf y z=false:=(by simpa using h2);have a1:=mX hx hy (aY nx) (aY ny) Qu;have a2:=mX hy hz (aY ny) (aY nz) hyz;rw[h1]at a1;rw[h2]at a2;have a3:=I0 a2 a1;have a4:=mX hx hz (aY nx) (aY nz) ZP;rw[a3]at a4;cases q:uf x z with|true=>(rw[q]at a4;cases a4)|false=>rfl
def Pin(cs:List<|Str×Str)(ps:List Part):Prop:=∀p∈ps,∃c∈cs,c.1=p.1
section
variable{cs:List (Str×Str)}{wy:Str}
theorem Pin.tail(h:Pin cs<|p::ps):Pin cs ps:=λq hq=>h q<|zh _ hq
theorem qH(hg:Gd cs)(h:Pin cs<|p::ps):∃k,∀ws,Wg cs ws->Vg k (aj cs ws p.1):=by obtain⟨c,hc,e⟩:=h p zp;rw[<-e];exact{c.2,λws hw=>(kh hg hw hc).2}
theorem sL(hg:Gd cs):∀{ps:List Part}{a b:Row},Pin cs ps->Wg cs a.2->Wg cs b.2->a.1≠b.1->bH cs wy ps b a=!bH cs wy ps a b|[],a,b,_,_,_,h=>by show(nJ b.1 a.1==_)=!(nJ a.1 b.1==_);rw[km h,bxor]|p::ps,a,b,hp,ha,hb,h=>by obtain⟨k,hk⟩:=qH hg hp;have va:=hk _ ha;have vb:=hk _ hb;unfold bH;by_cases e:aj cs a.2 p.1=aj cs b.2 p.1;rw[if_pos<|(aT vb.2 va.2).mpr e.symm,if_pos<|(aT va.2 vb.2).mpr e];exact sL hg hp.tail ha hb h;rw[if_neg λq=>e ((aT vb.2 va.2).mp q).symm,if_neg λq=>e<|(aT va.2 vb.2).mp q];exact oB va vb e
theorem I_(hg:Gd cs):∀{ps:List Part}{a b c:Row},Pin cs ps->Wg cs a.2->Wg cs b.2->Wg cs c.2->a.1≠b.1->b.1≠c.1->a.1≠c.1->bH cs wy ps a b=true->bH cs wy ps b c=true->bH cs wy ps a c=true|[],a,b,c,_,_,_,_,h1,h2,h3,q1,q2=>(by have q1:(nJ a.1 b.1==decide (wy ="up"))=true:=q1;have q2:(nJ b.1 c.1==decide (wy ="up"))=true:=q2;show(nJ a.1 c.1==decide (wy ="up"))=true;cases e:decide (wy ="up") with|true=>rw[e]at q1 q2;rw[CK (b:=b.1) (by simpa using q1)<|by simpa using q2];rfl|false=>rw[e]at q1 q2;have q1:nJ a.1 b.1=false:=(by simpa using q1);have q2:nJ b.1 c.1=false:=(by simpa using q2);have a1:=km h1;have a2:=km h2;rw[q1]at a1;rw[q2]at a2;have a3:=CK a2 a1;have a4:=km h3;rw[a3]at a4;cases q:nJ a.1 c.1 with|true=>(rw[q]at a4;cases a4)|false=>rfl)|p::ps,a,b,c,hp,ha,hb,hc,h1,h2,h3,q1,q2=>by obtain⟨k,hk⟩:=qH hg hp;have va:=hk _ ha;have vb:=hk _ hb;have vc:=hk _ hc;unfold bH at q1 q2⊢;by_cases e1:aj cs a.2 p.1=aj cs b.2 p.1;rw[if_pos<|(aT va.2 vb.2).mpr e1]at q1;by_cases e2:aj cs b.2 p.1=aj cs c.2 p.1;rw[if_pos<|(aT vb.2 vc.2).mpr e2]at q2;rw[if_pos<|(aT va.2 vc.2).mpr<|e1.trans e2];exact I_ hg hp.tail ha hb hc h1 h2 h3 q1 q2;rw[if_neg λq=>e2<|(aT vb.2 vc.2).mp q]at q2;rw[e1,if_neg λq=>e2<|(aT vb.2 vc.2).mp q];exact q2;rw[if_neg λq=>e1<|(aT va.2 vb.2).mp q]at q1;by_cases e2:aj cs b.2 p.1=aj cs c.2 p.1;rw[<-e2,if_neg λq=>e1<|(aT va.2 vb.2).mp q];exact q1;rw[if_neg λq=>e2<|(aT vb.2 vc.2).mp q]at q2;obtain⟨e3,q3⟩:=Ej va vb vc e1 e2 q1 q2;rw[if_neg λq=>e3<|(aT va.2 vc.2).mp q];exact q3
def Rg(cs:List<|Str×Str)(rs:List Row):Prop:=(∀r∈rs,Wg cs r.2)/\(rs.map Prod.fst).Nodup
theorem Rg.perm(h:Rg cs rs)(p:cZ.Perm rs):Rg cs cZ:={λr hr=>h.1 r<|p.mem_iff.mp hr,(p.map _).nodup_iff.mpr h.2}
theorem Rg.sub(h:Rg cs rs)(p:cZ.Sublist rs):Rg cs cZ:={λr hr=>h.1 r<|p.subset hr,h.2.sublist<|p.map _}
theorem Mc(hg:Gd cs)(hp:Pin cs ps)(hr:Rg cs m)(hl:l.Pairwise λa b=>bH cs wy ps a b=true)(hm:m.Pairwise λa b=>bH cs wy ps a b=true)(pm:l.Perm m):l=m:=by refine List.Perm.eq_of_pairwise (le:=λa b=>bH cs wy ps a b=true) (λa b ha hb h1 h2=>?_) hl hm pm;have ha:=pm.mem_iff.mp ha;by_cases e:a.1=b.1;exact gm (f:=Prod.fst) hr.2 ha hb e;have:=sL (wy:=wy) hg hp (hr.1 a ha) (hr.1 b hb) e;rw[h1,h2]at this;cases this
end
theorem CL{l m:List Nat}(hl:l.Nodup)(hm:m.Nodup)(h:∀x,x∈l↔x∈m):l.Perm m:=by induction l generalizing m with|nil=>(cases m with|nil=>exact .nil|cons y m=>exact absurd ((h y).mpr zp)<|by simp)|cons x l ih=>obtain⟨n1,n2⟩:=yk.mp hl;have hx:=(h x).mp zp;refine .trans ((ih n2 (hm.erase x) λy=>?_).cons x) (List.perm_cons_erase hx).symm;rw[hm.mem_erase_iff];constructor;intro hy;exact{λe=>n1<|e ▸ hy,(h y).mp<|zh _ hy};rintro⟨h1,h2⟩;rcases zj.mp ((h y).mpr h2) with e|e;exact absurd e h1;exact e
theorem map_range(d:α)(xs:List α):(List.range xs.length).map (λk=>xs.getD k d)=xs:=by refine List.ext_getElem (by simp) λi h1 h2=>?_;simp[zf h2]
theorem Gg{α:Type}(d:α){xs:List α}{g:Nat->Nat}(lt:∀k,k<xs.length->g k<xs.length)(inj:∀i j,i<xs.length->j<xs.length->g i=g j->i=j):((List.range xs.length).map λk=>xs.getD (g k) d).Perm xs:=by
 have nd:((List.range xs.length).map g).Nodup:=by refine List.pairwise_map.mpr<|List.nodup_range.imp_of_mem λ{a b} ha hb n e=>n<|inj a b (zV.mp ha) (zV.mp hb) e
 have sub:∀x∈(List.range xs.length).map g,x∈List.range xs.length:=λx hx=>by obtain⟨k,hk,rfl⟩:=zi.mp hx;exact zV.mpr<|lt k<|zV.mp hk
 have p:((List.range xs.length).map g).Perm (List.range xs.length):=CL nd List.nodup_range λx=>by refine{sub x,λhx=>?_};by_cases h:x∈(List.range xs.length).map g;exact h;exfalso;have:=sub_len nd (m:=(List.range xs.length).erase x) λy hy=>(List.Nodup.mem_erase_iff List.nodup_range).mpr {λe=>h<|e ▸ hy,sub y hy};rw[zb,List.length_erase_of_mem hx,List.length_range]at this;have:=zV.mp hx;lia
 have e:((List.range xs.length).map λk=>xs.getD (g k) d)=((List.range xs.length).map g).map λk=>xs.getD k d:=by rw[zy];rfl
 rw[e];have:=p.map λk=>xs.getD k d;rw[map_range]at this;exact this
theorem Gi{α:Type}(d:α){xs:List α}{g:Nat->Nat}{r:α->α->Prop}(h:∀i j,i<j->j<xs.length->r (xs.getD (g i) d) (xs.getD (g j) d)):((List.range xs.length).map λk=>xs.getD (g k) d).Pairwise r:=by rw[List.pairwise_map,List.pairwise_iff_getElem];intro i j hi hj jg;rw[List.length_range]at hj;rw[List.getElem_range,List.getElem_range];exact h i j jg hj
noncomputable def r0:Row:=("",[])
theorem getD_map{rs:List Row}{j:Nat}(h:j<rs.length):(rs.map ai).getD j .au=ai (rs.getD j r0):=by rw[zH,zH,zg,zf h];rfl
theorem getD_mem{rs:List Row}{j:Nat}(h:j<rs.length):rs.getD j r0∈rs:=by rw[zH,zf h];exact List.getElem_mem h
theorem mY{rs:List Row}{b:Bool}{f:D->D}{g:Nat->Nat}(h:PN b (λj=>f<|(rs.map ai).getD j .au) (rs.map ai).length g): ∃cZ:List Row,(List.range (rs.map ai).length).map (λk=>(rs.map ai).getD (g k) .au)=cZ.map ai/\cZ.Perm rs/\∀q r:Row->Row->Prop,rs.Pairwise q->(∀x y,x∈rs->y∈rs->(if b=true then UG (f<|ai y) (f<|ai x) else UG (f<|ai x) (f<|ai y))->r x y)->(∀x y,x∈rs->y∈rs->f (ai x)=f (ai y)->q x y->r x y)->cZ.Pairwise r:=by have hn:(rs.map ai).length=rs.length:=zb _;rw[hn]at h⊢;refine{(List.range rs.length).map λk=>rs.getD (g k) r0,?_,Gg r0 h.lt h.inj,λq r hq h1 h2=>Gi r0 λi j jg hj=>?_};rw[zy];exact zS λk hk=>getD_map<|h.lt k<|zV.mp hk;have gi:=h.lt i<|Nat.lt_trans jg hj;have gj:=h.lt j hj;have o:=h.ord i j jg hj;rw[getD_map gi,getD_map gj]at o;rcases o with o|⟨o,l⟩;exact h1 _ _ (getD_mem gi) (getD_mem gj) o;refine h2 _ _ (getD_mem gi) (getD_mem gj) o ?_;have:=List.pairwise_iff_getElem.mp hq (g i) (g j) gi gj l;rw[zH,zH,zf gi,zf gj];exact this
section
variable{cs:List (Str×Str)}{wy:Str}
noncomputable def valued(cs:List<|Str×Str)(p:Part)(r:Row):Bool:=!ah (aj cs r.2 p.1)
theorem Md(h1:ah x=true)(h2:ah y=true):kj x y=true:=by rw[cY h1,cY h2];rfl
theorem wX(h:ah x≠ah y):kj x y=false:=by cases x<;>cases y<;>first|rfl|exact absurd rfl h
theorem Gj{ps:List Part}{p:Part}{L V:List Row}(hL:L.Pairwise λa b=>bH cs wy ps a b=true)(hV:V.Perm<|L.filter<|valued cs p)(WB:V.Pairwise λa b=>bH cs wy (p::ps) a b=true): (if p.2.2 ="first" then L.filter (λr=>!valued cs p r)++V else V++L.filter (λr=>!valued cs p r)).Perm L/\(if p.2.2 ="first" then L.filter (λr=>!valued cs p r)++V else V++L.filter (λr=>!valued cs p r)).Pairwise λa b=>bH cs wy (p::ps) a b=true:=by
 have hN:(L.filter λr=>!valued cs p r).Pairwise λa b=>bH cs wy (p::ps) a b=true:=by refine(hL.sublist yo).imp_of_mem λ{a b} ha hb h=>?_;have ha:=(yh.mp ha).2;have hb:=(yh.mp hb).2;unfold valued at ha hb;rw[Bool.not_not]at ha hb;show(if kj (aj cs a.2 p.1) (aj cs b.2 p.1)=true then bH cs wy ps a b else _)=true;rw[if_pos<|Md ha hb];exact h
 have NF:∀a∈L.filter (λr=>!valued cs p r),∀b∈V,ah (aj cs a.2 p.1)=true/\ah (aj cs b.2 p.1)=false:=λa ha b hb=>by have ha:=(yh.mp ha).2;have hb:=(yh.mp<|hV.mem_iff.mp hb).2;unfold valued at ha hb;rw[Bool.not_not]at ha;exact{ha,by simpa using hb}
 have pm:(L.filter (λr=>!valued cs p r)++V).Perm L:=(List.Perm.append_left _ hV).trans<|List.perm_append_comm.trans<|List.filter_append_perm (valued cs p) L;by_cases e:p.2.2 ="first";rw[if_pos e];refine{pm,List.pairwise_append.mpr {hN,WB,λa ha b hb=>?_}};obtain⟨na,nb⟩:=NF a ha b hb;show(if kj (aj cs a.2 p.1) (aj cs b.2 p.1)=true then bH cs wy ps a b else cE p (aj cs a.2 p.1) (aj cs b.2 p.1))=true;rw[wX<|by rw[na,nb];nofun,if_neg ze];unfold cE;rw[na,nb,if_pos<|by rfl,zu e];rfl;rw[if_neg e];refine{List.perm_append_comm.trans pm,List.pairwise_append.mpr {WB,hN,λa ha b hb=>?_}};obtain⟨na,nb⟩:=NF b hb a ha;show(if kj (aj cs a.2 p.1) (aj cs b.2 p.1)=true then bH cs wy ps a b else cE p (aj cs a.2 p.1) (aj cs b.2 p.1))=true;rw[wX<|by rw[na,nb];nofun,if_neg ze];unfold cE;rw[na,nb,if_pos<|by rfl,zt e];rfl
theorem AL(hg:Gd cs)(hp:Pin cs ps):∀{F:List Row},Rg cs (x::F)->(F.Pairwise λa b=>bH cs wy ps a b=true)->(F.take (F.filter λy=>bH cs wy ps y x).length++x::F.drop (F.filter λy=>bH cs wy ps y x).length).Pairwise λa b=>bH cs wy ps a b=true|[],_,_=>by simp|y::F,hr,h=>by obtain⟨h1,h2⟩:=List.pairwise_cons.mp h;have nd:=hr.2;rw[zA,zA]at nd;obtain⟨n1,n2⟩:=yk.mp nd;obtain⟨n3,n4⟩:=yk.mp n2;have nxy:y.1≠x.1:=λe=>n1 (by rw[<-e];exact zp);have wx:=hr.1 x zp;have wy':=hr.1 y<|zh _ zp;cases e:bH cs wy ps y x with|true=>(rw[yq,if_pos e,zQ,List.take_succ_cons,List.drop_succ_cons,List.cons_append,List.pairwise_cons];have jc:Rg cs (x::F):=hr.sub<|(List.sublist_cons_self y F).cons₂ x;refine{λz hz=>?_,AL hg hp jc h2};rcases zP.mp hz with hz|hz;exact h1 z<|List.mem_of_mem_take hz;rcases zj.mp hz with rfl|hz;exact e;exact h1 z<|List.mem_of_mem_drop hz)|false=>have none:∀z∈y::F,bH cs wy ps z x=false:=λz hz=>(by rcases zj.mp hz with rfl|hz;exact e;cases q:bH cs wy ps z x with|false=>rfl|true=>have nyz:y.1≠z.1:=λe=>n3 (by rw[e];exact zi.mpr ⟨z,hz,rfl⟩);have ZQ:z.1≠x.1:=λe=>n1 (by rw[<-e];exact zh _<|zi.mpr ⟨z,hz,rfl⟩);have wz:=hr.1 z<|zh _<|zh _ hz;rw[I_ hg hp wy' wz wx nyz ZQ nxy (h1 z hz) q]at e;cases e);have e0:(y::F).filter (λy=>bH cs wy ps y x)=[]:=List.filter_eq_nil_iff.mpr λz hz=>(by rw[none z hz];exact ze);rw[e0];show(x::y::F).Pairwise _;refine List.pairwise_cons.mpr {λz hz=>?_,h};have ZQ:z.1≠x.1:=λe=>n1 (by rw[<-e];exact zi.mpr ⟨z,hz,rfl⟩);rw[sL hg hp (hr.1 z<|zh _ hz) wx ZQ,none z hz];rfl
theorem Ja(x:α)(F:List α)(m:Nat):(F.take m++x::F.drop m).Perm (F++[x]):=by refine(List.perm_middle).trans<|List.Perm.trans ?_ List.perm_append_comm;rw[List.take_append_drop];exact .refl _
end
noncomputable abbrev qK:Str:="sorted_by_keys.<locals>.<lambda>"
noncomputable abbrev qV:Str:="sorted_by_values.<locals>.<lambda>"
noncomputable def Qv:D->D|.tup (x::_)=>x|_=>.au
noncomputable def CM(cs:List<|Str×Str)(z:Str):D->D|.tup [_,.tup ws]=>aj cs ws z|_=>.au
inductive Jb (t:ib) (ds:List D) (S:aw) (R:KD) (Z:KX):Prop where
 |mk (cs:List<|Str×Str) (l:Addr) (rs:List Row) (wy:Str) (h0:ds=[.ref l,.str wy]) (h1:mR wy=true) (h2:S l=some (.lst<|rs.map ai)) (h3:rs.length<64) (h4:Rg cs rs) (h5:S t.aP=some (.tab qK)) (h6:∀(cZ:List Row)(p:Addr),cZ.Perm rs->(cZ.Pairwise λa b=>bH cs wy [] a b=true)->S p=none->R (.ref p) (S.set p<|.lst<|cZ.map ai))
theorem dN{S S2:aw}{p:Addr}{c:Ce}(h:Sub S S2):Sub (S.set p c) (S2.set p c):=λb e hb=>by by_cases q:b=p;subst q;rw[aa]at hb⊢;exact hb;rw[ag q]at hb⊢;exact h b e hb
theorem cO{S S2:aw}{p:Addr}(h:Sub S S2)(e:S2 p=none):S p=none:=by cases q:S p with|none=>rfl|some c=>rw[h p c q]at e;cases e
theorem wY{z:Str}(h:mR z=true):z ="up"\/z ="down":=by unfold mR at h;simpa using h
theorem Rg.unlike(h:Rg cs rs):rs.Pairwise λa b=>a.1≠b.1:=List.pairwise_map.mp h.2
theorem mZ(T:Txt w K mg t)(B:Bm mg base):Ok P w base T.fu 4 (Jb t):=by
 refine T.fu.F.okC (k:=3) mE (by rintro ds S R Z ⟨_,_,_,_,e,_⟩;rw[e];rfl) ?_;rintro fT A outer s H E ds S R Z s_ hr ⟨cs,l,rs,wy,e,JZ,hl,hn,jc,ht,q⟩;subst e;have Ba:y8 ((rs.map ai).map Qv):=.inl {rs.map Prod.fst,by rw[zy,zy];rfl};have un:rs.Pairwise λa b=>a.1≠b.1:=jc.unlike;have MF:(rs.map ai).length<64:=by rw[zb];exact hn
 refine{_,(sc (si (bj aU hr.u (dv 1) ds) (s1<|sr<|Nq (N:=["row"]) (src:=[none]) (s_.trans T.fY) ⟨T.dH,B⟩ hr (jb (ae gI) ["rows","way"] rfl rfl<|by trivial) (dv 0) (λ_ _ _ _=>(ix (hr.in1.in1.deeper _).units (dv 0) di)) T.gN e_) s0)<|s1<|sr<|UI (N:=["row"]) (src:=[none]) (s_.trans T.fY) ⟨T.dH,B⟩ hr (jb (ae gI) ["rows","way"] rfl rfl<|by trivial) (dv 0) (λ_ _ _ _=>(ix (hr.in1.in1.deeper _).units (dv 0) di)) T.gN e_),?_};rcases wY JZ with rfl|rfl;refine !!⟨bx (by trivial) !{l,rs.map ai,Qv,rfl,hl,MF,ht,Ba,λx hx S' hs Qk hQ=>?_,λg S2 p hg hs hp=>?_}⟩;obtain⟨r,hr,rfl⟩:=zi.mp hx;exact !!⟨hQ S'<|.refl _⟩;obtain⟨cZ,e,pm,h⟩:=mY hg;rw[e];refine{S.set p<|.lst<|cZ.map ai,dN hs,q cZ p pm (h _ _ un (λx y hx hy eO=>?_) λx y hx hy e ne=>absurd (D.str.inj e) ne)<|cO hs hp};show(nJ x.1 y.1==decide (("up": Str) ="up"))=true;have:nJ x.1 y.1=true:=zu eO;rw[this];rfl;refine !!⟨iH (by trivial) !{l,rs.map ai,Qv,rfl,hl,MF,ht,Ba,λx hx S' hs Qk hQ=>?_,λg S2 p hg hs hp=>?_}⟩;obtain⟨r,hr,rfl⟩:=zi.mp hx;exact !!⟨hQ S'<|.refl _⟩;obtain⟨cZ,e,pm,h⟩:=mY hg;rw[e];refine{S.set p<|.lst<|cZ.map ai,dN hs,q cZ p pm (h _ _ un (λx y hx hy eO=>?_) λx y hx hy e ne=>absurd (D.str.inj e) ne)<|cO hs hp};show(nJ x.1 y.1==decide (("down": Str) ="up"))=true;have:nJ y.1 x.1=true:=zu eO;by_cases e:x.1=y.1;rw[e,Eh]at this;cases this;rw[km e]at this;have h2:nJ x.1 y.1=false:=by simpa using this
 rw[h2,zt<|by trivial];rfl
inductive Jc (t:ib) (ds:List D) (S:aw) (R:KD) (Z:KX):Prop where
 |mk (cs:List<|Str×Str) (ps:List Part) (p:Part) (wy:Str) (l:Addr) (rs:List Row) (h0:ds=[.tup<|cs.map ay,p3 p,.ref l]) (h1:Gd cs) (h2:Pin cs<|p::ps) (h3:mR p.2.1=true) (h4:S l=some (.lst<|rs.map ai)) (h5:rs.length<64) (h6:Rg cs rs) (h7:(∀r∈rs,valued cs p r=true)) (h8:(rs.Pairwise λa b=>bH cs wy ps a b=true)) (h9:S t.aH=some (.tab qV)) (h10:∀(cZ:List Row)(a:Addr),cZ.Perm rs->(cZ.Pairwise λa b=>bH cs wy (p::ps) a b=true)->S a=none->R (.ref a) (S.set a<|.lst<|cZ.map ai))
theorem CO{α:Type}{f:α->D}{β:Type}{mk:β->D} : ∀{l:List α},(∀x∈l,∃b,f x=mk b)->∃bs:List β,l.map f=bs.map mk|[],_=>{[],rfl}|x::l,h=>by obtain⟨b,e⟩:=h x zp;obtain⟨bs,e2⟩:=CO λy hy=>h y<|zh _ hy;exact{b::bs,by rw[zA,e,e2];rfl}
theorem Gk{cs:List<|Str×Str}{p:Part}{k:Str}{rs:List Row}(hk:∀r∈rs,Vg k<|aj cs r.2 p.1)(hv:∀r∈rs,valued cs p r=true):y8 ((rs.map ai).map<|CM cs p.1):=by
 rw[zy];have nn:∀r∈rs,aj cs r.2 p.1≠.au:=λr hr=>aY (by have:=hv r hr;unfold valued at this;simpa using this);by_cases e:k ="number";refine .inr<|CO λr hr=>?_;have h1:=hk r hr;have h2:=nn r hr;show ∃b,aj cs r.2 p.1=.int b;generalize aj cs r.2 p.1=v at h1 h2;cases v with|au=>exact absurd rfl h2|int i=>exact⟨i,rfl⟩|str z=>(have h1:=h1.1;unfold i_ at h1;simp only[ah,yW]at h1;rw[if_pos e]at h1;cases h1)|_=>cases h1.2
 refine .inl<|CO λr hr=>?_;have h1:=hk r hr;have h2:=nn r hr;show ∃b,aj cs r.2 p.1=.str b;generalize aj cs r.2 p.1=v at h1 h2;cases v with|au=>exact absurd rfl h2|str i=>exact⟨i,rfl⟩|int z=>(have h1:=h1.1;unfold i_ at h1;simp only[ah,yW]at h1;rw[if_neg e]at h1;cases h1)|_=>cases h1.2
theorem Jd{cs:List<|Str×Str}{wy:Str}{ps:List Part}{p:Part}{x y:Row}(nx:valued cs p x=true)(ny:valued cs p y=true)(ne:kj (aj cs x.2 p.1) (aj cs y.2 p.1)=false)(h:(uf (aj cs x.2 p.1) (aj cs y.2 p.1)==decide (p.2.1 ="up"))=true):bH cs wy (p::ps) x y=true:=by
 unfold valued at nx ny;have nx:ah (aj cs x.2 p.1)=false:=by simpa using nx
 have ny:ah (aj cs y.2 p.1)=false:=by simpa using ny
 show(if kj (aj cs x.2 p.1) (aj cs y.2 p.1)=true then bH cs wy ps x y else cE p (aj cs x.2 p.1) (aj cs y.2 p.1))=true;rw[ne,if_neg ze];unfold cE;rw[nx,ny,if_neg<|by simp];exact h
theorem Je{x y:D}(h:uf x y=true):kj x y=false:=by cases x with|int i=>(cases y with|int j=>(exact zt λe=>by rw[e,Ei]at h;cases h)|_=>cases h)|str i=>(cases y with|str j=>(exact zt λe=>by rw[e,Ei]at h;cases h)|_=>cases h)|_=>cases h
theorem Jf(x y:D):kj x y=kj y x:=by cases x<;>cases y<;>first|rfl|exact yO.mpr ⟨Eq.symm,Eq.symm⟩
theorem kK(T:Txt w K mg t)(B:Bm mg base):Ok P w base T.dU 6 (Jc t):=by
 refine T.dU.F.okC (k:=5) kH (by rintro ds S R Z ⟨_,_,_,_,_,_,e,_⟩;rw[e];rfl) ?_;rintro fT A outer s H E ds S R Z s_ hr ⟨cs,ps,p,wy,l,rs,e,hg,Jg,JZ,hl,hn,jc,hv,Vh,ht,q⟩;subst e;obtain⟨c,hc,ec⟩:=Jg p zp;obtain⟨k,hk⟩:=qH hg Jg;have Ba:y8 ((rs.map ai).map<|CM cs p.1):=Gk (λr hr=>hk _<|jc.1 r hr) hv;have MF:(rs.map ai).length<64:=by rw[zb];exact hn
 have same:∀x y:Row,x∈rs->y∈rs->CM cs p.1 (ai x)=CM cs p.1 (ai y)->bH cs wy ps x y=true->bH cs wy (p::ps) x y=true:=λx y hx hy e h=>by show(if kj (aj cs x.2 p.1) (aj cs y.2 p.1)=true then bH cs wy ps x y else _)=true;rw[if_pos<|(aT (hk _<|jc.1 x hx).2 (hk _<|jc.1 y hy).2).mpr e];exact h
 have step:∀x,x∈rs.map ai->∀Qk:KD,∀S':aw,Qk (CM cs p.1 x) S'->∀Zq,lO [D.tup<|cs.map ay,x,.str p.1] S' Qk Zq:=λx hx Qk S' hQ _=>by obtain⟨r,hr,rfl⟩:=zi.mp hx;exact{cs,r,c,by rw[ec],hg,jc.1 r hr,hc,by rw[ec];exact hQ}
 refine{_,(sc (si (bj aU hr.u (ix hr.u (dv 1) di) ds) (s1<|sr<|Nq (N:=["row","columns","part"]) (src:=[none,some 0,some 1]) (s_.trans T.eV) ⟨T.cX,B⟩ hr (jb (ae fq) ["columns","part","rows"] rfl rfl<|by trivial) (dv 2) (λ_ _ _ _=>(cf ((dA T).mono<|by decide) (hr.in1.in1.deeper _) T.cC.m T.cC.k T.cC.b d0<|al 1<|al 0<|ac (ix (hr.in1.in1.deeper _).units (dv 2) di) an)) T.gN e_) s0)<|s1<|sr<|UI (N:=["row","columns","part"]) (src:=[none,some 0,some 1]) (s_.trans T.eV) ⟨T.cX,B⟩ hr (jb (ae fq) ["columns","part","rows"] rfl rfl<|by trivial) (dv 2) (λ_ _ _ _=>(cf ((dA T).mono<|by decide) (hr.in1.in1.deeper _) T.cC.m T.cC.k T.cC.b d0<|al 1<|al 0<|ac (ix (hr.in1.in1.deeper _).units (dv 2) di) an)) T.gN e_),?_};rcases wY JZ with e1|e1;refine !!!⟨bx (by rw[e1];decide +kernel) !{l,rs.map ai,CM cs p.1,rfl,hl,MF,ht,Ba,λx hx S' hs Qk hQ=>!!!!⟨step x hx _ S' (hQ S'<|.refl _) _⟩,λg S2 a hg hs ha=>?_}⟩;obtain⟨cZ,e,pm,h⟩:=mY hg;rw[e];refine{S.set a<|.lst<|cZ.map ai,dN hs,q cZ a pm (h _ _ Vh (λx y hx hy eO=>?_) same)<|cO hs ha};have eO:=I9 (a:=aj cs x.2 p.1) (b:=aj cs y.2 p.1) eO;exact Jd (hv x hx) (hv y hy) (Je eO) (by rw[eO,zu e1];rfl);refine !!!⟨iH (by rw[e1];decide +kernel) !{l,rs.map ai,CM cs p.1,rfl,hl,MF,ht,Ba,λx hx S' hs Qk hQ=>!!!!⟨step x hx _ S' (hQ S'<|.refl _) _⟩,λg S2 a Uu hs ha=>?_}⟩;obtain⟨cZ,e,pm,h⟩:=mY Uu;rw[e];refine{S.set a<|.lst<|cZ.map ai,dN hs,q cZ a pm (h _ _ Vh (λx y hx hy eO=>?_) same)<|cO hs ha};have eO:=I9 (a:=aj cs y.2 p.1) (b:=aj cs x.2 p.1) eO;have ne:=Je eO;refine Jd (hv x hx) (hv y hy) (by rw[Jf];exact ne) ?_;have nn:∀r∈rs,aj cs r.2 p.1≠.au:=λr hr=>aY (by have:=hv r hr;unfold valued at this;simpa using this);have mO:aj cs x.2 p.1≠aj cs y.2 p.1:=λe=>by have:=(aT (hk _<|jc.1 y hy).2 (hk _<|jc.1 x hx).2).mpr e.symm;rw[ne]at this;cases this
 have:=mX (hk _<|jc.1 x hx) (hk _<|jc.1 y hy) (nn x hx) (nn y hy) mO;rw[eO]at this;have h2:uf (aj cs x.2 p.1) (aj cs y.2 p.1)=false:=by simpa using this
 rw[h2,e1,zt<|by trivial];rfl
def Tb(t:ib)(S:aw):Prop:=S t.aP=some (.tab qK)/\S t.aH=some (.tab qV)
theorem Tb.sub{t:ib}{S S':aw}(h:Tb t S)(s:Sub S S'):Tb t S':={s _ _ h.1,s _ _ h.2}
noncomputable def Ek(b:Bool)(cs:List<|Str×Str)(p:Part):D->Bool|.tup [_,.tup ws]=>ah (aj cs ws p.1)==b|_=>false
theorem oE{rs:List Row}{f:D->Bool}{g:Row->Bool}(h:∀r,f (ai r)=g r):((rs.map ai).filter f).map id=(rs.filter g).map ai:=by rw[List.map_id,List.filter_map];exact congrArg (List.map ai)<|List.filter_congr λr _=>h r
inductive Jh (t:ib) (ds:List D) (S:aw) (R:KD) (Z:KX):Prop where
 |mk (cs:List<|Str×Str) (ps:List Part) (p:Part) (wy:Str) (l:Addr) (rs:List Row) (h0:ds=[.tup<|cs.map ay,p3 p,.ref l]) (h1:Gd cs) (h2:Pin cs<|p::ps) (h3:mR p.2.1=true) (h4:S l=some (.lst<|rs.map ai)) (h5:rs.length<64) (h6:Rg cs rs) (h7:(rs.Pairwise λa b=>bH cs wy ps a b=true)) (h8:Tb t S) (h9:∀(cZ:List Row)(a:Addr),cZ.Perm rs->(cZ.Pairwise λa b=>bH cs wy (p::ps) a b=true)->S a=none->R (.ref a) (S.set a<|.lst<|cZ.map ai))
theorem m6(T:Txt w K mg t)(B:Bm mg base):Ok P w base T.fw 7 (Jh t):=by
 refine T.fw.F.bS cI ?_;obtain⟨cs,ps,p,wy,l,rs,e,hg,Jg,JZ,hl,hn,jc,Vh,ht,q⟩;obtain⟨c,hc,ec⟩:=Jg p zp;have hz:(rs.map ai).length<=1000:=by rw[zb];lia
 refine{_,(sc (HQ (i:=3) (N:=["row","columns","part"]) (src:=[none,some 0,some 1]) cI.nd (jb (ae gJ) ["columns","part","rows","without","valued"] rfl rfl<|by trivial) (il<|dv 2) (oX<|show(["row","columns","part"]:List Str).Nodup by trivial) (aR rfl) aS (λ_ _ _ _ _=>(if1<|bj eP hr.u (aL T.cC (dA T) hr<|al 1<|al 0<|ac (ix hr.u (dv 2) di) an) dn)) λ_ _ _ _ _=>(dv 0))<|sc (HQ (i:=4) (N:=["row","columns","part"]) (src:=[none,some 0,some 1]) cI.nd (jb (ae gJ) ["columns","part","rows","without","valued"] rfl rfl<|by trivial) (il<|dv 2) (oX<|show(["row","columns","part"]:List Str).Nodup by trivial) (aR rfl) aS (λ_ _ _ _ _=>(if1<|bj nN hr.u (aL T.cC (dA T) hr<|al 1<|al 0<|ac (ix hr.u (dv 2) di) an) dn)) λ_ _ _ _ _=>(dv 0))<|sc (cj (i:=4) cI.nd<|aL T.dU (kK T B) hr<|al 0<|al 1<|al 4 an)<|s1<|sr<|M4 (bj aU hr.u (ix hr.u (dv 1) di) ds) (bo bB hr.u (dv 3)<|dv 4)<|bo bB hr.u (dv 4)<|dv 3),?_};refine !{_,hl,?_};refine gX (Ek true cs p) id hl hz (λd hd Q Q' hQ LZ=>?_) λp1 tw=>?_;obtain⟨r,hr,rfl⟩:=zi.mp hd;refine !!!!{cs,r,c,(show[D.tup<|cs.map ay,ai r,D.str p.1]=[_,_,D.str c.1] by rw[ec]),hg,jc.1 r hr,hc,?_};rw[ec];refine{_,rfl,bQ (λh=>!⟨hQ ?_⟩) λh=>LZ ?_};show(ah (aj cs r.2 p.1)==true)=true;rw[show ah (aj cs r.2 p.1)=true from h];rfl;show(ah (aj cs r.2 p.1)==true)=false;rw[show ah (aj cs r.2 p.1)=false from h];rfl;have e1:((rs.map ai).filter<|Ek true cs p).map id=(rs.filter λr=>!valued cs p r).map ai:=oE λr=>by show(ah (aj cs r.2 p.1)==true)=!valued cs p r;unfold valued;cases ah (aj cs r.2 p.1)<;>rfl
 rw[show({rs.map ai,λS=>xY S (.ref l)<|rs.map ai}:nQ).xs=rs.map ai from rfl,e1];have Qw:Sub S (S.set p1<|.lst<|(rs.filter λr=>!valued cs p r).map ai):=.new tw;have h1:(S.set p1<|.lst<|(rs.filter λr=>!valued cs p r).map ai) p1=some (.lst<|(rs.filter λr=>!valued cs p r).map ai):=aa;generalize S.set p1 (.lst<|(rs.filter λr=>!valued cs p r).map ai)=S1 at Qw h1⊢;have WA:=Qw _ _ hl;refine !{_,WA,?_};refine gX (Ek false cs p) id WA hz (λd hd Q Q' hQ LZ=>?_) λp2 eS=>?_;obtain⟨r,hr,rfl⟩:=zi.mp hd;refine !!!!{cs,r,c,(show[D.tup<|cs.map ay,ai r,D.str p.1]=[_,_,D.str c.1] by rw[ec]),hg,jc.1 r hr,hc,?_};rw[ec];refine{_,rfl,bQ (λh=>!⟨hQ ?_⟩) λh=>LZ ?_};show(ah (aj cs r.2 p.1)==false)=true;rw[show ah (aj cs r.2 p.1)=false from nt h];rfl;show(ah (aj cs r.2 p.1)==false)=false;rw[show ah (aj cs r.2 p.1)=true from nf h];rfl;have e2:((rs.map ai).filter<|Ek false cs p).map id=(rs.filter<|valued cs p).map ai:=oE λr=>by show(ah (aj cs r.2 p.1)==false)=valued cs p r;unfold valued;cases ah (aj cs r.2 p.1)<;>rfl
 rw[show({rs.map ai,λS=>xY S (.ref l)<|rs.map ai}:nQ).xs=rs.map ai from rfl,e2];have JS:Sub S (S1.set p2<|.lst<|(rs.filter<|valued cs p).map ai):=Qw.trans<|.new eS;have ZR:(S1.set p2<|.lst<|(rs.filter<|valued cs p).map ai) p1=_:=(ag<|gx h1 eS).trans h1;have h22:(S1.set p2<|.lst<|(rs.filter<|valued cs p).map ai) p2=_:=aa;generalize S1.set p2 (.lst<|(rs.filter<|valued cs p).map ai)=S2 at JS ZR h22⊢;have fl:(rs.filter<|valued cs p).length<=rs.length:=ym _ _;have fl2:(rs.filter λr=>!valued cs p r).length<=rs.length:=ym _ _;refine !!!{cs,ps,p,wy,p2,rs.filter<|valued cs p,rfl,hg,Jg,JZ,h22,by lia,jc.sub yo,λr hr=>(yh.mp hr).2,Vh.sublist yo,(ht.sub JS).2,λV p3 hV WB L3=>?_};obtain⟨pm,pw⟩:=Gj Vh hV WB;have ZS:(S2.set p3<|.lst<|V.map ai) p1=_:=(ag<|gx ZR L3).trans ZR;have ZT:(S2.set p3<|.lst<|V.map ai) p3=some (.lst<|V.map ai):=aa;have Vi:Sub S (S2.set p3<|.lst<|V.map ai):=JS.trans<|.new L3;generalize S2.set p3 (.lst<|V.map ai)=S3 at ZS ZT Vi⊢;have hVl:=hV.length_eq;refine !!!⟨bQ (λh=>?_) λh=>?_⟩;rw[if_pos<|zC h]at pm pw;refine !!{_,_,ZS,ZT,sm<|by rw[zb,zb];lia,λp4 Me=>?_};rw[<-zJ];exact{_,dN Vi,q _ p4 pm pw<|cO Vi Me};rw[if_neg<|zZ h]at pm pw;refine !!{_,_,ZT,ZS,sm<|by rw[zb,zb];lia,λp4 Me=>?_};rw[<-zJ];exact{_,dN Vi,q _ p4 pm pw<|cO Vi Me}
structure Og(cs:List (Str×Str))(ps:List Part)(wy:Str):Prop where
 pin:Pin cs ps
 ZU:∀p∈ps,mR p.2.1=true
 way:mR wy=true
 ok:CI cs ps wy=true
 tx:∀p∈ps,ZL p
noncomputable def bU(ps:List Part)(wy:Str):D:=.tup [.tup<|ps.map p3,.str wy]
inductive NG (t:ib) (ds:List D) (S:aw) (R:KD) (Z:KX):Prop where
 |mk (cs:List<|Str×Str) (ps:List Part) (wy:Str) (l:Addr) (rs:List Row) (h0:ds=[.tup<|cs.map ay,bU ps wy,.ref l]) (h1:Gd cs) (h2:Og cs ps wy) (h3:S l=some (.lst<|rs.map ai)) (h4:rs.length<64) (h5:Rg cs rs) (h6:Tb t S) (h7:∀(cZ:List Row)(a:Addr),cZ.Perm rs->(cZ.Pairwise λa b=>bH cs wy ps a b=true)->S a=none->R (.ref a) (S.set a<|.lst<|cZ.map ai))
structure Vw(C:Addr)(S:aw)(a:Addr)(cs:List (Str×Str))(m:D)(rows:List Row):Prop where
 sh:∃F dl rs,cD C S a F cs dl rs/\rs.length<64/\uc dl.length m≠none/\∀i ss,uc dl.length m=some i->ss.Perm (rs.map (·.1))->PyProof.Rows.sortedS ss=true->ee rs i ss=rows.map ai
 mo:Gt S m
 len:rows.length<64
 rg:Rg cs rows
theorem cD.sub(b:Sub S S')(h:cD C S a F cs dl rs):cD C S' a F cs dl rs:=by obtain⟨ld,lr,ra,h,e⟩:=h;exact{ld,lr,ra,{b _ _ h.ins,b _ _ h.Ay,b _ _ h.run,λr hr=>b _ _<|h.cell r hr,h.kn,h.an,h.sz},e}
theorem AM(T:Txt w K mg t)(B:Bm mg base):Ok P w base T.rV 8 (NG t):=by
 refine T.rV.F.bS gk ?_;obtain⟨cs,ps,wy,l,rs,e,hg,ho,hl,hn,jc,ht,q⟩;refine{_,(sc (cj (i:=3) gk.nd<|aL T.fu (mZ T B) hr<|al 2<|ac (ix hr.u (dv 1) di) an)<|sc (vQ<|DM (irt T.rR<|ac (ix hr.u (dv 1) di) an) (gn (i:=4) gk.nd)<|s1<|cj (i:=3) gk.nd<|aL T.fw (m6 T B) hr<|al 0<|al 4<|al 3 an)<|s1<|sr<|dv 3),?_};refine !!!{cs,l,rs,wy,rfl,ho.way,hl,hn,jc,ht.1,λrs1 p1 pm1 pw1 tw=>?_};have ZV:ps.reverse.length=ps.length:=yG;refine{λaB S'=>∃(o:Option D)(p:Addr)(cZ:List Row),aB=[some<|.tup<|cs.map ay,some<|bU ps wy,some<|.ref l,some<|.ref p,o]/\S p=none/\S' p=some (.lst<|cZ.map ai)/\Sub S S'/\cZ.Perm rs/\cZ.Pairwise λa b=>bH cs wy ps a b=true,?_,?_};refine !!!⟨?_⟩;refine{λi aB S'=>∃(o:Option D)(p:Addr)(cZ:List Row),aB=[some<|.tup<|cs.map ay,some<|bU ps wy,some<|.ref l,some<|.ref p,o]/\S p=none/\S' p=some (.lst<|cZ.map ai)/\Sub S S'/\cZ.Perm rs/\cZ.Pairwise λa b=>bH cs wy (ps.reverse.take i).reverse a b=true,{none,p1,rs1,rfl,tw,aa,.new tw,pm1,pw1},λ_ _ _ _=>trivial,?_,?_};rintro i d aB S' hd ⟨o,p,cZ,rfl,hp,cU,sb,pm,pw⟩;have hd:(ps.map p3).reverse[i]?=some d:=hd;rw[<-List.map_reverse,zg]at hd;cases e5:ps.reverse[i]? with|none=>(rw[e5]at hd;cases hd)|some pt=>rw[e5]at hd;cases hd;have Ph:pt∈ps:=List.mem_reverse.mp<|zx e5;have et:(ps.reverse.take<|i+1).reverse=pt::(ps.reverse.take i).reverse:=(by rw[List.take_add_one,e5,List.reverse_append];rfl);have Rf:Pin cs (pt::(ps.reverse.take i).reverse):=λx hx=>(by rcases zj.mp hx with rfl|hx;exact ho.pin _ Ph;exact ho.pin _<|List.mem_reverse.mp<|List.mem_of_mem_take<|List.mem_reverse.mp hx);refine !!!{cs,(ps.reverse.take i).reverse,pt,wy,p,cZ,rfl,hg,Rf,ho.ZU pt Ph,cU,by rw[pm.length_eq];exact hn,jc.perm pm,pw,ht.sub sb,λY1 p2 pm2 pw2 eS=>?_};rw[<-et]at pw2;exact{_,p2,Y1,rfl,cO sb eS,aa,sb.trans<|.new eS,pm2.trans pm,pw2}
 rintro aB S' ⟨o,p,cZ,rfl,hp,cU,sb,pm,pw⟩;have pw:cZ.Pairwise λa b=>bH cs wy (ps.reverse.take (ps.map p3).reverse.length).reverse a b=true:=pw;rw[yG,zb,List.take_of_length_le<|Nat.le_of_eq ZV,List.reverse_reverse]at pw;exact fo ⟨o,p,cZ,rfl,hp,cU,sb,pm,pw⟩;rintro aB S' ⟨o,p,cZ,rfl,hp,cU,sb,pm,pw⟩;refine !{S.set p<|.lst<|cZ.map ai,λb c hb=>?_,q cZ p pm pw hp};by_cases e:b=p;subst e;rw[aa]at hb;cases hb;exact cU;rw[ag e]at hb;exact sb b c hb
noncomputable def AN(cs:List<|Str×Str)(d:D):D->Bool|.tup [.str k,.tup ws]=>bq cs (k,ws) 7 d|_=>false
inductive Ji (t:ib) (ds:List D) (S:aw) (R:KD) (Z:KX):Prop where
 |mk (a cs d m rows) (h0:ds=[.ref a,d,m]) (h1:Gd cs) (h2:Sq cs d) (h3:Vw t.ao S a cs m rows) (h4:∀p,S p=none->R (.ref p) (S.set p<|.lst<|(rows.filter λr=>bq cs r 7 d).map ai))
theorem qj(T:Txt w K mg t):Ok P w base T.iy 11 (Ji t):=by refine T.iy.F.bS iU ?_;obtain⟨a,cs,d,m,rows,e,hg,hd,hv,q⟩;obtain⟨F,dl,rs,hS,hn,Vj,Vk⟩:=hv.sh;obtain⟨ld,lr,ra,h,_⟩:=id hS;refine{_,(sc (cj (i:=3) iU.nd<|rJ (dv 0) T.ak T.aJ (bF T) hr)<|s1<|sr<|tQ (N:=["row","columns","sieve"]) (src:=[none,some 3,some 1]) (jb (ae rK) ["shelf","sieve","moment","columns"] rfl rfl<|by trivial) (il<|xt (dv 0) T.ak T.dF (uY T) hr<|al 2 an) (oX<|show(["row","columns","sieve"]:List Str).Nodup by trivial) (aR rfl) aS (λ_ _ _ _ _=>(if1<|tv<|aL T.passes (kl T 7) hr<|al 1<|al 2<|al 0 an)) λ_ _ _ _ _=>(dv 0)),?_};refine !{a,_,rfl,h.ins,rfl,a,F,cs,dl,rs,rfl,hS,?_};refine !{a,_,rfl,h.ins,rfl,_,rfl,a,F,cs,dl,rs,m,rfl,hS,hn,hv.mo,λi ss hi hp hs p kJ=>?_,λh=>absurd h Vj};rw[Vk i ss hi hp hs];refine{_,aa,?_};refine gX (AN cs d) id aa (by show(rows.map ai).length<=1000;rw[zb];have:=hv.len;lia) (λx hx Q Q' hQ LZ=>?_) λp2 eS=>?_;obtain⟨r,hr,rfl⟩:=zi.mp hx;refine !!!{cs,d,r,rfl,hg,hd.1,hv.rg.1 r hr,_,rfl,bQ (λh=>!⟨hQ h⟩) λh=>LZ h};have e1:((rows.map ai).filter<|AN cs d).map id=(rows.filter λr=>bq cs r 7 d).map ai:=oE λr=>rfl;rw[show({rows.map ai,λS=>xY S (.ref p)<|rows.map ai}:nQ).xs=rows.map ai from rfl,e1];exact{_,dN<|.new kJ,q p2<|cO (.new kJ) eS}
inductive Vl (t:ib) (ds:List D) (S:aw) (R:KD) (Z:KX):Prop where
 |mk (a cs ps wy d m rows) (h0:ds=[.ref a,bU ps wy,d,m]) (h1:Gd cs) (h2:Og cs ps wy) (h3:Sq cs d) (h4:Vw t.ao S a cs m rows) (h5:Tb t S) (h6:∀(cZ:List Row)(p:Addr),cZ.Perm (rows.filter λr=>bq cs r 7 d)->(cZ.Pairwise λa b=>bH cs wy ps a b=true)->S p=none->R (.ref p) (S.set p<|.lst<|cZ.map ai))
theorem dO(T:Txt w K mg t)(B:Bm mg base):Ok P w base T.cK 12 (Vl t):=by refine T.cK.F.bS mD ?_;obtain⟨a,cs,ps,wy,d,m,rows,e,hg,ho,hd,hv,ht,q⟩;obtain⟨F,dl,rs,hS,hn,Vj,Vk⟩:=hv.sh;obtain⟨ld,lr,ra,h,_⟩:=id hS;refine{_,(s1<|sr<|aL T.rV (AM T B) hr<|ac (rJ (dv 0) T.ak T.aJ (bF T) hr)<|al 1<|ac (aL T.iy (qj T) hr<|al 0<|al 2<|al 3 an) an),?_};refine !{a,_,rfl,h.ins,rfl,a,F,cs,dl,rs,rfl,hS,?_};refine !!!!{a,cs,d,m,rows,rfl,hg,hd,hv,λp hp=>?_};have fl:(rows.filter λr=>bq cs r 7 d).length<=rows.length:=ym _ _;have:=hv.len;refine{cs,ps,wy,p,rows.filter λr=>bq cs r 7 d,rfl,hg,ho,aa,Nat.lt_of_le_of_lt fl this,hv.rg.sub yo,ht.sub<|.new hp,λcZ p2 pm pw eS=>?_};exact{_,dN<|.new hp,q cZ p2 pm pw<|cO (.new hp) eS}
theorem kd_sub(h:Sub S S')(hk:Pq S d k):Pq S' d k:=by cases d with|ref a=>(rcases hk with⟨e,ds,q⟩|⟨e,ds,q⟩;exact .inl {e,ds,h _ _ q};exact .inr {e,ds,h _ _ q})|_=>exact hk
theorem Gt.sub(h:Sub S S')(g:Gt S d):Gt S' d:={by obtain⟨k,hk⟩:=g.1;exact{k,kd_sub h hk},g.2}
theorem Qx:Gt S (.tup ws):={{.tup,rfl},λ_=>nofun}
theorem Mf(h:ws.length<=1000)(g:∀v∈ws,Gt S v):RC S (.tup ws):={Qx,λWz e=>by cases e;exact⟨h,g⟩}
theorem gt_int:Gt S (.int i):={{.int,rfl},λ_=>nofun}
theorem El(h:z.cps.size<=1000):Gt S (.str z):={{.str,rfl},λz' e=>by cases e;exact h}
theorem Jj(h:bh d=true):Gt S d:=by cases d with|au=>exact sD|int i=>exact gt_int|str z=>have h:(decide (z.cps.size<=40)&&PyData.strOk z)=true:=h;rw[zI]at h;have:=zC h.1;exact El (by lia)|_=>cases h
theorem sM:∀{cs:List (Str×Str)}{ws:List D},Paired rel cs ws->ws.length=cs.length|_,_,.nil=>rfl|_,_,.cons _ t=>by rw[zQ,zQ,sM t]
theorem Wg.len(h:Wg cs ws):ws.length=cs.length:=sM h
theorem Wg.Qy(h:Wg cs ws):mI cs (.tup ws)=true:=by show(decide (ws.length=cs.length)&&(List.zipWith (λc v=>i_ c.2 v) cs ws).all id)=true;rw[zu h.len,ye];unfold Wg at h;induction h with|nil=>rfl|cons r t ih=>rw[List.zipWith_cons_cons,List.all_cons,ih];show(id (i_ _ _)&&true)=true;rw[show id (i_ _ _)=true from r.1];rfl
theorem Wg.gts(h:Wg cs ws)(hc:cs.length<=8):RC S (.tup ws):=Mf (by rw[h.len];lia) λv hv=>Jj<|h.all v hv
theorem Mg(hg:Gd cs)(hN:∀c∈cs,c.1∈Be):∀d∈cs.map ay,Ly S 60 d:=λd hd=>by obtain⟨c,hc,rfl⟩:=zi.mp hd;refine(Ly.tup (n:=0) λx hx=>?_).le (by decide);have hx:x∈[D.str c.1,D.str c.2]:=hx;simp only[zj,zM,or_false]at hx;rcases hx with rfl|rfl;exact Ly.str (IP _<|hN c hc).2;rcases (hg.2.2 c hc).2 with e|e<;>rw[e]<;>exact Ly.str (by trivial)
theorem Mh{S:aw}{a b:Addr}{ds:List D}{R:KD}(e1:S a=some (.lst ds))(e2:S b=some (.lst []))(h:∀d∈ds,Ly S 60 d)(q:R (.bl<|!ds.isEmpty) S):DJ true (.ref a) (.ref b) S R:=by obtain⟨ps,k1,k2,k3,k4⟩:=Ly.all h;refine{.list ps,.list [],⟨ds,ps,e1,rfl,k1⟩,{[],[],e2,rfl,by simp only[DpAll]},by simp only[PyData.canLay0];exact k2,by simp only[PyData.canLay0,PyData.canLayAll0],.inl<|by simp only[PyData.depth];lia,?_};rw[if_pos rfl,AD,show ps.isEmpty=ds.isEmpty by cases ps<;>cases ds<;>first|rfl|cases k4];exact q
theorem Mi{n a b tn:Nat}(ha:a<n)(hb:b<n)(h:(a+tn)%n=(b+tn)%n):a=b:=by rcases Nat.lt_trichotomy a b with l|l|l;have:=Nat.sub_mod_eq_zero_of_mod_eq h.symm;rw[show b+tn-(a+tn)=b-a by lia,Nat.mod_eq_of_lt<|by lia]at this;lia;exact l;have:=Nat.sub_mod_eq_zero_of_mod_eq h;rw[show a+tn-(b+tn)=a-b by lia,Nat.mod_eq_of_lt<|by lia]at this;lia
noncomputable def sN(cs:List<|Str×Str)(tn k:Nat):Str:=(cs.getD ((tn+k)%cs.length) ("","")).1
theorem AO(h:0<cs.length):∃c∈cs,cs[(tn+k)%cs.length]?=some c/\c.1=sN cs tn k:=by have eO:(tn+k)%cs.length<cs.length:=Nat.mod_lt _ h;refine{cs[(tn+k)%cs.length],List.getElem_mem eO,zf eO,?_};unfold sN;rw[zH,zf eO];rfl
theorem AQ{cs:List<|Str×Str}(hg:(cs.map Prod.fst).Nodup){tn i:Nat}(hi:i<=cs.length):((List.range i).map<|sN cs tn).Nodup:=by
 refine List.pairwise_map.mpr<|List.nodup_range.imp_of_mem λ{a b} ha hb n e=>n ?_;have ha:=zV.mp ha;have hb:=zV.mp hb;have h0:0<cs.length:=by lia
 have la:(tn+a)%cs.length<cs.length:=Nat.mod_lt _ h0;have lb:(tn+b)%cs.length<cs.length:=Nat.mod_lt _ h0;unfold sN at e;rw[zH,zf la,zH,zf lb]at e;have e:(cs[(tn+a)%cs.length]).1=(cs[(tn+b)%cs.length]).1:=e;have e2:(cs.map Prod.fst)[(tn+a)%cs.length]'(by rw[zb];exact la)=(cs.map Prod.fst)[(tn+b)%cs.length]'(by rw[zb];exact lb):=by rw[List.getElem_map,List.getElem_map];exact e
 have e3:=(List.getElem_inj hg).mp e2;rw[Nat.add_comm tn a,Nat.add_comm tn b]at e3;exact Mi (n:=cs.length) (by lia) (by lia) e3
inductive u6 (ds:List D) (S:aw) (R:KD) (Z:KX):Prop where
 |mk (cs:List<|Str×Str) (c:Int) (h0:ds=[.tup<|cs.map ay,.int c]) (h1:Gd cs) (h2:∀(ps:List Part)(wy:Str),Og cs ps wy->R (bU ps wy) S)
theorem Jl(T:Txt w K mg t):Ok P w base T.wd 2 u6:=by
 refine T.wd.F.bS d_ ?_;obtain⟨cs,c0,e,hg,q⟩;have h8:=hg.1;have xP:(cs.map ay).length=cs.length:=zb _;refine{_,(sc (cj (i:=2) d_.nd<|aL T.gf (hG T) hr<|al 1<|ac di an)<|sc (cj (i:=3) d_.nd<|cb M8 T.Nw HD<|ac (cb ba T.aX aF<|al 0 an)<|ac (uM<|ix hr.u (cz<|ac di<|ac di<|ac di<|ac di<|ac di<|ac di<|ac di<|ac di an)<|bo bp hr.u (ix hr.u (dv 2) di) di) an)<|sc (cj (i:=4) d_.nd<|cz an)<|sc (vQ<|DM (JU T.eE<|al 3 an) (gn (i:=5) d_.nd)<|sc (cj (i:=6) d_.nd<|ix hr.u (ix hr.u (dv 0)<|bo bp hr.u (bo bB hr.u (ix hr.u (dv 2) di)<|dv 5)<|cb ba T.aX aF<|al 0 an) di)<|s1<|se<|bm zN zX zY cA (dv 4)<|ac (bY<|al 6<|ac (uM<|ix hr.u (cz<|ac ds<|ac ds an)<|bo bp hr.u (ix hr.u (dv 2)<|bo bB hr.u di<|dv 5) di)<|ac (uM<|ix hr.u (cz<|ac ds<|ac ds an)<|bo bp hr.u (bo bR hr.u (ix hr.u (dv 2)<|bo bB hr.u di<|dv 5) di) di) an) an)<|s1<|sr<|bY<|ac (ct fU T.bu aW<|al 4 an)<|ac (uM<|ix hr.u (cz<|ac ds<|ac ds an)<|bo bp hr.u (ix hr.u (dv 2) di) di) an),?_};refine !{c0,12,rfl,by decide,λxs lx JX hx xQ=>?_};have s1:=Sub.new (c:=.lst<|xs.map D.int) xQ;have hX:(S.set lx<|.lst<|xs.map D.int) lx=some (.lst<|xs.map D.int):=aa;generalize S.set lx (.lst<|xs.map D.int)=S1 at s1 hX⊢;have at_:∀k:Nat,k<12->∃x:Int,gE (xs.map D.int) ((k:Nat):Int)=some (.int x)/\0<=x:=λk hk=>mP (by lia) (by rw[zb];lia) hx;obtain⟨x0,e0,_⟩:=at_ 0 (by decide);obtain⟨x1,e1,x10⟩:=at_ 1 (by decide);obtain⟨x11,e11,_⟩:=at_ 11 (by decide);obtain⟨tn,rfl⟩:=Int.eq_ofNat_of_zero_le x10;refine !!{FW,λp hp=>!{_,_,(Sub.new hp) _ _ hX,e0,by decide,bN (zO _<|by decide) (zL _<|by decide) hp λd hd=>?_}};obtain⟨m,rfl⟩:∃m:Nat,d=.int m:=by have hd:d∈[D.int 1,.int 2,.int 0,.int 3,.int 1,.int 2,.int 8,.int 3]:=hd;simp only[zj,zM,or_false]at hd;rcases hd with h|h|h|h|h|h|h|h;exact{1,h};exact{2,h};exact{0,h};exact{3,h};exact{1,h};exact{2,h};exact{8,h};exact{3,h}
 obtain⟨k,hk,ek⟩:∃k:Nat,k<=cs.length/\(if decide ((m:Int)<(((cs.map ay).length:Nat):Int))=true then (m:Int) else (((cs.map ay).length:Nat):Int))=(k:Int):=by rw[xP];by_cases h:(m:Int)<((cs.length:Nat):Int);exact{m,by lia,by rw[zu h,if_pos rfl]};exact{cs.length,zq _,by rw[zt h,if_neg ze]}
 refine{_,_,rfl,?_};have ek2:(if (λi j:Int=>decide<|i<j) ((m:Nat):Int) (((cs.map ay).length:Nat):Int)=true then ((m:Nat):Int) else (((cs.map ay).length:Nat):Int))=((k:Nat):Int):=ek;rw[ek2];refine{mH,λlp hlp=>?_};have nxp:lx≠lp:=gx hX hlp;refine{λaB S'=>∃(o5 o6:Option D)(ps:List Part),aB=[some<|.tup<|cs.map ay,some<|.int c0,some<|.ref lx,some<|.int (k:Nat),some<|.ref lp,o5,o6]/\ps.map Prod.fst=(List.range k).map (sN cs tn)/\(∀p∈ps,mR p.2.1=true/\Gb p.2.2=true)/\S'=S1.set lp (.lst<|ps.map p3),?_,?_};refine !{((k:Nat):Int),rfl,by lia,by lia,?_};refine{λi aB S'=>∃(o5 o6:Option D)(ps:List Part),aB=[some<|.tup<|cs.map ay,some<|.int c0,some<|.ref lx,some<|.int (k:Nat),some<|.ref lp,o5,o6]/\ps.map Prod.fst=(List.range i).map (sN cs tn)/\(∀p∈ps,mR p.2.1=true/\Gb p.2.2=true)/\S'=S1.set lp (.lst<|ps.map p3),{none,none,[],rfl,rfl,λ_ h=>(nomatch h),rfl},λ_ _ _ _=>trivial,?_,?_};rintro i d aB S' hd ⟨o5,o6,ps,rfl,hn,dw,rfl⟩;have hd:(df 0 ((k:Nat):Int).toNat)[i]?=some d:=hd;obtain⟨hi,rfl⟩:=cB hd;have hi:i<k:=by lia
 have cU:ps.length=i:=by have:=congrArg List.length hn;simpa using this
 obtain⟨c,hc,ec,ZW⟩:=AO (cs:=cs) (tn:=tn) (k:=i) (by lia);have xw:(S1.set lp<|.lst<|ps.map p3) lx=some (.lst<|xs.map D.int):=(ag nxp).trans hX;have hP2:(S1.set lp<|.lst<|ps.map p3) lp=some (.lst<|ps.map p3):=aa;have eat:gE (cs.map ay) ((((tn:Nat):Int)+(0+((i:Nat):Int)))%(((cs.map ay).length:Nat):Int))=some (ay c):=by rw[xP,show(((tn:Nat):Int)+(0+((i:Nat):Int)))%((cs.length:Nat):Int)=(((tn+i)%cs.length:Nat):Int) by rw[Int.zero_add,Int.natCast_emod,Int.natCast_add]];refine bG ?_;rw[zg,ec];rfl
 obtain⟨xi,WC,_⟩:=at_ (2+i) (by lia);have WC:gE (xs.map D.int) (2+(0+((i:Nat):Int)))=some (.int xi):=by rw[show(2:Int)+(0+((i:Nat):Int))=((2+i:Nat):Int) by lia];exact WC
 refine !!{_,_,xw,e1,_,rfl,_,rfl,_,rfl,by rw[xP];lia,_,eat,_,rfl,?_};refine{_,rfl,{rfl,_,hP2},_,rfl,cu,λp hp=>!!{_,_,(Sub.new hp) _ _ xw,WC,by decide,bN (zO _<|by decide) (zL _<|by decide) hp λd hd=>?_}};obtain⟨wy,rfl,JZ⟩:∃wy:Str,d=.str wy/\mR wy=true:=by have hd:d∈[D.str "up",.str "down"]:=hd;simp only[zj,zM,or_false]at hd;rcases hd with h|h;exact{_,h,by trivial};exact{_,h,by trivial}
 refine{cu,λp hp=>!!{_,_,(Sub.new hp) _ _ xw,WC,{by decide,by trivial},by decide,bN (zO _<|by decide) (zL _<|by decide) hp λd hd=>?_}};obtain⟨en,rfl,A9⟩:∃en:Str,d=.str en/\Gb en=true:=by have hd:d∈[D.str "first",.str "last"]:=hd;simp only[zj,zM,or_false]at hd;rcases hd with h|h;exact{_,h,by trivial};exact{_,h,by trivial}
 refine{so,lp,_,_,rfl,rfl,hP2,bg<|by rw[zb];lia,?_};refine{_,_,ps++[(c.1,wy,en)],rfl,?_,λx hx=>?_,?_};rw[zJ,hn,List.range_succ,zJ];show _=_++[sN cs tn i];rw[<-ZW];rfl;rcases zP.mp hx with h|h;exact dw x h;rw[zK.mp h];exact⟨JZ,A9⟩;rw[cF,zJ];rfl;rintro aB S' ⟨o5,o6,ps,rfl,hn,dw,rfl⟩;rw[show({df 0 ((k:Nat):Int).toNat,λ_=>True}:nQ).xs.length=((k:Nat):Int).toNat from bL,show((k:Nat):Int).toNat=k by lia]at hn;exact fo ⟨o5,o6,ps,rfl,hn,dw,rfl⟩;rintro aB S' ⟨o5,o6,ps,rfl,hn,dw,rfl⟩;have xw:(S1.set lp<|.lst<|ps.map p3) lx=some (.lst<|xs.map D.int):=(ag nxp).trans hX;refine !{_,_,rfl,.inl aa,cu,λp hp=>!{_,_,(Sub.new hp) _ _ xw,e11,by decide,bN (zO _<|by decide) (zL _<|by decide) hp λd hd=>?_}};obtain⟨wy,rfl,JZ⟩:∃wy:Str,d=.str wy/\mR wy=true:=by have hd:d∈[D.str "up",.str "down"]:=hd;simp only[zj,zM,or_false]at hd;rcases hd with h|h;exact{_,h,by trivial};exact{_,h,by trivial}
 have cU:ps.length=k:=by have:=congrArg List.length hn;simpa using this
 have pin:Pin cs ps:=λx hx=>by have:x.1∈ps.map Prod.fst:=zi.mpr ⟨x,hx,rfl⟩;rw[hn]at this;obtain⟨k,hk,e⟩:=zi.mp this;have:=zV.mp hk;obtain⟨c,hc,_,ec⟩:=AO (cs:=cs) (tn:=tn) (k:=k) (by lia);exact{c,hc,ec.trans e}
 refine{cu,S,s1.trans<|.new hlp,q ps wy {pin,λx hx=>(dw x hx).1,JZ,?_,λx hx=>?_}};unfold CI;rw[zu<|show ps.length<=8 by lia,ye,zI,zI];refine{yb.mpr λx hx=>?_,zu<|by rw[hn];exact AQ hg.2.1 hk,JZ};obtain⟨c,hc,ec⟩:=pin x hx;unfold gp;rw[zu<|zi.mpr ⟨c,hc,ec⟩,(dw x hx).1,(dw x hx).2];rfl;obtain⟨c,hc,ec⟩:=pin x hx;obtain⟨h1,h2⟩:=dw x hx;refine{by rw[<-ec];exact ou (hg.2.2 c hc).1,by rcases wY h1 with e|e<;>rw[e]<;>decide +kernel,?_};unfold Gb at h2;simp only[Bool.or_eq_true,zR]at h2;rcases h2 with e|e<;>rw[e]<;>decide +kernel
theorem Jm{c1:Bool}{X A B:Prop}(c2:Bool)(hx:(if c2=true then A else B)->X)(h:if (c1||c2)=true then A else B):if c1=true then (if true=true then A else B) else X:=by cases c1 with|true=>exact h|false=>exact hx h
theorem CP{c1:Bool}{X A B:Prop}(c2:Bool)(hx:(if c2=true then A else B)->X)(h:if (c1&&c2)=true then A else B):if c1=true then X else (if false=true then A else B):=by cases c1 with|true=>exact hx h|false=>exact h
theorem keys_str{out:List D} : (∀d∈out,∃z∈KS,d=.str z)->∃ks:List Str,out=ks.map D.str/\∀k∈ks,k∈KS:=by induction out with|nil=>exact λ_=>{[],rfl,λ_ h=>(nomatch h)}|cons x l ih=>intro h;obtain⟨z,hz,e⟩:=h x zp;obtain⟨ks,e2,hk⟩:=ih λd hd=>h d<|zh _ hd;exact{z::ks,by rw[e,e2];rfl,λk Hr=>(zj.mp Hr).elim (λe=>e ▸ hz)<|hk k}
theorem sO{rel:D->D->Prop} : ∀{xs out:List D},Paired rel xs out->∀v∈out,∃x,rel x v|_,_,.nil,_,h=>(nomatch h)|_,_,.cons r t,v,h=>by rcases zj.mp h with rfl|h;exact{_,r};exact sO t v h
theorem NH{cs:List<|Str×Str}{d:D}(h:Lf cs d){n:Nat} : pC (n+1) d=1:=by rcases h with rfl|⟨ks,rfl,_⟩|⟨o,c,v,_,_,_,rfl⟩<;>rfl
theorem Qz(n:Nat)(e:D):pC (n+1) (.tup [.str "not",e])=pC n e+1:=by show((mV _).map<|pC n).sum+1=_;rw[wU];simp
theorem Mj{o:Str}(h:o ="and"\/o ="or")(n:Nat)(ds:List D):pC (n+1) (.tup [.str o,.tup ds])=(ds.map<|pC n).sum+1:=by show((mV _).map<|pC n).sum+1=_;rw[wV h]
theorem Gm{I:nQ}{S1:aw}{g:x_}{te:TD}{σ:SD}{src:List<|Option Nat}{R:KD}(P:Nat->List D->aw->Prop)(h0:P 0 [] S1)(aK:∀i out S,P i out S->I.ok S) (step:∀i d out S,I.xs[i]?=some d->P i out S->out.length<sizeLine/\g d (ma σ src) S λfP S3=>te fP S3 (λv S5=>P (i+1) (out++[v]) S5) Zf) (fin:∀out S2,P I.xs.length out S2->∀p,S2 p=none->R (.ref p) (S2.set p<|.lst out)):yZ σ src g mf te R I S1:=by
 refine{P,h0,aK,λi d out S hd h=>{(step i d out S hd h).1,?_},fin};have e:(λ(fP:SD)(S3:aw)=>mf fP S3 (λb S4=>if b=true then te fP S4 (λv S5=>P (i+1) (out++[v]) S5) Zf else P (i+1) out S4) Zf)=λfP S3=>te fP S3 (λv S5=>P (i+1) (out++[v]) S5) Zf:=by funext fP S3;simp[mf]
 rw[e];exact(step i d out S hd h).2
theorem Jn{f:D->Nat}{k:Nat} : ∀{l:List D},(∀e∈l,f e<=k)->(l.map f).sum<=k*l.length|[],_=>zT _|e::l,h=>by have h1:=h e zp;have ih:=Jn λx hx=>h x<|zh _ hx;rw[zA,List.sum_cons,zQ,Nat.mul_succ];lia
noncomputable def QA:Nat->Nat|0=>0|n+1=>1+3*QA n
theorem Jo{S S':aw}{p:Addr}{c c':Ce}(h:Sub (S.set p c) S'):Sub (S.set p c') (S'.set p c'):=λb x hb=>by by_cases e:b=p;subst e;rw[aa]at hb⊢;exact hb;rw[ag e]at hb⊢;exact h b x<|(ag e).trans hb
inductive QB (n:Nat) (ds:List D) (S:aw) (R:KD) (Z:KX):Prop where
 |mk (cs:List<|Str×Str) (lx:Addr) (m:Nat) (xs:List Int) (hn:n=m+1) (h0:ds=[.tup<|cs.map ay,.ref lx,.int ((m:Nat):Int)]) (h1:Cg cs) (h2:S lx=some (.lst<|xs.map D.int)) (h3:xs.length<=20) (h4:∀x∈xs,0<=x)
  (h5:∀(d:D)(ys:List Int),Sg cs n d->pC n d<=QA n->ys.length<=20->(∀y∈ys,0<=y)->R d (S.set lx<|.lst<|ys.map D.int)):QB n ds S R Z
theorem oF(T:Txt w K mg t):∀n,Ok P w base T.iB (2+n) (QB n)
 |0=>by refine T.iB.F.bS (k:=1) cM ?_;rintro _ _ _ _ _ _ _ S R Z hr ⟨_,_,_,_,e,_⟩;cases e
 |n+1=>by
  refine T.iB.F.bS (k:=2+n) cM ?_;obtain⟨cs,lx,m,xs,en,e,hc,hX,JX,hx,q⟩;cases en;have hg:=hc.1;have n2:=cu;have n3:=so;refine{_,(sc (cj (i:=3) cM.nd<|aL T.qE (AB T) hr<|al 1 an)<|sc (cj (i:=4) cM.nd<|bo bp hr.u (dv 3) di)<|sc (si (twd<|twand (bj pX hr.u (dv 2) di)<|tw1<|bj aU hr.u (dv 4) di) (s1<|sr<|bY<|ac ds<|ac (aL T.iB (oF T n) hr<|al 0<|al 1<|ac (bo rn hr.u (dv 2) di) an) an) s0)<|sc (si (twd<|twand (bj pX hr.u (dv 2) di)<|tw1<|bj pW hr.u (dv 4) di) (sc (HQ (i:=5) (N:=["_law_k","_law_columns_here","_law_xs","_law_deep"]) (src:=[none,some 0,some 1,some 2]) cM.nd (jb (ae uQ) ["_law_columns_here","_law_xs","_law_deep","_law_x","_law_way","_law_some","_law_name","_law_kind","_law_value_here"] rfl rfl<|by trivial) (JU T.eE<|ac (uM<|ix hr.u (cz<|ac di<|ac di<|ac di<|ac di an)<|bo bp hr.u (bo bR hr.u (dv 3) di) di) an) (oX<|show(["_law_k","_law_columns_here","_law_xs","_law_deep"]:List Str).Nodup by trivial) (aR rfl) aS (λ_ _ _ _ _=>nR) λ_ _ _ _ _=>(aL T.iB (oF T n) hr<|al 1<|al 2<|ac (bo rn hr.u (dv 3) di) an))<|s1<|sr<|bY<|ac (uM<|ix hr.u (cz<|ac ds<|ac ds an)<|bo rn hr.u (dv 4) di)<|ac (ct fU T.bu aW<|al 5 an) an) s0)<|sc (si (twd<|twor (bj aU hr.u (dv 4) di)<|tw1<|bj aU hr.u (dv 0)<|bY an) (s1<|sr<|uM<|ix hr.u (cz<|ac (bY<|ac ds an)<|ac (bY<|ac ds<|ac (ct fU T.bu aW<|ac (tQ (N:=["_law_k","_law_x"]) (src:=[none,some 3]) (jb (ae uQ) ["_law_columns_here","_law_xs","_law_deep","_law_x","_law_way","_law_some","_law_name","_law_kind","_law_value_here"] rfl rfl<|by trivial) (JU T.eE<|ac (bo bp hr.u (bo bR hr.u (dv 3) di) di) an) (oX<|show(["_law_k","_law_x"]:List Str).Nodup by trivial) (aR rfl) aS (λ_ _ _ _ _=>nR) λ_ _ _ _ _=>(aL T.Aq (CF T) hr<|ac (bo bB hr.u (bo bR hr.u (dv 1) di)<|bo rq hr.u di<|dv 0) an)) an) an) an)<|bo bp hr.u (bo bR hr.u (dv 3) di) di) s0)<|sc (sa (ix hr.u (dv 0)<|bo bp hr.u (bo bR hr.u (dv 3) di)<|cb ba T.aX aF<|al 0 an)<|gt (n:=2)<|gc (gn (i:=6) cM.nd)<|gc (gn (i:=7) cM.nd) g0)<|sc (cj (i:=8) cM.nd<|aL T.mz (sE T) hr<|al 7<|ac (aL T.qE (AB T) hr<|al 1 an) an)<|sc (si (twd<|twor (bj eP hr.u (dv 8) dn)<|tw1<|bj pW hr.u (dv 4) di) (s1<|sr<|bY<|ac ds<|al 6<|al 8 an) s0)<|sc (si (twd<|twand (bj aU hr.u (dv 4) di)<|tw1<|bj aU hr.u (dv 7) ds) (s1<|sr<|bY<|ac ds<|al 6<|al 8 an) s0)<|s1<|sr<|bY<|ac (uM<|ix hr.u (cz<|ac ds<|ac ds an)<|bo bp hr.u (dv 4) di)<|al 6<|al 8 an),?_};refine !{lx,xs,rfl,hX,JX,hx,λx ys x0 yl hy=>?_};have hY:(S.set lx<|.lst<|ys.map D.int) lx=some (.lst<|ys.map D.int):=aa;have q1:∀d,Lf cs d->R d (S.set lx<|.lst<|ys.map D.int):=λd hd=>q d ys (.inl hd) (by rw[NH hd];show 1<=1+_;lia) (by lia) hy;refine !{by decide,?_};have w0:0<=x%9:=zO _ (by decide);have w1:x%9<9:=zL _ (by decide);generalize x%9=way at w0 w1⊢;have ed:0<n->((n:Nat):Int)-1=((n-1:Nat):Int):=λh=>by lia
  refine !{decide<|(0:Int)<((n:Nat):Int),rfl,CP (decide<|way=0) (λh=>!!⟨h⟩)<|bQ (λh=>?_) λLQ=>?_};rw[zI,zR,zR]at h;have hn:0<n:=by lia
  refine !!!{cs,lx,n-1,ys,by lia,by rw[ed hn];rfl,hc,hY,by lia,hy,λd zs hd hz zl xq=>{n2,?_}};rw[cF];exact fo<|q _ zs (.inr<|.inl ⟨d,rfl,hd⟩) (by rw[Qz];show _<=1+3*QA n;lia) zl xq;refine !{decide<|(0:Int)<((n:Nat):Int),rfl,CP (decide<|way<3) (λh=>!!⟨h⟩)<|bQ (λh=>?_) λ_=>?_};rw[zI,zR,zR]at h;have hn:0<n:=by lia
  have hwz:way≠0:=λe=>by rw[Bool.and_eq_false_iff,yw,yw]at LQ;lia
  refine{ua,λp hp=>!⟨{by decide,by trivial},by decide,bN (zO _<|by decide) (zL _<|by decide) hp λd hd=>?_⟩};obtain⟨k,rfl,hk⟩:∃k:Nat,d=.int k/\k<=3:=by have hd:d∈[D.int 2,.int 3,.int 1,.int 0]:=hd;simp only[zj,zM,or_false]at hd;rcases hd with h|h|h|h;exact{2,h,by decide};exact{3,h,by decide};exact{1,h,by decide};exact{0,h,by decide}
  refine{((k:Nat):Int),rfl,by lia,by lia,?_};refine Gm (λi out S'=>∃zs:List Int,Sub (S.set lx<|.lst<|zs.map D.int) S'/\zs.length<=20/\(∀z∈zs,0<=z)/\out.length=i/\∀e∈out,Sg cs n e/\pC n e<=QA n) {ys,.refl _,by lia,hy,rfl,λ_ h=>(nomatch h)} (λ_ _ _ _=>trivial) ?_ ?_;rintro i d out S' hd ⟨zs,sb,zl,hz,Pk,ho⟩;have hi:i<k:=by have hd:(df 0 ((k:Nat):Int).toNat)[i]?=some d:=hd;have:=(cB hd).1;lia
  refine{bg<|by lia,_,rfl,_,rfl,_,rfl,cs,lx,n-1,zs,by lia,by rw[ed hn];rfl,hc,sb _ _ aa,zl,hz,λd vs hd hsz vl hv=>{vs,Jo sb,vl,hv,by rw[zE,Pk];rfl,λe he=>?_}};rcases zP.mp he with he|he;exact ho e he;rw[zK.mp he];exact⟨hd,hsz⟩;rintro out S' ⟨zs,sb,zl,hz,Pk,ho⟩ pl cU;rw[show({df 0 ((k:Nat):Int).toNat,λ_=>True}:nQ).xs.length=((k:Nat):Int).toNat from bL]at Pk;refine{n2,λp2 eS=>!⟨bN (by lia) (by show way-1<2;lia) eS λd hd=>?_⟩};obtain⟨o,rfl,hoo⟩:∃o:Str,d=.str o/\(o ="and"\/o ="or"):=by have hd:d∈[D.str "and",.str "or"]:=hd;simp only[zj,zM,or_false]at hd;rcases hd with h|h;exact{_,h,.inl rfl};exact{_,h,.inr rfl}
  refine !{_,_,rfl,.inl aa,n2,_,sb.trans<|.new cU,q _ zs (.inr<|.inr {o,out,hoo,rfl,by lia,λe he=>(ho e he).1}) ?_ zl hz};have hs:=Jn λe he=>(ho e he).2;have:QA n*out.length<=QA n*3:=Nat.mul_le_mul_left _ (by lia);rw[Mj hoo];show _<=1+3*QA n;lia;refine !{decide<|way=8,rfl,Jm (cs.map ay).isEmpty (λh=>!{mH,L9 (Mg hc.1 hc.2) !⟨h⟩})<|bQ (λh=>?_) λh=>?_};have k0:0<=x/9%4:=zO _ (by decide);have k1:x/9%4<4:=zL _ (by decide);refine{sj,_,rfl,{by decide,by trivial},by decide,x/9%4,rfl,by lia,by lia,?_};refine fF (λ_ v=>∃z∈KS,v=.str z) trivial (by show(df 0 _).length<=_;rw[bL];lia) (λd hd Q hQ=>?_) λout ho p1 tw=>?_;obtain⟨j,hj⟩:=yt hd;obtain⟨_,rfl⟩:=cB hj;exact{_,rfl,{by decide,by trivial},_,rfl,.inl {by decide,by decide},_,rfl,λz hz=>hQ _ ⟨z,hz,rfl⟩};obtain⟨ks,rfl,Ba⟩:=keys_str λd hd=>(sO ho d hd).elim λ_ h=>h;have hl:=yN ho;rw[show({df 0 (x/9%4).toNat,λ_=>True}:nQ).xs=df 0 (x/9%4).toNat from rfl,bL,zb]at hl;refine{_,_,rfl,.inl aa,n2,n2,λp hp=>!⟨{by decide,by trivial},by decide,bN (zO _<|by decide) (zL _<|by decide) hp λd hd=>?_⟩};have hd:d∈[D.tup [.str "every"],.tup [.str "key",.tup<|ks.map D.str]]:=hd;simp only[zj,zM,or_false]at hd;rcases hd with rfl|rfl;exact{_,.new tw,q1 _<|.inl rfl};exact{_,.new tw,q1 _<|.inr<|.inl {ks,rfl,by lia,Ba}};rw[Bool.or_eq_false_iff]at h;have xP:0<cs.length:=by cases cs with|nil=>(cases h.2)|cons c cs=>exact Nat.succ_pos _
  have RF:(cs.map ay).length=cs.length:=zb _;obtain⟨d,e1,e2⟩:=qw (l:=cs.map ay) (i:=x/9%(((cs.map ay).length:Nat):Int)) (zO _<|by lia)<|zL _ (by lia);obtain⟨c,RY,rfl⟩:=zi.mp<|zx e2;refine !!⟨{by decide,by trivial},_,rfl,_,rfl,by lia,_,e1,_,rfl,rfl,_,_,rfl,_,_,rfl,rfl,?_⟩;refine !!{lx,ys,rfl,hY,by lia,hy,λx2 zs _ zl hz=>{c.2,x2,rfl,λv hv=>?_}};rw[cF];have qc:∀o,wR o c v->Fo (S.set lx<|.lst<|zs.map D.int) (R<|.tup [.str o,.str c.1,v]):=λo ho=>fo<|q _ zs (.inl<|.inr<|.inr ⟨o,c,v,RY,hv,ho,rfl⟩) (by rw[NH<|.inr<|.inr ⟨o,c,v,RY,hv,ho,rfl⟩];show 1<=1+_;lia) (by lia) hz;refine !{ah v,rfl,Jm (decide<|way<4) (λh=>!!⟨h⟩)<|bQ (λh4=>?_) λh4=>?_};exact !!{n3,qc _<|.inl rfl};rw[Bool.or_eq_false_iff]at h4;have Nl:=aY h4.1;refine !{decide<|way=4,rfl,CP (decide<|c.2 ="word") (λh=>!!⟨h⟩)<|bQ (λh5=>?_) λh5=>?_};rw[zI]at h5;exact !!{n3,qc _<|.inr {Nl,.inr<|.inr {rfl,zC h5.2}}};refine{n2,λp hp=>!{(by decide:(0:Int)<2),bN (zO _<|by decide) (zL _<|by decide) hp λd hd=>?_}};obtain⟨o,rfl,ho⟩:∃o:Str,d=.str o/\(o ="below"\/o ="above"):=by have hd:d∈[D.str "below",.str "above"]:=hd;simp only[zj,zM,or_false]at hd;rcases hd with rfl|rfl;exact{_,rfl,.inl rfl};exact{_,rfl,.inr rfl}
  exact !!{n3,qc o<|.inr {Nl,ho.elim .inl λh=>.inr<|.inl h}}
theorem Em:∀{l:List Str}{p:Str},PyProof.Rows.risingS p l=true->(p::l).Pairwise λa b=>a.cps.toList<=b.cps.toList|[],p,_=>List.pairwise_singleton _ _|x::r,p,h=>by have h:(!PySem.Spec.ltCps x.cps.toList p.cps.toList&&PyProof.Rows.risingS x r)=true:=h;rw[zI,PyProof.Rows.ltCps_eq,Bool.not_eq_true',yw]at h;have ih:=Em h.2;have hpx:p.cps.toList<=x.cps.toList:=List.not_lt.mp h.1;refine List.pairwise_cons.mpr {λy hy=>?_,ih};rcases zj.mp hy with e|hy;rw[e];exact hpx;exact List.le_trans hpx<|(List.pairwise_cons.mp ih).1 y hy
theorem ko(h:PyProof.Rows.sortedS l=true):l.Pairwise λa b=>a.cps.toList<=b.cps.toList:=by cases l with|nil=>exact List.Pairwise.nil|cons x r=>exact Em h
theorem Ml{a b:Str}(h:a.cps.toList=b.cps.toList):a=b:=by obtain⟨⟨x⟩⟩:=a;obtain⟨⟨y⟩⟩:=b;cases h;rfl
theorem u7{l m:List Str}(hl:l.Pairwise λa b=>a.cps.toList<=b.cps.toList)(hm:m.Pairwise λa b=>a.cps.toList<=b.cps.toList)(nl:l.Nodup)(nm:m.Nodup)(h:∀z,z∈l↔z∈m):l=m:=List.Perm.eq_of_pairwise (λa b _ _ h1 h2=>Ml<|List.le_antisymm h1 h2) hl hm<|(List.perm_ext_iff_of_nodup nl nm).mpr h
def TI(l:List Std)(n:Nat):Prop:=∀s∈l,s.b<=n/\∀m,s.e=some m->m<n
noncomputable def Mm(s:Std):D:=match s.e with|none=>.tup s.ws|some _=>.au
noncomputable def cur(l:List Std):D:=match l.getLast? with|none=>.au|some s=>Mm s
theorem jU(r:List Std)(s:Std):cur (r++[s])=Mm s:=by unfold cur;rw[List.getLast?_concat]
theorem QC(h:TI l n):wt l n=cur l:=by by_cases e:l=[];subst e;rfl;obtain⟨r,s,rfl⟩:=kf e;rw[jU];unfold wt;rw[List.reverse_append];obtain⟨h1,h2⟩:=h s<|zG _<|zK.mpr rfl;show IH (s::r.reverse) (n:Int)=_;unfold IH Mm;rw[if_pos<|show(s.b:Int)<=(n:Int) by lia];cases q:s.e with|none=>rfl|some m=>have:=h2 m q;exact if_neg<|show ¬(n:Int)<=(m:Int) by lia
theorem TI.up(h:TI l n):TI l (n+1):=λs hs=>{Nat.le_succ_of_le (h s hs).1,λm e=>Nat.lt_succ_of_lt<|(h s hs).2 m e}
theorem TI.close(h:TI l n):TI (iF n l) (n+1):=by by_cases e:l=[];subst e;exact λs hs=>(nomatch hs);obtain⟨r,s,rfl⟩:=kf e;rw[eL];intro x hx;rcases zP.mp hx with hx|hx;exact h.up x<|yr _ hx;rw[zK.mp hx];exact{Nat.le_succ_of_le (h s<|zG _<|zK.mpr rfl).1,λm e=>by cases e;exact Nat.lt_succ_self _}
theorem TI.beg(h:TI l<|n+1):TI (l++[Std.mk (n+1) none ws]) (n+1):=λs hs=>by rcases zP.mp hs with hs|hs;exact h s hs;rw[zK.mp hs];exact{zq _,λm e=>(by cases e)}
theorem Gn:cur (iF n l)=.au:=by by_cases e:l=[];subst e;rfl;obtain⟨r,s,rfl⟩:=kf e;rw[eL,jU];rfl
noncomputable def qk(kn:Kn)(z:Str):D:=match iJ kn z with|none=>.au|some ws=>.tup ws
structure RI(rs:nA)(n:Nat)(kn:Kn):Prop where
 ti:∀z,TI ((lu rs z).getD []) n
 eq:∀z,cur ((lu rs z).getD [])=qk kn z
 ks:∀r∈rs,r.1∈KS
theorem Mn(h:r∈CA rs z s):r.1=z\/∃r'∈rs,r'.1=r.1:=by unfold CA at h;split at h;obtain⟨r0,xu,e⟩:=zi.mp h;refine .inr {r0,xu,?_};subst e;split<;>rfl;rcases zP.mp h with h|h;exact .inr ⟨r,h,rfl⟩;rw[zK.mp h];exact .inl rfl
theorem Jp(h:∀r∈rs,r.1∈KS)(hz:z∈KS):∀r∈CA rs z s,r.1∈KS:=λr hr=>by rcases Mn hr with e|⟨r',jc,e⟩;rw[e];exact hz;rw[<-e];exact h r' jc
theorem En:qk (qg kn z ws) k=if k=z then .tup ws else qk kn k:=by unfold qk;rw[L7];by_cases h:k=z;rw[if_pos h,if_pos h];rw[if_neg h,if_neg h]
theorem Eo:qk (wO kn z) k=if k=z then .au else qk kn k:=by unfold qk;rw[L8];by_cases h:k=z;rw[if_pos h,if_pos h];rw[if_neg h,if_neg h]
theorem RI.nil:RI [] 0 []:={λz s hs=>(nomatch hs),λz=>rfl,λr hr=>(nomatch hr)}
theorem RI.put(h:RI rs n kn)(hz:z∈KS):RI (ud rs z (n+1) ws) (n+1) (qg kn z ws):=by refine{λk=>?_,λk=>?_,Jp h.ks hz};unfold ud;rw[jN];by_cases e:k=z;rw[if_pos e];exact(h.ti z).up.beg;rw[if_neg e];exact(h.ti k).up;unfold ud;rw[jN,En];by_cases e:k=z;rw[if_pos e,if_pos e];exact jU _ _;rw[if_neg e,if_neg e];exact h.eq k
theorem RI.del(h:RI rs n kn)(hz:z∈KS):RI (ox rs z n) (n+1) (wO kn z):=by refine{λk=>?_,λk=>?_,Jp h.ks hz};unfold ox;rw[jN];by_cases e:k=z;rw[if_pos e];exact(h.ti z).close;rw[if_neg e];exact(h.ti k).up;unfold ox;rw[jN,Eo];by_cases e:k=z;rw[if_pos e,if_pos e];exact Gn;rw[if_neg e,if_neg e];exact h.eq k
theorem RI.change(h:RI rs n kn)(hz:z∈KS):RI (ud (ox rs z n) z (n+1) ws) (n+1) (qg kn z ws):=by have h1:=h.del hz;refine{λk=>?_,λk=>?_,Jp h1.ks hz};unfold ud;rw[jN];by_cases e:k=z;rw[if_pos e];exact(h1.ti z).beg;rw[if_neg e];exact h1.ti k;unfold ud;rw[jN,En];by_cases e:k=z;rw[if_pos e,if_pos e];exact jU _ _;rw[if_neg e,if_neg e,h1.eq k,Eo,if_neg e]
theorem RI.wt{rs:nA}{n:Nat}{kn:Kn}(h:RI rs n kn)(z:Str):wt ((lu rs z).getD []) n=qk kn z:=by rw[QC<|h.ti z,h.eq]
theorem RI.Bc(h:RI rs n kn)(hz:z∈KS):Bc rs (.str z) n=qk kn z:=by rw[wM (fH z hz).1,h.wt]
theorem oG(kn:Kn)(z:Str):ah (qk kn z)=!(iJ kn z).isSome:=by unfold qk;cases iJ kn z<;>rfl
theorem Jq(h:cD C S a F cs dl rs):(rs.map (·.1)).Nodup:=by obtain⟨ld,lr,ra,h,_,rfl⟩:=h;unfold gZ;rw[zy];exact h.kn
theorem RI.len(h:RI rs n kn)(hs:cD C S a F cs dl rs):rs.length<=60:=by
 have:=sub_len (Jq hs) (m:=KS) λx hx=>by obtain⟨r,hr,rfl⟩:=zi.mp hx;exact h.ks r hr
 rw[zb]at this;exact zD this<|by trivial
noncomputable def Gq(kn:Kn)(ss:List Str):List D:=ss.map λz=>.tup [.str z,qk kn z]
theorem NI(h:lu rs k=some s):k∈rs.map (·.1):=by induction rs with|nil=>(cases h)|cons r rs ih=>rw[eZ]at h;rw[zA];by_cases e:r.1=k;exact zj.mpr<|.inl e.symm;rw[if_neg e]at h;exact zh _<|ih h
theorem Jr{C a:Addr}{S:aw}{F:List Addr}{cs:List<|Str×Str}{dl:List D}{rs:nA}{kn:Kn}(h:RI rs dl.length kn)(hs:cD C S a F cs dl rs)(hI:KI cs kn){ss s2:List Str} (p1:ss.Perm (rs.map (·.1))) (o1:PyProof.Rows.sortedS ss=true) (p2:s2.Perm (kn.map (·.1))) (o2:PyProof.Rows.sortedS s2=true):ee rs dl.length ss=Gq kn s2:=by
 have e:ss.filter (λz=>!ah (wt ((lu rs z).getD []) dl.length))=s2:=by refine u7 ((ko o1).filter _) (ko o2) ?_ (p2.nodup_iff.mpr hI.nd) λz=>?_;exact yo.nodup<|p1.nodup_iff.mpr<|Jq hs;rw[yh,h.wt,oG,Bool.not_not,p1.mem_iff,p2.mem_iff];constructor;rintro⟨_,hz⟩;obtain⟨ws,ug⟩:=Option.isSome_iff_exists.mp hz;exact zi.mpr {_,mQ ug,rfl};intro hz;obtain⟨ws,ug⟩:=jQ hz;refine{?_,by rw[ug];rfl};have e:=h.eq z;unfold qk at e;rw[ug]at e;cases q:lu rs z with|none=>(rw[q]at e;cases e)|some s=>exact NI q
 unfold ee Gq;rw[e];refine zS λz _=>?_;unfold ue;rw[h.wt]
theorem QD(hI:KI cs kn)(p:ss.Perm (kn.map (·.1))):∀d∈Gq kn ss,Ly S 60 d:=λd hd=>by
 obtain⟨z,hz,rfl⟩:=zi.mp hd;obtain⟨ws,ug⟩:=jQ<|p.mem_iff.mp hz;obtain⟨hzK,hwg⟩:=hI.ok _<|mQ ug;have e:qk kn z=.tup ws:=by unfold qk;rw[ug]
 rw[e];refine(Ly.tup (n:=1) λx hx=>?_).le (by decide);simp only[zj,zM,or_false]at hx;rcases hx with rfl|rfl;exact(Ly.str (fH z hzK).2.2).le (by decide);exact hwg.ly
noncomputable def oH(k:Nat)(l:List Std):List Std:=match l.getLast? with|none=>l|some s=>match s.e with|none=>iF k l|some _=>l
theorem pG(h:s.e=none):oH k (r++[s])=r++[Std.mk s.b (some k) s.ws]:=by unfold oH;rw[List.getLast?_concat];dsimp only;rw[h];exact eL _ _ _
theorem AR(h:s.e=some n):oH k (r++[s])=r++[s]:=by unfold oH;rw[List.getLast?_concat];dsimp only;rw[h]
theorem Mp{s:Std}{r:List Std}{m:Nat}(h:m<s.b):IH (s::r) m=IH r m:=by show(if (s.b:Int)<=(m:Int) then _ else IH r m)=_;rw[if_neg<|by lia]
theorem Gr(hm:m<=n):wt (oH n l) m=wt l m:=by by_cases e:l=[];subst e;rfl;obtain⟨r,s,rfl⟩:=kf e;cases q:s.e with|some k=>rw[AR q]|none=>rw[pG q];unfold wt;rw[List.reverse_append,List.reverse_append];show(if (s.b:Int)<=(m:Int) then (if (m:Int)<=(n:Int) then D.tup s.ws else .au) else IH r.reverse m)=(if (s.b:Int)<=(m:Int) then (match s.e with|none=>.tup s.ws|some n=>if (m:Int)<=(n:Int) then .tup s.ws else .au) else IH r.reverse m);rw[q,if_pos<|show(m:Int)<=(n:Int) by lia]
theorem CQ(h:cur l≠.au):oH n l=iF n l:=by by_cases e:l=[];subst e;rfl;obtain⟨r,s,rfl⟩:=kf e;rw[jU]at h;cases q:s.e with|none=>rw[pG q,eL]|some m=>unfold Mm at h;rw[q]at h;exact absurd rfl h
theorem Gs:vB "list"= some KO:=(if_neg<|by decide).trans<|(if_neg<|by decide).trans<|(if_neg<|by decide).trans<|(if_neg<|by decide).trans<|if_pos rfl
noncomputable def i4(kn:Kn)(ss:List Str):List Row:=ss.map λz=>(z,(iJ kn z).getD [])
structure Snap(rs:nA)(cs:List (Str×Str))(m:Nat)(rows:List Row):Prop where
 ex:∃kn ss,rows=i4 kn ss/\KI cs kn/\ss.Perm (kn.map (·.1))/\PyProof.Rows.sortedS ss=true/\∀z,wt ((lu rs z).getD []) m=qk kn z
theorem kr(p:ss.Perm (kn.map (·.1))):(i4 kn ss).map ai=Gq kn ss:=by unfold i4 Gq;rw[zy];refine zS λz hz=>?_;obtain⟨ws,ug⟩:=jQ<|p.mem_iff.mp hz;show D.tup [.str z,.tup<|(iJ kn z).getD []]=.tup [.str z,qk kn z];unfold qk;rw[ug];rfl
theorem Js(hI:KI cs kn)(p:ss.Perm (kn.map (·.1))):Rg cs (i4 kn ss):=by refine{λr hr=>?_,?_};obtain⟨z,hz,rfl⟩:=zi.mp hr;obtain⟨ws,ug⟩:=jQ<|p.mem_iff.mp hz;show Wg cs ((iJ kn z).getD []);rw[ug];exact(hI.ok _<|mQ ug).2;unfold i4;rw[zy];show(ss.map id).Nodup;rw[List.map_id];exact p.nodup_iff.mpr hI.nd
theorem Gu(hI:KI cs kn)(p:ss.Perm (kn.map (·.1))):(i4 kn ss).length<=60:=by unfold i4;rw[zb,p.length_eq,zb];exact hI.len
theorem Snap.rg(h:Snap rs cs m rows):Rg cs rows/\rows.length<=60:=by obtain⟨kn,ss,rfl,hI,p,_⟩:=h.ex;exact{Js hI p,Gu hI p}
theorem Snap.key(h:Snap rs cs m rows):∀r∈rows,r.1∈KS:=by obtain⟨kn,ss,rfl,hI,p,_⟩:=h.ex;intro r hr;obtain⟨z,hz,rfl⟩:=zi.mp hr;obtain⟨ws,ug⟩:=jQ<|p.mem_iff.mp hz;exact(hI.ok _<|mQ ug).1
theorem Gv{C a:Addr}{S:aw}{F:List Addr}{cs:List<|Str×Str}{dl:List D}{rs:nA}{m:Nat}{rows:List Row}(h:Snap rs cs m rows)(hs:cD C S a F cs dl rs){ss:List Str} (p1:ss.Perm (rs.map (·.1))) (o1:PyProof.Rows.sortedS ss=true):ee rs m ss=rows.map ai:=by
 obtain⟨kn,s2,rfl,hI,p2,o2,hw⟩:=h.ex;rw[kr p2];have e:ss.filter (λz=>!ah (wt ((lu rs z).getD []) m))=s2:=by refine u7 ((ko o1).filter _) (ko o2) ?_ (p2.nodup_iff.mpr hI.nd) λz=>?_;exact yo.nodup<|p1.nodup_iff.mpr<|Jq hs;rw[yh,hw,oG,Bool.not_not,p1.mem_iff,p2.mem_iff];constructor;rintro⟨_,hz⟩;obtain⟨ws,ug⟩:=Option.isSome_iff_exists.mp hz;exact zi.mpr {_,mQ ug,rfl};intro hz;obtain⟨ws,ug⟩:=jQ hz;refine{?_,by rw[ug];rfl};have e:=hw z;unfold qk at e;rw[ug]at e;cases q:lu rs z with|none=>(rw[q]at e;cases e)|some s=>exact NI q
 unfold ee Gq;rw[e];refine zS λz _=>?_;unfold ue;rw[hw]
def HI(rs:nA)(cs:List<|Str×Str)(n:Nat)(hs:List<|List Row):Prop:=hs.length=n+1/\∀m rows,hs[m]?=some rows->Snap rs cs m rows
theorem HI.step{rs cZ:nA}{cs:List<|Str×Str}{n:Nat}{hs:List<|List Row}(h:HI rs cs n hs)(old:∀z m,m<=n->wt ((lu cZ z).getD []) m=wt ((lu rs z).getD []) m){kn:Kn}(hI:KI cs kn)(hR:RI cZ (n+1) kn){ss:List Str}(p:ss.Perm (kn.map (·.1)))(o:PyProof.Rows.sortedS ss=true):HI cZ cs (n+1) (hs++[i4 kn ss]):=by
 refine{by rw[zE,h.1];rfl,λm rows e=>?_};by_cases hm:m<hs.length;rw[List.getElem?_append_left hm]at e;obtain⟨kn0,s0,e0,h1,h2,h3,h4⟩:=(h.2 m rows e).ex;have:=h.1;exact{kn0,s0,e0,h1,h2,h3,λz=>(old z m<|by lia).trans<|h4 z};rw[List.getElem?_append_right<|by lia]at e;have Ni:m-hs.length=0:=by cases q:m-hs.length with|zero=>rfl|succ k=>rw[q]at e;simp at e
 rw[Ni]at e;cases e;have:=h.1;have hmn:m=n+1:=by lia
 subst hmn;exact{kn,ss,rfl,hI,p,o,λz=>hR.wt z}
theorem QE{l:List Std}{n m:Nat}{ws:List D}(hm:m<=n):wt (l++[Std.mk (n+1) none ws]) m=wt l m:=by unfold wt;rw[List.reverse_append];exact Mp<|show m<n+1 by lia
theorem Ep(k:Str)(m:Nat)(hm:m<=n):wt ((lu (ud rs z (n+1) ws) k).getD []) m=wt ((lu rs k).getD []) m:=by unfold ud;rw[jN];by_cases e:k=z;rw[if_pos e,e];exact QE hm;rw[if_neg e]
theorem Er(h:RI rs n kn)(hz:(iJ kn z).isSome=true)(k:Str)(m:Nat)(hm:m<=n):wt ((lu (ox rs z n) k).getD []) m=wt ((lu rs k).getD []) m:=by
 unfold ox;rw[jN];by_cases e:k=z;rw[if_pos e,e];have hc:cur ((lu rs z).getD [])≠.au:=by rw[h.eq];unfold qk;cases q:iJ kn z with|none=>(rw[q]at hz;cases hz)|some ws=>exact λe=>by cases e
 show wt (iF n<|(lu rs z).getD []) m=_;rw[<-CQ hc,Gr hm];rw[if_neg e]
theorem Es(hz:z∈KS):Gt S (.str z):=El<|by have:=(fH z hz).2.1;lia
section
variable{t:ib}{S:aw}{a:Addr}{F:List Addr}{cs:List (Str×Str)}{dl:List D}{rs:nA}{kn:Kn}{d:D}{R:KD}{Z:KX}
theorem Jt(hz:z∈KS)(h:Wg cs ws):ot cs (.str z) (.tup ws)=true:=by unfold ot;rw[h.Qy,show ofStr kI (.str z)=true from(fH z hz).1];rfl
theorem CT(hR:RI rs dl.length kn)(hz:z∈KS):ah (Bc rs (.str z) dl.length)=!(iJ kn z).isSome:=by rw[hR.Bc hz,oG]
theorem Vm(h:iJ kn z=none):(!(iJ kn z).isSome)=true:=by rw[h];rfl
theorem Ju(h:(iJ kn z).isSome=true):(!(iJ kn z).isSome)=false:=by rw[h];rfl
theorem tf{b:Bool}(h1:b=true)(h2:b=false){p:Prop} : p:=by rw[h1]at h2;cases h2
theorem cD.out(hS:cD C S a F cs dl rs)(hb:S b=none):b∉F:=λm=>by obtain⟨ld,lr,ra,h,rfl,_⟩:=hS;unfold fp at m;simp only[zj,zi]at m;rcases m with e|e|e|⟨r,hr,e⟩;have:=h.ins;rw[<-e,hb]at this;cases this;have:=h.Ay;rw[<-e,hb]at this;cases this;have:=h.run;rw[<-e,hb]at this;cases this;have:=h.cell r hr;rw[e,hb]at this;cases this
theorem cD.off(hS:cD C S a F cs dl rs)(hp:p∉F):cD C (S.set p c) a F cs dl rs:=by obtain⟨ld,lr,ra,hh,rfl,e2⟩:=hS;unfold fp at hp;simp only[zj,not_or]at hp;obtain⟨n1,n2,n3,n4⟩:=hp;exact{ld,lr,ra,{(ag<|Ne.symm n1).trans hh.ins,(ag<|Ne.symm n2).trans hh.Ay,(ag<|Ne.symm n3).trans hh.run,λr hr=>(ag λe=>n4<|by rw[<-e];exact zi.mpr ⟨r,hr,rfl⟩).trans<|hh.cell r hr,hh.kn,hh.an,hh.sz},rfl,e2}
structure Dos(t:ib)(ds:List D)(S:aw)(R:KD)(Z:KX):Prop where
 of:CH t ds S R Z
theorem Gw(hS:cD t.ao S a F cs dl rs)(hg:Gd cs)(hI:KI cs kn)(hR:RI rs dl.length kn)(hl:dl.length<=100)(hd:GD KS cs kn d){qF:Kn}(ZX:ZJ kn d qF) (q:∀S' F' cZ,cD t.ao S' a F' cs (dl++[d]) cZ->CC F F' S S'->RI cZ (dl.length+1) qF->(∀z m,m<=dl.length->wt ((lu cZ z).getD []) m=wt ((lu rs z).getD []) m)->R .au S'):Dos t [.ref a,d] S R Z:=by
 have ZV:=hR.len hS;have Vn:=hg.1;obtain⟨ld,lr,ra,h,_,_⟩:=id hS;refine{a,_,h.ins,rfl,?_};rcases hd with⟨z,ws,hz,hw,hn,rfl⟩|⟨z,ws,hz,hw,hn,rfl⟩|⟨z,hz,hn,rfl⟩;have ro:=Jt hz hw;have st:=(CT hR hz).trans<|Vm hn;refine .inl {_,_,rfl,a,F,cs,_,rs,_,_,rfl,hS,Vn,Es hz,hw.gts Vn,by lia,by lia,λe=>tf ro e,λ_ e=>tf st e,λz' Wz e1 e2 _ _ S' F' qA hK=>?_};cases e1;cases e2;have Vo:qF=qg kn z ws:=by rcases ZX with⟨n,y,vs,_,e1,e2⟩|⟨y,_,e1,_⟩<;>cases e1;exact e2
 subst Vo;exact q S' F' _ qA hK (hR.put hz) Ep;have ro:=Jt hz hw;have st:=(CT hR hz).trans<|Ju hn;refine .inr<|.inl {_,_,rfl,a,F,cs,_,rs,_,_,rfl,hS,Vn,Es hz,hw.gts Vn,by lia,by lia,λe=>tf ro e,λ_ e=>tf e st,λz' Wz e1 e2 _ _ S' F' qA hK=>?_};cases e1;cases e2;have Vo:qF=qg kn z ws:=by rcases ZX with⟨n,y,vs,_,e1,e2⟩|⟨y,_,e1,_⟩<;>cases e1;exact e2
 subst Vo;exact q S' F' _ qA hK (hR.change hz) λk m hm=>(Ep k m hm).trans<|Er hR hn k m hm;have st:=(CT hR hz).trans<|Ju hn;refine .inr<|.inr !{a,F,cs,_,rs,_,rfl,hS,Es hz,by lia,λe=>tf (fH z hz).1 e,λ_ e=>tf e st,λz' e1 _ _ S' qA hK=>?_};cases e1;have Vo:qF=wO kn z:=by rcases ZX with⟨n,y,vs,_,e1,e2⟩|⟨y,_,e1,e2⟩<;>cases e1;exact e2
 subst Vo;exact q S' F _ qA hK (hR.del hz)<|Er hR hn
theorem Snap.vw(h:Snap rs cs m rows)(hS:cD t.ao S a F cs dl rs)(hR:RI rs dl.length kn)(hm:uc dl.length md=some (m:Int))(Wj:Gt S md):Vw t.ao S a cs md rows:=by have:=h.rg;refine{{F,dl,rs,hS,by have:=hR.len hS;lia,(λe=>by rw[hm]at e;cases e),λi ss hi hp hs=>?_},Wj,by lia,this.1};rw[hm]at hi;cases hi;exact Gv h hS hp hs
end
def WD(S:aw)(F:List Addr)(S':aw):Prop:=∀b c,S b=some c->b∉F/\S' b=some c
theorem WD.sub(h:WD S F S'):Sub S S':=λb c e=>(h b c e).2
theorem KI.nil(cs:List<|Str×Str):KI cs []:={List.nodup_nil,λ_ h=>(nomatch h)}
theorem m7(ns:List Int)(lo hi:Option Int):b_ (ns.map D.int) lo hi=(b_ ns lo hi).map D.int:=by unfold b_;rw[zb,List.map_take,List.map_drop]
structure St(t:ib)(S0:aw)(a:Addr)(fs:List (Addr×Ce))(F:List Addr)(cs:List (Str×Str))(dl:List D)(rs:nA)(S:aw):Prop where
 sh:cD t.ao S a F cs dl rs
 fa:∀x∈fs,S x.1=some x.2/\x.1∉F/\S0 x.1=none
 nd:(fs.map Prod.fst).Nodup
 Jv:WD S0 F S
section
variable{t:ib}{S0:aw}{a:Addr}{fs:List (Addr×Ce)}{F:List Addr}{cs:List (Str×Str)}{dl:List D}{rs:nA}{S:aw}
theorem St.at(h:St t S0 a fs F cs dl rs S)(i:Nat)(e:fs[i]?=some (b,c)):S b=some c:=(h.fa _<|zx e).1
theorem St.sub(h:St t S0 a fs F cs dl rs S)(b:Sub S S'):St t S0 a fs F cs dl rs S':={h.sh.sub b,λx hx=>{b _ _ (h.fa x hx).1,(h.fa x hx).2},h.nd,λx c hx=>{(h.Jv x c hx).1,b _ _ (h.Jv x c hx).2}}
theorem St.zero(h:St t S0 a fs F cs dl rs S)(hb:S b=none):S0 b=none:=by cases e:S0 b with|none=>rfl|some c=>have:=h.Jv.sub _ _ e;rw[hb]at this;cases this
theorem St.new(h:St t S0 a fs F cs dl rs S)(hp:S p=none)(c:Ce):St t S0 a (fs++[(p,c)]) F cs dl rs (S.set p c):=by
 have h1:=h.sub<|.new (c:=c) hp;refine{h1.sh,λx hx=>?_,?_,h1.Jv};rcases zP.mp hx with hx|hx;exact h1.fa x hx;rw[zK.mp hx];exact{aa,h.sh.out hp,h.zero hp};rw[zJ,List.nodup_append];refine{h.nd,by simp,λx hx y hy e=>?_};obtain⟨z,hz,rfl⟩:=zi.mp hx;have hy:y=p:=by simpa using hy
 have:=(h.fa z hz).1;rw[e,hy,hp]at this;cases this
theorem St.put(h:St t S0 a fs F cs dl rs S)(i:Nat)(e:fs[i]?=some (b,c))(c':Ce):St t S0 a (fs.set i (b,c')) F cs dl rs (S.set b c'):=by
 have hb:=h.fa _<|zx e;have hi:=(zd.mp e).1;have em:(fs.set i (b,c')).map Prod.fst=fs.map Prod.fst:=by refine List.ext_getElem? λj=>?_;rw[zg,zg];by_cases q:j=i;subst q;rw[List.getElem?_set_self hi,e];rfl;rw[List.getElem?_set_ne<|Ne.symm q]
 refine{h.sh.off hb.2.1,λx hx=>?_,by rw[em];exact h.nd,λx c hx=>{(h.Jv x c hx).1,(ag<|gx hx hb.2.2).trans (h.Jv x c hx).2}};obtain⟨j,hj⟩:=yt hx;by_cases q:j=i;subst q;rw[List.getElem?_set_self hi]at hj;cases hj;exact⟨aa,hb.2⟩;rw[List.getElem?_set_ne<|Ne.symm q]at hj;have Lp:=h.fa x<|zx hj;refine{(ag λe2=>q ?_).trans Lp.1,Lp.2};have a1:(fs.map Prod.fst)[j]?=some x.1:=by rw[zg,hj];rfl
 have a2:(fs.map Prod.fst)[i]?=some b:=by rw[zg,e];rfl
 obtain⟨b1,c1⟩:=zd.mp a1;obtain⟨b2,c2⟩:=zd.mp a2;exact(List.getElem_inj h.nd (h₀:=b1) (h₁:=b2)).mp<|by rw[c1,c2];exact e2
theorem St.perm(h:St t S0 a fs F cs dl rs S)(p:Q1.Perm fs):St t S0 a Q1 F cs dl rs S:={h.sh,λx hx=>h.fa x<|p.mem_iff.mp hx,(p.map _).nodup_iff.mpr h.nd,h.Jv}
theorem St.less(h:St t S0 a fs F cs dl rs S)(n:(Q1.map Prod.fst).Nodup)(p:∀x∈Q1,x∈fs):St t S0 a Q1 F cs dl rs S:={h.sh,λx hx=>h.fa x<|p x hx,n,h.Jv}
theorem St.ZY(h:St t S0 a fs F cs dl rs S)(hS:cD t.ao S' a F' cs dl' cZ)(hK:CC F F' S S'):St t S0 a fs F' cs dl' cZ S':={hS,λx hx=>by obtain⟨h1,h2,h3⟩:=h.fa x hx;exact by obtain⟨k1,k2⟩:=hK _ _ h2 h1;exact⟨k2,k1,h3⟩,h.nd,λx c hx=>by obtain⟨h1,h2⟩:=h.Jv x c hx;exact hK _ _ h1 h2}
end
abbrev RH:=List<|Addr×List Row
noncomputable def Vp(x:Addr×List Row):Addr×Ce:=(x.1,.lst<|x.2.map ai)
theorem QF(hk:r.1∈KS)(hw:Wg cs r.2):Ly S 60 (ai r):=by refine(Ly.tup (n:=1) λx hx=>?_).le (by decide);simp only[zj,zM,or_false]at hx;rcases hx with rfl|rfl;exact(Ly.str (fH _ hk).2.2).le (by decide);exact hw.ly
theorem Vw.sub(h:Vw C S a cs m rows)(b:Sub S S'):Vw C S' a cs m rows:=by obtain⟨F,dl,rs,h1,h2⟩:=h.sh;exact{{F,dl,rs,h1.sub b,h2},h.mo.sub b,h.len,h.rg}
theorem pH(q:R (.bl<|if neg then !(x==y) else (x==y)) S):DJ neg (.bl x) (.bl y) S R:=⟨.bool x,.bool y,by simp only[Dl,Dp],by simp only[Dl,Dp],by simp only[PyData.canLay0],by simp only[PyData.canLay0],.inl<|by simp only[PyData.depth];lia,by
 have e:PyData.eqv (.bool x) (.bool y)=(x==y):=by cases x<;>cases y<;>rfl
 rw[e];exact q⟩
theorem NJ(q:R (.bl<|if neg then !decide (i=j) else decide (i=j)) S):DJ neg (.str i) (.str j) S R:=q
noncomputable def cV(w e:Str)(x y:D):Int:=if kj x y=true then 0 else if cE ("",w,e) x y=true then -1 else 1
def Cm(x y:D):Prop:=∃k,Vg k x/\Vg k y
theorem i5{w e:Str}(h:Cm x y):cV w e x y=0↔x=y:=by obtain⟨k,hx,hy⟩:=h;unfold cV;by_cases q:kj x y=true;rw[if_pos q];simpa using (aT hx.2 hy.2).mp q;rw[if_neg q];have q':¬x=y:=λz=>q<|(aT hx.2 hy.2).mpr z;constructor;intro z;split at z<;>cases z;exact λz=>absurd z q'
theorem pI{w e:Str}(h:Cm x y):cV w e x y<0↔x≠y/\cE ("",w,e) x y=true:=by obtain⟨k,hx,hy⟩:=h;unfold cV;by_cases q:kj x y=true;rw[if_pos q];have:=(aT hx.2 hy.2).mp q;simp[this];rw[if_neg q];have q':¬x=y:=λz=>q<|(aT hx.2 hy.2).mpr z;by_cases l:cE ("",w,e) x y=true;rw[if_pos l];simp[q',l];rw[if_neg l];simp[l]
theorem Mq{w e:Str}(h:Cm x y):cV w e y x<0↔0<cV w e x y:=by
 have h':Cm y x:=by obtain⟨k,a,b⟩:=h;exact⟨k,b,a⟩
 rw[pI h'];obtain⟨k,hx,hy⟩:=h;unfold cV;by_cases q:kj x y=true;rw[if_pos q];have:=(aT hx.2 hy.2).mp q;simp[this];rw[if_neg q];have q':¬x=y:=λz=>q<|(aT hx.2 hy.2).mpr z;have:=oB (p:=("",w,e)) hx hy q';rw[this];cases cE ("",w,e) x y<;>simp[Ne.symm q']
inductive cP (ds:List D) (S:aw) (R:KD) (Z:KX):Prop where
 |mk (x y wy e) (h0:ds=[x,y,.str e]) (h1:Cm x y) (h2:(x=.au\/y=.au)) (h3:R (.int<|cV wy e x y) S)
theorem ja(T:Txt w K mg t):Ok P w base T.du 1 cP:=by
 refine T.du.F.bS dQ ?_;rintro _ _ _ _ _ _ _ S R Z hr ⟨x,y,wy,e,e0,⟨k,hx,hy⟩,hn,q⟩;subst e0;refine{_,(sc (si (twd<|twand (bj eP hr.u (dv 0) dn)<|tw1<|bj eP hr.u (dv 1) dn) (s1<|sr di) s0)<|sc (cj (i:=3) dQ.nd<|cm aU hr.u (dv 2) ds)<|s1<|sr<|M4 (bj aU hr.u (dv 3)<|cm eP hr.u (dv 0) dn) (x6 di) di),?_};unfold cV at q;refine !!⟨bQ (λh=>!!⟨bQ (λh2=>?_) λh2=>?_⟩) λh=>?_⟩;rw[cY h,cY h2]at q;exact fo q;have e1:ah x≠ah y:=by rw[show ah x=true from h,show ah y=false from h2];decide
 rw[wX e1,if_neg ze]at q;unfold cE at q;rw[show ah x=true from h,show ah y=false from h2]at q;refine !!!⟨?_⟩;dsimp only[dC,Yn];refine pH !⟨?_⟩;have q:R (.int<|if (ah x==decide (e ="first"))=true then -1 else 1) S:=by rw[show ah x=true from h];exact q
 rw[Bool.beq_comm]at q;refine bQ (λz=>?_) λz=>?_;rw[if_pos<|show(decide (e ="first")==ah x)=true from z]at q;exact{_,rfl,fo q};rw[if_neg λz2=>tf z2<|show(decide (e ="first")==ah x)=false from z]at q;exact fo q;have hy1:ah y=true:=by rcases hn with rfl|rfl;cases h;rfl
 have e1:ah x≠ah y:=by rw[show ah x=false from h,hy1];decide
 rw[wX e1,if_neg ze]at q;unfold cE at q;rw[show ah x=false from h,hy1]at q;refine !!!⟨?_⟩;dsimp only[dC,Yn];refine pH !⟨?_⟩;have q:R (.int<|if (ah x==decide (e ="first"))=true then -1 else 1) S:=by rw[show ah x=false from h];exact q
 rw[Bool.beq_comm]at q;refine bQ (λz=>?_) λz=>?_;rw[if_pos<|show(decide (e ="first")==ah x)=true from z]at q;exact{_,rfl,fo q};rw[if_neg λz2=>tf z2<|show(decide (e ="first")==ah x)=false from z]at q;exact fo q
inductive sP (ds:List D) (S:aw) (R:KD) (Z:KX):Prop where
 |mk (x y wy e) (h0:ds=[x,y,.str wy,.str e]) (h1:Cm x y) (h2:R (.int<|cV wy e x y) S)
theorem pJ(T:Txt w K mg t):Ok P w base T.compared 2 sP:=by refine T.compared.F.bS o_ ?_;rintro _ _ _ _ _ _ _ S R Z hr ⟨x,y,wy,e,e0,hc,q⟩;subst e0;obtain⟨k,hx,hy⟩:=id hc;refine{_,(sc (si (twd<|twor (bj eP hr.u (dv 0) dn)<|tw1<|bj eP hr.u (dv 1) dn) (s1<|sr<|aL T.du (ja T) hr<|al 0<|al 1<|al 3 an) s0)<|sc (si (bj aU hr.u (dv 0)<|dv 1) (s1<|sr di) s0)<|sc (cj (i:=4) o_.nd<|cm pW hr.u (dv 0)<|dv 1)<|s1<|sr<|M4 (bj aU hr.u (dv 4)<|cm aU hr.u (dv 2) ds) (x6 di) di),?_};have none:∀Zq:KX,x=.au\/y=.au->cP [x,y,.str e] S (λd S'=>Fo S'<|R d) Zq:=λ_ hn=>{x,y,wy,e,rfl,hc,hn,fo q};refine !!⟨bQ (λh=>?_) λh=>!!⟨bQ (λh2=>?_) λh2=>?_⟩⟩;exact !!!⟨none _<|.inl<|cY h⟩;exact !!!⟨none _<|.inr<|cY h2⟩;clear none;have nx:ah x=false:=h;have ny:ah y=false:=h2;unfold cV at q;refine !!⟨mW hx.2 hy.2 !⟨bQ (λh3=>?_) λh3=>?_⟩⟩;have h3:kj x y=true:=h3;rw[if_pos h3]at q;exact fo q;have h3:kj x y=false:=h3;rw[h3,if_neg ze]at q;unfold cE at q;rw[nx,ny]at q;have q:R (.int<|if (uf x y==decide (wy ="up"))=true then -1 else 1) S:=q;rcases lN hx hy (aY nx) (aY ny) with⟨i,j,rfl,rfl⟩|⟨i,j,rfl,rfl⟩;refine !!!!⟨?_⟩;dsimp only[dC];refine NJ ?_;refine pH ?_;refine{_,rfl,?_};refine bQ (λz=>?_) λz=>?_;rw[if_pos<|show(uf (.int i) (.int j)==decide (wy ="up"))=true from z]at q;exact{_,rfl,fo q};rw[if_neg λz2=>tf z2<|show(uf (.int i) (.int j)==decide (wy ="up"))=false from z]at q;exact fo q;refine !!!!⟨?_⟩;dsimp only[dC];refine NJ ?_;refine pH ?_;refine{_,rfl,?_};refine bQ (λz=>?_) λz=>?_;rw[if_pos<|show(uf (.str i) (.str j)==decide (wy ="up"))=true from z]at q;exact{_,rfl,fo q};rw[if_neg λz2=>tf z2<|show(uf (.str i) (.str j)==decide (wy ="up"))=false from z]at q;exact fo q
noncomputable def h_(ps:List Part)(wy:Str):List (Str×Str):=ps.map Prod.snd++[(wy,("last": Str))]
noncomputable def bw:List (Str×Str)->List D->List D->Int|w::ws,x::xs,y::ys=>(if cV w.1 w.2 x y=0 then bw ws xs ys else cV w.1 w.2 x y)|_,_,_=>0
def PV(ks:List Str)(xs:List D):Prop:=Paired (λk x=>Vg k x) ks xs
theorem jV:∀{ws:List (Str×Str)}{ks:List Str}{xs ys:List D},ws.length=ks.length->PV ks xs->PV ks ys->(bw ws xs ys=0↔xs=ys)|[],_,_,_,h,.nil,.nil=>by simp[bw]|w::ws,_,_,_,h,.cons (b:=x) a1 a2,.cons (b:=y) b1 b2=>by unfold bw;have c:=i5 (w:=w.1) (e:=w.2) {_,a1,b1};by_cases q:cV w.1 w.2 x y=0;rw[if_pos q,jV (Nat.succ.inj h) a2 b2,c.mp q];simp;rw[if_neg q];exact{λz=>absurd z q,λz=>absurd (c.mpr (List.cons.inj z).1) q}
theorem sQ:∀{ws:List (Str×Str)}{ks:List Str}{xs ys:List D},PV ks xs->PV ks ys->(bw ws ys xs<0↔0<bw ws xs ys)|[],_,_,_,_,_=>by simp[bw]|w::ws,_,_,_,.nil,.nil=>by simp[bw]|w::ws,_,_,_,.cons (b:=x) a1 a2,.cons (b:=y) b1 b2=>by unfold bw;have c:=i5 (w:=w.1) (e:=w.2) {_,a1,b1};have c':=i5 (w:=w.1) (e:=w.2) {_,b1,a1};by_cases q:x=y;rw[if_pos<|c.mpr q,if_pos<|c'.mpr q.symm];exact sQ a2 b2;rw[if_neg λz=>q<|c.mp z,if_neg λz=>q (c'.mp z).symm];exact Mq {_,a1,b1}
theorem CU:∀{ws:List (Str×Str)}{ks:List Str}{xs ys zs:List D},PV ks xs->PV ks ys->PV ks zs->bw ws xs ys<0->bw ws ys zs<0->bw ws xs zs<0|[],_,_,_,_,_,_,_,h,_=>by simp[bw]at h|w::ws,_,_,_,_,.nil,.nil,.nil,h,_=>by simp[bw]at h|w::ws,_,_,_,_,.cons (b:=x) a1 a2,.cons (b:=y) b1 b2,.cons (b:=z) c1 c2,h1,h2=>by unfold bw at h1 h2⊢;have e1:=i5 (w:=w.1) (e:=w.2) {_,a1,b1};have e2:=i5 (w:=w.1) (e:=w.2) {_,b1,c1};have e3:=i5 (w:=w.1) (e:=w.2) {_,a1,c1};by_cases q1:x=y;subst q1;rw[if_pos<|e1.mpr rfl]at h1;by_cases q2:x=z;subst q2;rw[if_pos<|e2.mpr rfl]at h2⊢;exact CU a2 b2 c2 h1 h2;rw[if_neg λz=>q2<|e2.mp z]at h2⊢;exact h2;rw[if_neg λz=>q1<|e1.mp z]at h1;by_cases q2:y=z;subst q2;rw[if_neg λz=>q1<|e3.mp z];exact h1;rw[if_neg λz=>q2<|e2.mp z]at h2;obtain⟨q3,l3⟩:=Ej (p:=("",w.1,w.2)) a1 b1 c1 q1 q2 ((pI {_,a1,b1}).mp h1).2 ((pI {_,b1,c1}).mp h2).2;rw[if_neg λz=>q3<|e3.mp z];exact(pI {_,a1,c1}).mpr ⟨q3,l3⟩
noncomputable def Gx(cs:List<|Str×Str)(z:Str):Str:=((cs[IY cs z]?).map Prod.snd).getD "word"
noncomputable def Vq(cs:List<|Str×Str)(ps:List Part):List Str:=ps.map (λp=>Gx cs p.1)++[("word": Str)]
noncomputable def ic(cs:List<|Str×Str)(ps:List Part)(r:Row):List D:=ps.map (λp=>aj cs r.2 p.1)++[.str r.1]
theorem kY:∀z∈KS,Vg "word" (.str z):=by
 have h:∀z∈KS,(pf z&&bh (.str z))=true:=by trivial
 exact λz hz=>let q:=Bool.and_eq_true_iff.mp<|h z hz;⟨q.1,q.2⟩
theorem lP:∀{l:List α}{m:List β}{l':List α}{m':List β},Paired r l m->Paired r l' m'->Paired r (l++l') (m++m')|_,_,_,_,.nil,h=>h|_,_,_,_,.cons a t,h=>.cons a<|lP t h
theorem oI(hg:Gd cs)(hp:Pin cs ps)(hw:Wg cs ws):Paired (λk x=>Vg k x) (ps.map λp=>Gx cs p.1) (ps.map λp=>aj cs ws p.1):=by induction ps with|nil=>exact .nil|cons p ps ih=>refine .cons ?_<|ih hp.tail;obtain⟨c,hc,e⟩:=hp p zp;show Vg (Gx cs p.1) (aj cs ws p.1);unfold Gx;rw[<-e,(oA hg hc).1];exact(kh hg hw hc).2
theorem iL(hg:Gd cs)(hp:Pin cs ps)(hw:Wg cs r.2)(hk:r.1∈KS):PV (Vq cs ps) (ic cs ps r):=lP (oI hg hp hw)<|.cons (kY _ hk) .nil
theorem Et(hg:Gd cs){wy:Str}(ha:Wg cs a.2)(hb:Wg cs b.2)(ka:a.1∈KS)(kb:b.1∈KS)(n:a.1≠b.1):∀{ps:List Part},Pin cs ps->(bH cs wy ps a b=true↔bw (h_ ps wy) (ic cs ps a) (ic cs ps b)<0)|[],_=>(by show(nJ a.1 b.1==decide (wy ="up"))=true↔(if cV wy "last" (.str a.1) (.str b.1)=0 then 0 else cV wy "last" (.str a.1) (.str b.1))<0;have n':(.str a.1:D)≠.str b.1:=λe=>n<|D.str.inj e;rw[if_neg λz=>n'<|(i5 {_,kY _ ka,kY _ kb}).mp z,pI {_,kY _ ka,kY _ kb}];exact{λh=>⟨n',h⟩,λh=>h.2})|p::ps,hp=>by obtain⟨k,hk⟩:=qH hg hp;have va:=hk _ ha;have vb:=hk _ hb;show(if kj (aj cs a.2 p.1) (aj cs b.2 p.1)=true then bH cs wy ps a b else cE p (aj cs a.2 p.1) (aj cs b.2 p.1))=true↔(if cV p.2.1 p.2.2 (aj cs a.2 p.1) (aj cs b.2 p.1)=0 then bw (h_ ps wy) (ic cs ps a) (ic cs ps b) else cV p.2.1 p.2.2 (aj cs a.2 p.1) (aj cs b.2 p.1))<0;by_cases q:aj cs a.2 p.1=aj cs b.2 p.1;rw[if_pos<|(aT va.2 vb.2).mpr q,if_pos<|(i5 {_,va,vb}).mpr q];exact Et hg ha hb ka kb n hp.tail;rw[if_neg λz=>q<|(aT va.2 vb.2).mp z,if_neg λz=>q<|(i5 {_,va,vb}).mp z,pI {_,va,vb}];exact{λh=>⟨q,h⟩,λh=>h.2}
noncomputable def Vr(ws:List<|Str×Str)(g:List D)(sd:Str)(x:List D):Bool:=decide (bw ws x g<0)||(decide (bw ws x g=0)&&decide (sd ="behind"))
theorem Vs{ws:List<|Str×Str}{ks:List Str}{g x y:List D}{sd:Str}(hl:ws.length=ks.length)(hx:PV ks x)(hy:PV ks y)(hg:PV ks g)(h:bw ws x y<0)(q:Vr ws g sd y=true):Vr ws g sd x=true:=by unfold Vr at q⊢;simp only[Bool.or_eq_true,zI,zR]at q⊢;rcases q with q|⟨q,_⟩;exact .inl<|CU hx hy hg h q;rw[<-(jV hl hy hg).mp q];exact .inl h
theorem sR:∀{l:List α},(l.Pairwise λa b=>g b=true->g a=true)->∀{i:Nat}{a:α},l[i]?=some a->(g a=true↔i<l.countP g)
 |[],_,i,a,h=>by simp at h
 |x::l,hp,i,a,h=>by
  obtain⟨h1,h2⟩:=List.pairwise_cons.mp hp;rw[List.countP_cons];by_cases q:g x=true;rw[if_pos q];cases i with|zero=>(cases h;simp[q])|succ i=>rw[sR h2<|show l[i]?=some a from h];lia
  have z:l.countP g=0:=List.countP_eq_zero.mpr λb hb e=>q<|h1 b hb e;rw[if_neg q,z];have:g a≠true:=by cases i with|zero=>(cases h;exact q)|succ i=>exact λe=>q<|h1 a (zx h) e
  simp[this]
theorem wZ{α:Type}{g:α->Bool}{l:List α}(hp:l.Pairwise λa b=>g b=true->g a=true){n:Nat}(hn:n<=l.length)(h1:∀i a,i<n->l[i]?=some a->g a=true)(h2:∀i a,n<=i->l[i]?=some a->g a=false):n=l.countP g:=by
 have hc:l.countP g<=l.length:=List.countP_le_length;rcases Nat.lt_trichotomy n (l.countP g) with h|h|h;have hi:n<l.length:=by lia
 have e:=zf hi;have:=(sR hp e).mpr h;rw[h2 n _ (zq _) e]at this;cases this;exact h;have hi:l.countP g<l.length:=by lia
 have e:=zf hi;have:=(sR hp e).mp<|h1 _ _ h e;lia
noncomputable def jW(xs:List D)(k:Str):D:=.tup [.tup xs,.str k]
abbrev tD:=List D×Str×Str
noncomputable def oJ(g:tD):D:=.tup [jW g.1 g.2.1,.str g.2.2]
noncomputable def tE:Option tD->D|none=>.au|some g=>oJ g
noncomputable def AS(z:Str):Bool:=decide (z ="ahead")||decide (z ="behind")
structure Gp(cs:List (Str×Str))(ps:List Part)(g:tD):Prop where
 pv:Paired (λk x=>Vg k x) (ps.map λp=>Gx cs p.1) g.1
 key:g.2.1∈KS
 side:AS g.2.2=true
def Bg(cs:List<|Str×Str)(ps:List Part)(b:Option tD):Prop:=∀g,b=some g->Gp cs ps g
noncomputable def sS(g:tD):List D:=g.1++[.str g.2.1]
theorem Gp.vs(h:Gp cs ps g):PV (Vq cs ps) (sS g):=lP h.pv<|.cons (kY _ h.key) .nil
theorem Gp.len(h:Gp cs ps g):g.1.length=ps.length:=by have:=yN h.pv;rw[zb]at this;exact this.symm
theorem Og.len(h:Og cs ps wy):ps.length<=8:=by have:=h.ok;unfold CI at this;simp only[zI,zR]at this;exact this.1
theorem CV(hg:Gd cs)(hc:c∈cs):c.1.cps.size<=1000:=by have h:=(hg.2.2 c hc).1;unfold kT at h;simp only[zI,zR]at h;lia
inductive u9 (ds:List D) (S:aw) (R:KD) (Z:KX):Prop where
 |mk (z) (h0:ds=[.str z]) (h1:R (.bl<|AS z) S)
theorem CW(T:Txt w K mg t):Ok P w base T.wb 1 u9:=by refine T.wb.F.bS Cs ?_;obtain⟨z,e,q⟩;refine{_,(s1<|sr<|pV (cb cH T.av aq<|al 0<|ac (qx T.oZ jl) an)<|Fm<|YO T.v7 (dv 0)<|dg (v:=.ref t.ir) T.tV rfl λ_=>ij _),?_};refine !{_,_,_,_,rfl,cQ,rfl,_,rfl,dD !{z,rfl,rfl,?_}};rw[IV];exact fo q
inductive fK (ds:List D) (S:aw) (R:KD) (Z:KX):Prop where
 |mk (cs ps xs) (h0:ds=[.tup<|cs.map ay,.tup<|ps.map p3,.tup xs]) (h1:Gd cs) (h2:Pin cs ps) (h3:ps.length<=8) (h4:Paired (λk x=>Vg k x) (ps.map λp=>Gx cs p.1) xs) (h5:R (.bl true) S)
theorem kL(T:Txt w K mg t):Ok P w base T.dX 4 fK:=by
 refine T.dX.F.bS kG ?_;obtain⟨cs,ps,xs,e,hg,hp,h8,hv,q⟩;have hl:xs.length=ps.length:=by have:=yN hv;rw[zb]at this;exact this.symm
 have RF:(ps.map p3).length=ps.length:=zb _;refine{_,(sc (si (twd<|twor (cy<|tv<|cb cH T.av aq<|al 2<|ac (qx T.bu aW) an)<|tw1<|bj gH hr.u (cb ba T.aX aF<|al 2 an)<|cb ba T.aX aF<|al 1 an) (s1<|sr db) s0)<|s1<|sr<|cb jq T.jz fh<|ac (tQ (N:=["part","value","columns"]) (src:=[none,none,some 0]) (jb (ae lA) ["columns","parts","thing"] rfl rfl<|by trivial) (izn T.IB<|al 1<|al 2 an) (Rn<|show(["part","value","columns"]:List Str).Nodup by trivial) (j0 rfl rfl) j7 (λ_ _ _ _ _=>nR) λ_ _ _ _ _=>(aL T.jB (jK T) hr<|ac (aL T.dW (gC T) hr<|al 2<|ac (ix hr.u (dv 0) di) an)<|al 1 an)) an),?_};refine !{_,_,_,_,rfl,aV,rfl,_,rfl,a_ !!!!!⟨bx (by rw[hl,RF];simp) ?_⟩};refine !!{_,_,rfl,by rw[hl,RF],?_};refine comp_map (λ_=>.bl true) trivial (by show(cG _ _).length<=_;unfold cG;rw[List.length_zipWith];lia) (λd hd Q hQ=>?_) λp kJ=>?_;have hd:d∈cG (ps.map p3) xs:=hd;unfold cG at hd;obtain⟨i,ei⟩:=yt hd;obtain⟨x,y,e2,e3,e4⟩:=List.getElem?_zipWith_eq_some.mp ei;subst e4;rw[zg]at e2;cases e5:ps[i]? with|none=>(rw[e5]at e2;cases e2)|some pt=>rw[e5]at e2;cases e2;obtain⟨c,hc,ec⟩:=hp pt<|zx e5;obtain⟨k,ek,hk⟩:=bO hv e3;rw[zg,e5]at ek;cases ek;have hk:Vg (Gx cs pt.1) y:=hk;unfold Gx at hk;rw[<-ec,(oA hg hc).1]at hk;have hk:Vg c.2 y:=hk;refine !{rfl,_,_,rfl,_,_,rfl,rfl,_,rfl,_,rfl,_,rfl,cs,pt.1,rfl,hg,by rw[<-ec];exact CV hg hc,λk' Hr=>?_,λhn=>absurd (zi.mpr ⟨c,hc,ec⟩) hn};have e6:k'=c.2:=(by have:=gm (f:=Prod.fst) hg.2.1 Hr hc ec.symm;rw[<-this]);rw[e6];refine !{c.2,y,rfl,Ee hk,?_};rw[hk.1];exact hQ
 have e2:(cG (ps.map p3) xs).map (λ_=>D.bl true)=((cG (ps.map p3) xs).map λ_=>true).map D.bl:=by rw[zy];rfl
 have e3:((cG (ps.map p3) xs).map λ_=>true).all id=true:=by rw[all_map];exact yb.mpr λ_ _=>rfl
 refine{.ref p,(cG (ps.map p3) xs).map λ_=>true,rfl,?_,?_};show(S.set p<|.lst<|(cG (ps.map p3) xs).map _) p=_;rw[aa,e2];rw[e3];exact{S,.new kJ,q}
inductive kZ (ds:List D) (S:aw) (R:KD) (Z:KX):Prop where
 |mk (cs ps wy xs k) (h0:ds=[.tup<|cs.map ay,bU ps wy,jW xs k]) (h1:Gd cs) (h2:Pin cs ps) (h3:ps.length<=8) (h4:Paired (λk x=>Vg k x) (ps.map λp=>Gx cs p.1) xs) (h5:k∈KS) (h6:R .au S)
theorem sT(T:Txt w K mg t):Ok P w base T.jC 5 kZ:=by refine T.jC.F.bS rX ?_;obtain⟨cs,ps,wy,xs,k,e,hg,hp,h8,hv,hk,q⟩;refine{_,(sc (si (twd<|twor (cy<|tv<|cb cH T.av aq<|al 2<|ac (qx T.bu aW) an)<|tw1<|bj gH hr.u (cb ba T.aX aF<|al 2 an) di) (s1<|rC ⟨T.dr⟩ T.eI<|ac ds an) s0)<|sc (si (cy<|tv<|aL T.dX (kL T) hr<|al 0<|ac (ix hr.u (dv 1) di)<|ac (ix hr.u (dv 2) di) an) (s1<|rC ⟨T.dr⟩ T.eI<|ac ds an) s0)<|s1<|si (cy<|tv<|aL T.lI (gY T) hr<|ac (ix hr.u (dv 2) di) an) (s1<|rC ⟨T.dr⟩ T.eI<|ac ds an) s0),?_};refine !{_,_,_,_,rfl,aV,rfl,_,rfl,a_ !!!⟨a_ ?_⟩};refine !!!!!{cs,ps,xs,rfl,hg,hp,h8,hv,_,rfl,a_ ?_};refine !!{.str k,rfl,Es hk,_,rfl,?_};rw[show ofStr kI (.str k)=true from(fH k hk).1];exact a_<|fo q
inductive pK (ds:List D) (S:aw) (R:KD) (Z:KX):Prop where
 |mk (cs ps wy g) (h0:ds=[.tup<|cs.map ay,bU ps wy,oJ g]) (h1:Gd cs) (h2:Pin cs ps) (h3:ps.length<=8) (h4:Gp cs ps g) (h5:R .au S)
theorem w4(T:Txt w K mg t):Ok P w base T.oh 6 pK:=by refine T.oh.F.bS wB ?_;obtain⟨cs,ps,wy,g,e,hg,hp,h8,hv,q⟩;refine{_,(sc (si (twd<|twor (cy<|tv<|cb cH T.av aq<|al 2<|ac (qx T.bu aW) an)<|tw1<|bj gH hr.u (cb ba T.aX aF<|al 2 an) di) (s1<|rC ⟨T.dr⟩ T.eI<|ac ds an) s0)<|sc (se<|aL T.jC (sT T) hr<|al 0<|al 1<|ac (ix hr.u (dv 2) di) an)<|s1<|si (cy<|tv<|aL T.wb (CW T) hr<|ac (ix hr.u (dv 2) di) an) (s1<|rC ⟨T.dr⟩ T.eI<|ac ds an) s0),?_};refine !{_,_,_,_,rfl,aV,rfl,_,rfl,a_ !!!⟨a_ ?_⟩};refine !!!!{cs,ps,wy,g.1,g.2.1,rfl,hg,hp,h8,hv.pv,hv.key,?_};refine !!{g.2.2,rfl,_,rfl,?_};rw[hv.side];exact a_<|fo q
inductive k7 (ds:List D) (S:aw) (R:KD) (Z:KX):Prop where
 |mk (cs ps wy b) (h0:ds=[.tup<|cs.map ay,bU ps wy,tE b]) (h1:Gd cs) (h2:Pin cs ps) (h3:ps.length<=8) (h4:Bg cs ps b) (h5:R .au S)
theorem fL(T:Txt w K mg t):Ok P w base T.eJ 7 k7:=by refine T.eJ.F.bS rY ?_;obtain⟨cs,ps,wy,b,e,hg,hp,h8,hv,q⟩;refine{_,(s1<|si (bj nN hr.u (dv 2) dn) (s1<|se<|aL T.oh (w4 T) hr<|al 0<|al 1<|al 2 an) s0),?_};cases b with|none=>exact (!!⟨a_<|fo q⟩)|some g=>exact !!⟨dD !!!{cs,ps,wy,g,rfl,hg,hp,h8,hv g rfl,fo q}⟩
inductive m8 (ds:List D) (S:aw) (R:KD) (Z:KX):Prop where
 |mk (n:Int) (h0:ds=[.int n]) (h1:1<=n) (h2:n<=1000) (h3:R .au S)
theorem uh(T:Txt w K mg t):Ok P w base T.lM 2 m8:=by refine T.lM.F.bS t5 ?_;obtain⟨n,e,h1,h2,q⟩;refine{_,(s1<|si (twd<|twor (cy<|tv<|aL T.jA (jJ T) hr<|al 0 an)<|tw1<|cy<|V6 jn jn hr.u di (dv 0)<|dg (v:=.int 1000) T.vY {_,rfl} λ_=>aO _) (s1<|rC ⟨T.n_⟩ T.Ci<|ac ds an) s0),?_};refine !{.int n,rfl,gt_int,_,rfl,a_ !!⟨iH (zu h1) !⟨?_⟩⟩};exact bx (by show(!decide (n<=1000))=false;rw[zu h2];rfl)<|fo q
inductive m9 (ds:List D) (S:aw) (R:KD) (Z:KX):Prop where
 |mk (cs ps wy d n b) (h0:ds=[.tup<|cs.map ay,bU ps wy,d,.int n,tE b]) (h1:Gd cs) (h2:Og cs ps wy) (h3:Sq cs d) (h4:1<=n) (h5:n<=1000) (h6:Bg cs ps b) (h7:R .au S)
theorem k8(T:Txt w K mg t):Ok P w base T.iA 8 m9:=by refine T.iA.F.bS tZ ?_;obtain⟨cs,ps,wy,d,n,b,e,hg,ho,hd,h1,h2,hv,q⟩;refine{_,(sc (se<|aL T.fZ (jS T) hr<|al 0<|al 1 an)<|sc (se<|aL T.f_ (jT T) hr<|al 0<|al 2 an)<|sc (se<|aL T.lM (uh T) hr<|al 3 an)<|s1<|se<|aL T.eJ (fL T) hr<|al 0<|al 1<|al 4 an),?_};refine !!{cs,ps,wy,rfl,hg,ho.tx,λ_=>?_,λz=>tf ho.ok z};refine !!{cs,d,rfl,hg,hd,_,rfl,n,rfl,h1,h2,?_};exact !!!{cs,ps,wy,b,rfl,hg,ho.pin,ho.len,hv,fo q}
structure An(cs:List (Str×Str))(ps:List Part)(wy:Str)(A:List Row):Prop where
 rg:Rg cs A
 ky:∀r∈A,r.1∈KS
 pw:A.Pairwise λa b=>bH cs wy ps a b=true
noncomputable def gP(cs:List<|Str×Str)(ps:List Part)(wy:Str)(g:tD)(r:Row):Bool:=Vr (h_ ps wy) (sS g) g.2.2<|ic cs ps r
theorem qI:(h_ ps wy).length=(Vq cs ps).length:=by unfold h_ Vq;simp
theorem An.lex(hg:Gd cs)(hp:Pin cs ps)(h:An cs ps wy A):A.Pairwise λa b=>bw (h_ ps wy) (ic cs ps a) (ic cs ps b)<0:=by have nd:A.Pairwise λa b=>a.1≠b.1:=List.pairwise_map.mp h.rg.2;refine(h.pw.and nd).imp_of_mem λ{a b} ha hb q=>?_;exact(Et hg (h.rg.1 a ha) (h.rg.1 b hb) (h.ky a ha) (h.ky b hb) q.2 hp).mp q.1
theorem An.mono(hg:Gd cs)(hp:Pin cs ps)(h:An cs ps wy A)(hv:Gp cs ps g):A.Pairwise λa b=>gP cs ps wy g b=true->gP cs ps wy g a=true:=by refine(h.lex hg hp).imp_of_mem λ{a b} ha hb q=>?_;exact Vs qI (iL hg hp (h.rg.1 a ha)<|h.ky a ha) (iL hg hp (h.rg.1 b hb)<|h.ky b hb) hv.vs q
inductive sU (ds:List D) (S:aw) (R:KD) (Z:KX):Prop where
 |mk (cs ps wy r) (h0:ds=[.tup<|cs.map ay,bU ps wy,ai r]) (h1:Gd cs) (h2:Pin cs ps) (h3:ps.length<=8) (h4:Wg cs r.2) (h5:R (jW (ps.map λp=>aj cs r.2 p.1) r.1) S)
theorem jX(T:Txt w K mg t):Ok P w base T.jD 3 sU:=by
 refine T.jD.F.bS pb ?_;obtain⟨cs,ps,wy,r,e,hg,hp,h8,hw,q⟩;refine{_,(sc (HQ (i:=3) (N:=["part","columns","row"]) (src:=[none,some 0,some 2]) pb.nd (jb (ae Cb) ["columns","order","row","values"] rfl rfl<|by trivial) (GP<|ix hr.u (dv 1) di) (oX<|show(["part","columns","row"]:List Str).Nodup by trivial) (aR rfl) aS (λ_ _ _ _ _=>nR) λ_ _ _ _ _=>(aL T.cC (dA T) hr<|al 1<|al 2<|ac (ix hr.u (dv 0) di) an))<|s1<|sr<|bY<|ac (ct fU T.bu aW<|al 3 an)<|ac (ix hr.u (dv 2) di) an),?_};refine !!{_,.inl rfl,?_};refine comp_map (λd=>match d with|.tup (.str z::_)=>aj cs r.2 z|_=>.au) trivial (by show(ps.map p3).length<=_;rw[zb];lia) (λd hd Q hQ=>?_) λp kJ=>?_;obtain⟨pt,ZZ,rfl⟩:=zi.mp hd;obtain⟨c,hc,ec⟩:=hp pt ZZ;refine !!!!{cs,r,c,(by rw[ec];rfl),hg,hw,hc,?_};rw[ec];exact hQ;have e3:(ps.map p3).map (λd=>match d with|.tup (.str z::_)=>aj cs r.2 z|_=>.au)=ps.map λp=>aj cs r.2 p.1:=by rw[zy];rfl
 rw[show({ps.map p3,λ_=>True}:nQ).xs=ps.map p3 from rfl,e3];exact !{_,_,rfl,.inl aa,_,rfl,_,rfl,cu,S,.new kJ,q}
inductive gq (ds:List D) (S:aw) (R:KD) (Z:KX):Prop where
 |mk (ps:List Part) (wy:Str) (xs:List D) (k:Str) (ys:List D) (l:Str) (ks:List Str) (h0:ds=[bU ps wy,jW xs k,jW ys l]) (h1:ps.length=xs.length) (h2:ps.length=ys.length) (h3:Paired (λk x=>Vg k x) ks xs) (h4:Paired (λk x=>Vg k x) ks ys) (h5:k∈KS) (h6:l∈KS) (h7:R (.int<|bw (h_ ps wy) (xs++[.str k])<|ys++[.str l]) S)
theorem lQ(T:Txt w K mg t):Ok P w base T.eQ 3 gq:=by refine T.eQ.F.bS bD ?_;obtain⟨ps,wy,xs,k,ys,l,ks,e,h1,h2,vx,vy,hk,hl,q⟩;refine{_,(sc (vQ<|DM (Zt T.IB<|ac (ix hr.u (dv 0) di)<|ac (ix hr.u (dv 1) di)<|ac (ix hr.u (dv 2) di) an) (gt (n:=3)<|gc (gn (i:=3) bD.nd)<|gc (gn (i:=4) bD.nd)<|gc (gn (i:=5) bD.nd) g0)<|sc (cj (i:=6) bD.nd<|aL T.compared (pJ T) hr<|al 4<|al 5<|ac (ix hr.u (dv 3) di)<|ac (ix hr.u (dv 3) di) an)<|s1<|si (bj gH hr.u (dv 6) di) (s1<|sr<|dv 6) s0)<|s1<|sr<|aL T.compared (pJ T) hr<|ac (ix hr.u (dv 1) di)<|ac (ix hr.u (dv 2) di)<|ac (ix hr.u (dv 0) di)<|ac ds an),?_};refine{λaB S'=>∃(o3 o4 o5 o6:Option D),aB=[some<|bU ps wy,some<|jW xs k,some<|jW ys l,o3,o4,o5,o6]/\S'=S/\bw (h_ ps wy) (xs++[.str k]) (ys++[.str l])=cV wy "last" (.str k) (.str l),?_,?_};{refine !!!!!!{_,_,_,rfl,by rw[zb];exact h1,by rw[zb];exact h2,?_};refine{λi aB S'=>∃(o3 o4 o5 o6:Option D),aB=[some<|bU ps wy,some<|jW xs k,some<|jW ys l,o3,o4,o5,o6]/\S'=S/\bw (h_ ps wy) (xs++[.str k]) (ys++[.str l])=bw (h_ (ps.drop i) wy) (xs.drop i++[.str k]) (ys.drop i++[.str l]),{_,_,_,_,rfl,rfl,rfl},λ_ _ _ _=>trivial,?_,?_};rintro i d aB S' hd ⟨o3,o4,o5,o6,rfl,rfl,he⟩;obtain⟨x,y,z,e1,e2,e3,rfl⟩:=nX hd;rw[zg]at e1;(cases e5:ps[i]? with|none=>(rw[e5]at e1;cases e1)|some p=>rw[e5]at e1;cases e1;obtain⟨i1,g1⟩:=zd.mp e5;obtain⟨i2,g2⟩:=zd.mp e2;obtain⟨i3,g3⟩:=zd.mp e3;rw[yi i1,yi i2,yi i3,g1,g2,g3]at he;have he:_=if cV p.2.1 p.2.2 y z=0 then bw (h_ (ps.drop<|i+1) wy) (xs.drop (i+1)++[.str k]) (ys.drop (i+1)++[.str l]) else cV p.2.1 p.2.2 y z:=he;obtain⟨k1,q1,v1⟩:=bO vx e2;obtain⟨k2,q2,v2⟩:=bO vy e3;cases q1.symm.trans q2;refine !{rfl,_,_,rfl,_,_,rfl,_,_,rfl,rfl,?_};refine !!!!!!{y,z,p.2.1,p.2.2,rfl,⟨k1,v1,v2⟩,_,rfl,_,rfl,bQ (λh=>?_) λh=>?_};have h:(!decide (cV p.2.1 p.2.2 y z=0))=true:=h;rw[if_neg<|zZ<|nt h]at he;rw[he]at q;exact{_,rfl,fo q};have h:(!decide (cV p.2.1 p.2.2 y z=0))=false:=h;rw[if_pos<|zC<|nf h]at he;exact{_,_,_,_,rfl,rfl,he});{rintro aB S' ⟨o3,o4,o5,o6,rfl,rfl,he⟩;have he:_=bw (h_ (ps.drop (js (ps.map p3) xs ys).length) wy) (xs.drop (js (ps.map p3) xs ys).length++[.str k]) (ys.drop (js (ps.map p3) xs ys).length++[.str l]):=he;rw[nW (by rw[zb];exact h1)<|by rw[zb];exact h2,zb,List.drop_length,h1,List.drop_length,<-h1,h2,List.drop_length]at he;refine fo {o3,o4,o5,o6,rfl,rfl,he.trans ?_};show(if cV wy "last" (.str k) (.str l)=0 then 0 else cV wy "last" (.str k) (.str l))=_;split;{next h=>exact h.symm};rfl}};rintro aB S' ⟨o3,o4,o5,o6,rfl,rfl,he⟩;rw[he]at q;exact !!!!!!{_,_,_,_,rfl,{_,kY k hk,kY l hl},fo q}
inductive sV (ds:List D) (S:aw) (R:KD) (Z:KX):Prop where
 |mk (cs ps wy r g) (h0:ds=[bU ps wy,jW (ps.map λp=>aj cs r.2 p.1) r.1,oJ g]) (h1:Gd cs) (h2:Pin cs ps) (h3:Wg cs r.2) (h4:r.1∈KS) (h5:Gp cs ps g) (h6:R (.bl<|gP cs ps wy g r) S)
theorem AU(T:Txt w K mg t):Ok P w base T.rT 4 sV:=by refine T.rT.F.bS pe ?_;obtain⟨cs,ps,wy,r,g,e,hg,hp,hw,hk,hv,q⟩;refine{_,(sc (cj (i:=3) pe.nd<|aL T.eQ (lQ T) hr<|al 0<|al 1<|ac (ix hr.u (dv 2) di) an)<|sc (si (bj aU hr.u (dv 3) di) (s1<|sr<|cm aU hr.u (ix hr.u (dv 2) di) ds) s0)<|s1<|sr<|cm pW hr.u (dv 3) di),?_};refine !!!!{ps,wy,_,r.1,g.1,g.2.1,_,rfl,by rw[zb],hv.len.symm,oI hg hp hw,hv.pv,hk,hv.key,_,rfl,_,rfl,?_};unfold gP Vr at q;change R (.bl<|decide (bw (h_ ps wy) ((ps.map λp=>aj cs r.2 p.1)++[.str r.1]) (g.1++[.str g.2.1])<0)||decide (bw (h_ ps wy) ((ps.map λp=>aj cs r.2 p.1)++[.str r.1]) (g.1++[.str g.2.1])=0)&&decide (g.2.2 ="behind")) S at q;generalize bw (h_ ps wy) _ _=n at q⊢;refine bQ (λh=>?_) λh=>?_;have h:n=0:=zC h;subst h;exact !!⟨fo q⟩;have h:¬n=0:=zZ h;rw[zt h,zW,Bool.or_false]at q;exact{_,rfl,fo q}
inductive k9 (ds:List D) (S:aw) (R:KD) (Z:KX):Prop where
 |mk (cs ps wy A l g) (h0:ds=[.tup<|cs.map ay,bU ps wy,.ref l,oJ g]) (h1:Gd cs) (h2:Pin cs ps) (h3:ps.length<=8) (h4:S l=some (.lst<|A.map ai)) (h5:An cs ps wy A) (h6:Gp cs ps g) (h7:R (.int ((A.countP (gP cs ps wy g):Nat):Int)) S)
theorem dP(T:Txt w K mg t):Ok P w base T.dy 5 k9:=by
 refine T.dy.F.bS cg ?_;obtain⟨cs,ps,wy,A,l,g,e,hg,hp,h8,hl,hA,hv,q⟩;refine{_,(sc (cj (i:=4) cg.nd di)<|sc (cj (i:=5) cg.nd<|cb ba T.aX aF<|al 2 an)<|sc (vQ<|Y9 (bj pW hr.u (dv 4)<|dv 5)<|sc (cj (i:=6) cg.nd<|bo bR hr.u (bo bB hr.u (dv 4)<|dv 5) di)<|s1<|si (tv<|aL T.rT (AU T) hr<|al 1<|ac (aL T.jD (jX T) hr<|al 0<|al 1<|ac (ix hr.u (dv 2)<|dv 6) an)<|al 3 an) (s1<|cj (i:=4) cg.nd<|bo bB hr.u (dv 6) di)<|s1<|cj (i:=5) cg.nd<|dv 6)<|s1<|sr<|dv 4),?_};refine !!⟨.inl {_,hl,?_}⟩;rw[zb];refine{λaB S'=>∃(o6:Option D),aB=[some<|.tup<|cs.map ay,some<|bU ps wy,some<|.ref l,some<|oJ g,some<|.int ((A.countP (gP cs ps wy g):Nat):Int),some<|.int ((A.countP (gP cs ps wy g):Nat):Int),o6]/\S'=S,?_,?_};refine{λm aB S'=>∃(lo hi:Nat)(o6:Option D),aB=[some<|.tup<|cs.map ay,some<|bU ps wy,some<|.ref l,some<|oJ g,some<|.int (lo:Nat),some<|.int (hi:Nat),o6]/\S'=S/\m=hi-lo/\lo<=hi/\hi<=A.length/\(∀i a,i<lo->A[i]?=some a->gP cs ps wy g a=true)/\(∀i a,hi<=i->A[i]?=some a->gP cs ps wy g a=false),{_,0,A.length,none,rfl,rfl,rfl,zT _,zq _,λi a h=>absurd h<|Nat.not_lt_zero _,λi a h e=>?_},?_};rw[List.getElem?_eq_none h]at e;cases e;rintro m aB S' ⟨lo,hi,o6,rfl,rfl,rfl,h1,h2,b1,b2⟩;refine !!!⟨bQ (λh=>?_) λh=>?_⟩;have h:lo<hi:=by have:=zC h;lia
 have hm:(lo+hi)/2<A.length:=by lia
 have em:=zf hm;generalize A[(lo+hi)/2]=r at em;have F8:=zx em;have ed:(((lo:Nat):Int)+((hi:Nat):Int))/2=(((lo+hi)/2:Nat):Int):=by lia
 have mono:=hA.mono hg hp hv;refine !!⟨{by decide,by decide},?_⟩;rw[ed];refine !!!!!{_,ai r,hl,bG<|by rw[zg,em];rfl,cs,ps,wy,r,rfl,hg,hp,h8,hA.rg.1 r F8,_,rfl,cs,ps,wy,r,g,rfl,hg,hp,hA.rg.1 r F8,hA.ky r F8,hv,_,rfl,bQ (λz=>?_) λz=>?_};refine !{hi-((lo+hi)/2+1),by lia,(lo+hi)/2+1,hi,_,rfl,rfl,rfl,by lia,h2,λi a Uo ei=>?_,b2};rcases Nat.lt_or_ge i ((lo+hi)/2) with eO|Wk;exact List.pairwise_iff_getElem.mp mono i _ (zd.mp ei).1 hm eO |> λk=>by rw[(zd.mp ei).2,(zd.mp em).2]at k;exact k z
 have:i=(lo+hi)/2:=by lia
 subst this;rw[em]at ei;cases ei;exact z;refine !{(lo+hi)/2-lo,by lia,lo,(lo+hi)/2,_,rfl,rfl,rfl,by lia,by lia,b1,λi a Uo ei=>?_};rcases Nat.lt_or_ge ((lo+hi)/2) i with eO|Wk;cases qa:gP cs ps wy g a with|false=>rfl|true=>have k:=List.pairwise_iff_getElem.mp mono _ i hm (zd.mp ei).1 eO;rw[(zd.mp ei).2,(zd.mp em).2]at k;exact tf (k qa) z
 have:i=(lo+hi)/2:=by lia
 subst this;rw[em]at ei;cases ei;exact z;have h:lo=hi:=by have:=zZ h;lia
 subst h;have:=wZ (hA.mono hg hp hv) h2 b1 b2;subst this;exact fo !⟨rfl⟩;rintro aB S' ⟨o6,rfl,rfl⟩;exact{_,rfl,fo q}
noncomputable def seg{α:Type}(A:List α)(b e:Nat):List α:=(A.drop b).take<|e-b
theorem Mr(h:b<=e)(h2:e<=A.length):(seg A b e).length=e-b:=by unfold seg;rw[yp,List.length_drop];omega
theorem Eu(h:i<e-b):(seg A b e)[i]?=A[b+i]?:=by unfold seg;rw[List.getElem?_take,if_pos h,List.getElem?_drop]
theorem w5(h:b<=e)(h2:e<=A.length):b_ (A.map ai) (some ((b:Nat):Int)) (some ((e:Nat):Int))=(seg A b e).map ai:=by unfold b_ seg;rw[HT.sIx_nat,HT.sIx_nat,zb,Nat.min_eq_left h2,Nat.min_eq_left<|zD h h2,List.map_take,List.map_drop]
noncomputable def NK(p:Addr)(b c:Nat):D:=.tup [.ref p,.int (b:Nat),.int (c:Nat)]
noncomputable def uk(cs:List<|Str×Str)(ps:List Part)(wy:Str)(A:List Row)(n:Nat):Option tD->Nat|none=>n|some g=>A.countP<|gP cs ps wy g
theorem w6(h:n<=A.length):∀b,uk cs ps wy A n b<=A.length|none=>h|some _=>List.countP_le_length
structure J1(cs:List (Str×Str))(ps:List Part)(wy:Str)(n:Nat)(d:D)(rows A:List Row):Prop where
 an:An cs ps wy A
 pm:A.Perm (rows.filter λr=>bq cs r n d)
theorem J1.one(hg:Gd cs)(hp:Pin cs ps)(h:J1 cs ps wy n d rows A)(h':J1 cs ps wy n d rows A'):A=A':=Mc hg hp h'.an.rg h.an.pw h'.an.pw<|h.pm.trans h'.pm.symm
def Ew(rows:List Row):Prop:=∀r∈rows,r.1∈KS
theorem w9{cs:List<|Str×Str}{ps:List Part}{wy:Str}{n:Nat}{d:D}{rows A:List Row}(hr:Rg cs rows)(hk:Ew rows)(pm:A.Perm<|rows.filter λr=>bq cs r n d)(pw:A.Pairwise λa b=>bH cs wy ps a b=true):J1 cs ps wy n d rows A:={{(hr.sub yo).perm pm,λr h=>hk r (yh.mp<|pm.mem_iff.mp h).1,pw},pm}
noncomputable def NL(A:List Row)(b n:Nat):Nat:=min (b+n) A.length
def QG(t:ib)(f:List (Str×Str)->List Part->Str->List Row->Option tD->Nat->Nat×Nat):kC:=λds S R _=>∃(a:Addr)(cs:List (Str×Str))(ps:List Part)(wy:Str)(d m:D)(n:Nat)(b:Option tD)(rows:List Row),ds=[.ref a,bU ps wy,d,.int (n:Nat),tE b,m]/\Gd cs/\Og cs ps wy/\Sq cs d/\1<=n/\n<=1000/\Bg cs ps b/\Vw t.ao S a cs m rows/\Ew rows/\Tb t S/\∀(A:List Row)(p:Addr),J1 cs ps wy 7 d rows A->S p=none->R (NK p (f cs ps wy A b n).1<|A.length-(f cs ps wy A b n).2) (S.set p<|.lst<|(seg A (f cs ps wy A b n).1 (f cs ps wy A b n).2).map ai)
noncomputable def Z1(cs:List<|Str×Str)(ps:List Part)(wy:Str)(A:List Row)(b:Option tD)(n:Nat):Nat×Nat:=(uk cs ps wy A 0 b,NL A (uk cs ps wy A 0 b) n)
noncomputable def Z2(cs:List<|Str×Str)(ps:List Part)(wy:Str)(A:List Row)(b:Option tD)(n:Nat):Nat×Nat:=(uk cs ps wy A A.length b-n,uk cs ps wy A A.length b)
theorem w_{S:aw}{p q:Addr}{c e:Ce}(h:S q=none)(hp:S p=none)(hn:q≠p):Sub (S.set q e) ((S.set p c).set q e):=λb x hb=>by by_cases z:b=q;subst z;rw[aa]at hb⊢;exact hb;rw[ag z]at hb⊢;rw[ag<|gx hb hp];exact hb
inductive Jw (t:ib) (ds:List D) (S:aw) (R:KD) (Z:KX):Prop where
 |mk (a:Addr) (cs:List<|Str×Str) (ps:List Part) (wy:Str) (d m:D) (f g:Option tD) (rows:List Row) (h0:ds=[.ref a,bU ps wy,d,tE f,tE g,m]) (h1:Gd cs) (h2:Og cs ps wy) (h3:Sq cs d) (h4:Bg cs ps f) (h5:Bg cs ps g) (h6:Vw t.ao S a cs m rows) (h7:Ew rows) (h8:Tb t S) (h9:∀(A:List Row)(p:Addr),J1 cs ps wy 7 d rows A->S p=none->R (.ref p) (S.set p<|.lst<|b_ (A.map ai) (some ((uk cs ps wy A 0 f:Nat):Int))<|some ((uk cs ps wy A A.length g:Nat):Int)))
inductive jY (ds:List D) (S:aw) (R:KD) (Z:KX):Prop where
 |mk (l:Addr) (A:List Row) (b e:Nat) (h0:ds=[.ref l,.int (b:Nat),.int (e:Nat)]) (h1:S l=some (.lst<|A.map ai)) (h2:b<=e) (h3:e<=A.length) (h4:∀p,S p=none->R (NK p b<|A.length-e) (S.set p<|.lst<|(seg A b e).map ai))
theorem i6(T:Txt w K mg t):Ok P w base T.eY 1 jY:=by refine T.eY.F.bS qd ?_;rintro _ _ _ _ _ _ _ S R Z hr ⟨l,A,b,e,e0,hl,h1,h2,q⟩;subst e0;refine{_,(s1<|sr<|bY<|ac (P2 (dv 0) (o1<|dv 1)<|o1<|dv 2)<|al 1<|ac (bo rn hr.u (cb ba T.aX aF<|al 0 an)<|dv 2) an),?_};refine !!!!!{_,hl,λp hp=>?_};rw[w5 h1 h2];refine !!!⟨.inl {_,(Sub.new hp) _ _ hl,_,rfl,so,?_}⟩;rw[zb,show((A.length:Nat):Int)-((e:Nat):Int)=((A.length-e:Nat):Int) by omega];exact fo<|q p hp
inductive pL (ds:List D) (S:aw) (R:KD) (Z:KX):Prop where
 |mk (l:Addr) (A:List Row) (b n:Nat) (h0:ds=[.ref l,.int (b:Nat),.int (n:Nat)]) (h1:S l=some (.lst<|A.map ai)) (h2:b<=A.length) (h3:∀p,S p=none->R (NK p b<|A.length-NL A b n) (S.set p<|.lst<|(seg A b<|NL A b n).map ai))
theorem xa(T:Txt w K mg t):Ok P w base T.oj 2 pL:=by
 refine T.oj.F.bS wF ?_;rintro _ _ _ _ _ _ _ S R Z hr ⟨l,A,b,n,e0,hl,h1,q⟩;subst e0;refine{_,(s1<|sr<|aL T.eY (i6 T) hr<|al 0<|al 1<|ac (cb M8 T.Nw HD<|ac (bo bB hr.u (dv 1)<|dv 2)<|ac (cb ba T.aX aF<|al 0 an) an) an),?_};refine !!!!!!⟨.inl {_,hl,_,_,rfl,?_}⟩;rw[zb];have e1:(if decide (((A.length:Nat):Int)<((b:Nat):Int)+((n:Nat):Int))=true then ((A.length:Nat):Int) else ((b:Nat):Int)+((n:Nat):Int))=((NL A b n:Nat):Int):=by unfold NL;by_cases h:((A.length:Nat):Int)<((b:Nat):Int)+((n:Nat):Int);rw[if_pos<|zu h];omega;rw[if_neg<|by rw[zt h];exact ze];omega
 rw[e1];exact{l,A,b,NL A b n,rfl,hl,by unfold NL;omega,by unfold NL;omega,λp hp=>fo<|q p hp}
inductive m_ (ds:List D) (S:aw) (R:KD) (Z:KX):Prop where
 |mk (l:Addr) (A:List Row) (e n:Nat) (h0:ds=[.ref l,.int (e:Nat),.int (n:Nat)]) (h1:S l=some (.lst<|A.map ai)) (h2:e<=A.length) (h3:∀p,S p=none->R (NK p (e-n)<|A.length-e) (S.set p<|.lst<|(seg A (e-n) e).map ai))
theorem um(T:Txt w K mg t):Ok P w base T.lL 2 m_:=by
 refine T.lL.F.bS tY ?_;rintro _ _ _ _ _ _ _ S R Z hr ⟨l,A,e,n,e0,hl,h1,q⟩;subst e0;refine{_,(s1<|sr<|aL T.eY (i6 T) hr<|al 0<|ac (cb T8 T.U1 P0<|ac (bo rn hr.u (dv 1)<|dv 2)<|ac di an)<|al 1 an),?_};refine !!!{_,_,rfl,?_};have e1:(if decide (((e:Nat):Int)-((n:Nat):Int)<0)=true then (0:Int) else ((e:Nat):Int)-((n:Nat):Int))=((e-n:Nat):Int):=by by_cases h:((e:Nat):Int)-((n:Nat):Int)<0;rw[if_pos<|zu h];omega;rw[if_neg<|by rw[zt h];exact ze];omega
 rw[e1];exact !{l,A,e-n,e,rfl,hl,Nat.sub_le _ _,h1,λp hp=>fo<|q p hp}
def NM(f:List (Str×Str)->List Part->Str->List Row->Option tD->Nat->Nat×Nat):kC:=λds S R _=>∃(cs:List (Str×Str))(ps:List Part)(wy:Str)(l:Addr)(A:List Row)(n:Nat)(b:Option tD),ds=[.tup<|cs.map ay,bU ps wy,.ref l,.int (n:Nat),tE b]/\Gd cs/\Pin cs ps/\ps.length<=8/\S l=some (.lst<|A.map ai)/\An cs ps wy A/\Bg cs ps b/\∀p,S p=none->R (NK p (f cs ps wy A b n).1<|A.length-(f cs ps wy A b n).2) (S.set p<|.lst<|(seg A (f cs ps wy A b n).1 (f cs ps wy A b n).2).map ai)
theorem uo(T:Txt w K mg t):Ok P w base T.lK 6 (NM Z1):=by refine T.lK.F.bS kR ?_;rintro _ _ _ _ _ _ _ S R Z hr ⟨cs,ps,wy,l,A,n,b,e0,hg,hp,h8,hl,hA,hb,q⟩;subst e0;refine{_,(sc (cj (i:=5) kR.nd<|M4 (bj eP hr.u (dv 4) dn) di<|aL T.dy (dP T) hr<|al 0<|al 1<|al 2<|al 4 an)<|s1<|sr<|aL T.oj (xa T) hr<|al 2<|al 5<|al 3 an),?_};cases b with|none=>exact (!!⟨dD !!!{l,A,0,n,rfl,hl,zT _,λp hp=>fo<|q p hp}⟩)|some g=>exact !!⟨a_ !!!!{cs,ps,wy,A,l,g,rfl,hg,hp,h8,hl,hA,hb g rfl,_,rfl,_,rfl,_,rfl,l,A,_,n,rfl,hl,List.countP_le_length,λp hp=>fo<|q p hp}⟩
theorem ql(T:Txt w K mg t):Ok P w base T.iz 6 (NM Z2):=by refine T.iz.F.bS iV ?_;rintro _ _ _ _ _ _ _ S R Z hr ⟨cs,ps,wy,l,A,n,b,e0,hg,hp,h8,hl,hA,hb,q⟩;subst e0;refine{_,(sc (cj (i:=5) iV.nd<|M4 (bj eP hr.u (dv 4) dn) (cb ba T.aX aF<|al 2 an)<|aL T.dy (dP T) hr<|al 0<|al 1<|al 2<|al 4 an)<|s1<|sr<|aL T.lL (um T) hr<|al 2<|al 5<|al 3 an),?_};cases b with|none=>refine !!⟨dD !!⟨.inl {_,hl,?_}⟩⟩;rw[zb];exact (!!!{l,A,A.length,n,rfl,hl,zq _,λp hp=>fo<|q p hp})|some g=>exact !!⟨a_ !!!!{cs,ps,wy,A,l,g,rfl,hg,hp,h8,hl,hA,hb g rfl,_,rfl,_,rfl,_,rfl,l,A,_,n,rfl,hl,List.countP_le_length,λp hp=>fo<|q p hp}⟩
theorem CY(T:Txt w K mg t)(B:Bm mg base):Ok P w base T.vW 13 (QG t Z1):=by
 refine T.vW.F.bS Cu ?_;rintro _ _ _ _ _ _ _ S R Z hr ⟨a,cs,ps,wy,d,m,n,b,rows,e0,hg,ho,hd,h1,h2,hb,hv,hk,ht,q⟩;subst e0;obtain⟨F,dl,rs,hS,hn,Vj,Vk⟩:=hv.sh;obtain⟨ld,lr,ra,h,_⟩:=id hS;refine{_,(sc (se<|aL T.iA (k8 T) hr<|ac (rJ (dv 0) T.ak T.aJ (bF T) hr)<|al 1<|al 2<|al 3<|al 4 an)<|s1<|sr<|aL T.lK (uo T) hr<|ac (rJ (dv 0) T.ak T.aJ (bF T) hr)<|al 1<|ac (aL T.cK (dO T B) hr<|al 0<|al 1<|al 2<|al 5 an)<|al 3<|al 4 an),?_};refine !{a,_,rfl,h.ins,rfl,a,F,cs,dl,rs,rfl,hS,_,rfl,_,rfl,_,rfl,_,rfl,cs,ps,wy,d,n,b,rfl,hg,ho,hd,by omega,by omega,hb,?_};refine !{a,_,rfl,h.ins,rfl,a,F,cs,dl,rs,rfl,hS,_,rfl,_,rfl,_,rfl,_,rfl,_,rfl,a,cs,ps,wy,d,m,rows,rfl,hg,ho,hd,hv,ht,λA l pm pw hl=>?_};have an:=w9 hv.rg hk pm pw;refine !!{cs,ps,wy,l,A,n,b,rfl,hg,ho.pin,ho.len,aa,an.an,hb,λp hp=>?_};have cU:p≠l:=λe=>by rw[e,aa]at hp;cases hp
 have Ec:S p=none:=by rw[ag cU]at hp;exact hp
 exact{_,w_ Ec hl cU,q A p an Ec}
theorem xb(T:Txt w K mg t)(B:Bm mg base):Ok P w base T.n6 13 (QG t Z2):=by
 refine T.n6.F.bS wD ?_;rintro _ _ _ _ _ _ _ S R Z hr ⟨a,cs,ps,wy,d,m,n,b,rows,e0,hg,ho,hd,h1,h2,hb,hv,hk,ht,q⟩;subst e0;obtain⟨F,dl,rs,hS,hn,Vj,Vk⟩:=hv.sh;obtain⟨ld,lr,ra,h,_⟩:=id hS;refine{_,(sc (se<|aL T.iA (k8 T) hr<|ac (rJ (dv 0) T.ak T.aJ (bF T) hr)<|al 1<|al 2<|al 3<|al 4 an)<|s1<|sr<|aL T.iz (ql T) hr<|ac (rJ (dv 0) T.ak T.aJ (bF T) hr)<|al 1<|ac (aL T.cK (dO T B) hr<|al 0<|al 1<|al 2<|al 5 an)<|al 3<|al 4 an),?_};refine !{a,_,rfl,h.ins,rfl,a,F,cs,dl,rs,rfl,hS,_,rfl,_,rfl,_,rfl,_,rfl,cs,ps,wy,d,n,b,rfl,hg,ho,hd,by omega,by omega,hb,?_};refine !{a,_,rfl,h.ins,rfl,a,F,cs,dl,rs,rfl,hS,_,rfl,_,rfl,_,rfl,_,rfl,_,rfl,a,cs,ps,wy,d,m,rows,rfl,hg,ho,hd,hv,ht,λA l pm pw hl=>?_};have an:=w9 hv.rg hk pm pw;refine !!{cs,ps,wy,l,A,n,b,rfl,hg,ho.pin,ho.len,aa,an.an,hb,λp hp=>?_};have cU:p≠l:=λe=>by rw[e,aa]at hp;cases hp
 have Ec:S p=none:=by rw[ag cU]at hp;exact hp
 exact{_,w_ Ec hl cU,q A p an Ec}
theorem fM(T:Txt w K mg t)(B:Bm mg base):Ok P w base T.eX 13 (Jw t):=by
 refine T.eX.F.bS fB ?_;rintro _ _ _ _ _ _ _ S R Z hr ⟨a,cs,ps,wy,d,m,f,g,rows,e0,hg,ho,hd,hf,Z3,hv,hk,ht,q⟩;subst e0;obtain⟨F,dl,rs,hS,hn,Vj,Vk⟩:=hv.sh;obtain⟨ld,lr,ra,h,_⟩:=id hS;refine{_,(sc (cj (i:=6) fB.nd<|rJ (dv 0) T.ak T.aJ (bF T) hr)<|sc (se<|aL T.fZ (jS T) hr<|al 6<|al 1 an)<|sc (se<|aL T.f_ (jT T) hr<|al 6<|al 2 an)<|sc (se<|aL T.eJ (fL T) hr<|al 6<|al 1<|al 3 an)<|sc (se<|aL T.eJ (fL T) hr<|al 6<|al 1<|al 4 an)<|sc (cj (i:=7) fB.nd<|aL T.cK (dO T B) hr<|al 0<|al 1<|al 2<|al 5 an)<|sc (cj (i:=8) fB.nd<|M4 (bj eP hr.u (dv 3) dn) di<|aL T.dy (dP T) hr<|al 6<|al 1<|al 7<|al 3 an)<|sc (cj (i:=9) fB.nd<|M4 (bj eP hr.u (dv 4) dn) (cb ba T.aX aF<|al 7 an)<|aL T.dy (dP T) hr<|al 6<|al 1<|al 7<|al 4 an)<|s1<|sr<|P2 (dv 7) (o1<|dv 8)<|o1<|dv 9),?_};refine !{a,_,rfl,h.ins,rfl,a,F,cs,dl,rs,rfl,hS,?_};refine !!{cs,ps,wy,rfl,hg,ho.tx,λ_=>?_,λz=>tf ho.ok z};refine !!{cs,d,rfl,hg,hd,?_};refine !!!{cs,ps,wy,f,rfl,hg,ho.pin,ho.len,hf,?_};refine !!!{cs,ps,wy,g,rfl,hg,ho.pin,ho.len,Z3,?_};refine !!!!{a,cs,ps,wy,d,m,rows,rfl,hg,ho,hd,hv,ht,λA l pm pw hl=>?_};have an:=w9 hv.rg hk pm pw;have fin:∀p,(S.set l<|.lst<|A.map ai) p=none->Fo (((S.set l<|.lst<|A.map ai).set p<|.lst<|b_ (A.map ai) (some ((uk cs ps wy A 0 f:Nat):Int))<|some ((uk cs ps wy A A.length g:Nat):Int))) (R<|.ref p):=λp hp=>by have cU:p≠l:=λe=>(by rw[e,aa]at hp;cases hp);have Ec:S p=none:=(by rw[ag cU]at hp;exact hp);exact{_,w_ Ec hl cU,q A p an Ec}
 cases f with|none=>(refine !!⟨dD ?_⟩;cases g with|none=>refine !!⟨dD !!⟨.inl {_,aa,?_}⟩⟩;rw[zb];exact (!!!!!{_,aa,fin})|some g=>exact !!⟨a_ !!!!{cs,ps,wy,A,l,g,rfl,hg,ho.pin,ho.len,aa,an.an,Z3 g rfl,_,rfl,_,rfl,_,rfl,_,rfl,_,rfl,_,aa,fin}⟩)|some f=>refine !!⟨a_ !!!!{cs,ps,wy,A,l,f,rfl,hg,ho.pin,ho.len,aa,an.an,hf f rfl,?_}⟩;cases g with|none=>refine !!⟨dD !!⟨.inl {_,aa,?_}⟩⟩;rw[zb];exact (!!!!!{_,aa,fin})|some g=>exact !!⟨a_ !!!!{cs,ps,wy,A,l,g,rfl,hg,ho.pin,ho.len,aa,an.an,Z3 g rfl,_,rfl,_,rfl,_,rfl,_,rfl,_,rfl,_,aa,fin}⟩
structure Qs(t:ib)(S:aw)(a:Addr)(cs:List (Str×Str))(ps:List Part)(wy:Str)(d m:D)(rows:List Row):Prop where
 g:Gd cs
 o:Og cs ps wy
 s:Sq cs d
 v:Vw t.ao S a cs m rows
 k:Ew rows
 t:Tb t S
theorem Qs.sub{t:ib}{S S':aw}{a:Addr}{cs:List<|Str×Str}{ps:List Part}{wy:Str}{d m:D}{rows:List Row}(h:Qs t S a cs ps wy d m rows)(b:Sub S S'):Qs t S' a cs ps wy d m rows:={h.g,h.o,h.s,h.v.sub b,h.k,h.t.sub b}
section
variable{t:ib}{S:aw}{a:Addr}{cs:List (Str×Str)}{ps:List Part}{wy:Str}{d m:D}{rows:List Row}{R:KD}{Z:KX}(hq:Qs t S a cs ps wy d m rows)
include hq
theorem Qs.pg(b:Option tD)(h1:1<=n)(h2:n<=1000)(hb:Bg cs ps b) (k:∀(A:List Row)(p:Addr),J1 cs ps wy 7 d rows A->S p=none->R (NK p (f cs ps wy A b n).1<|A.length-(f cs ps wy A b n).2) (S.set p<|.lst<|(seg A (f cs ps wy A b n).1 (f cs ps wy A b n).2).map ai)):W (QG t f) [.ref a,bU ps wy,d,.int (n:Nat),tE b,m] S R Z:=⟨a,cs,ps,wy,d,m,n,b,rows,rfl,hq.g,hq.o,hq.s,h1,h2,hb,hq.v,hq.k,hq.t,k⟩
theorem Qs.st(f g:Option tD)(hf:Bg cs ps f)(hg:Bg cs ps g)(k:∀(A:List Row)(p:Addr),J1 cs ps wy 7 d rows A->S p=none->R (.ref p) (S.set p<|.lst<|b_ (A.map ai) (some ((uk cs ps wy A 0 f:Nat):Int))<|some ((uk cs ps wy A A.length g:Nat):Int))):W (Jw t) [.ref a,bU ps wy,d,tE f,tE g,m] S R Z:=⟨a,cs,ps,wy,d,m,f,g,rows,rfl,hq.g,hq.o,hq.s,hf,hg,hq.v,hq.k,hq.t,k⟩
end
theorem gs(hr:Rg cs rows)(hk:Ew rows):∀d∈rows.map ai,Ly S 60 d:=λd hd=>by obtain⟨r,h,rfl⟩:=zi.mp hd;exact QF (hk r h)<|hr.1 r h
noncomputable def Ex(cs:List<|Str×Str)(ps:List Part)(sd:Str)(r:Row):tD:=(ps.map λp=>aj cs r.2 p.1,r.1,sd)
theorem sW{cs:List<|Str×Str}(hg:Gd cs){ps:List Part}(hp:Pin cs ps){r:Row}(hw:Wg cs r.2)(hk:r.1∈KS){sd:Str}(hs:AS sd=true):Gp cs ps (Ex cs ps sd r):={oI hg hp hw,hk,hs}
inductive u_ (ds:List D) (S:aw) (R:KD) (Z:KX):Prop where
 |mk (cs:List<|Str×Str) (ps:List Part) (wy:Str) (p:Addr) (rows:List Row) (b c:Nat) (h0:ds=[.tup<|cs.map ay,bU ps wy,NK p b c]) (h1:Gd cs) (h2:Pin cs ps) (h3:ps.length<=8) (h4:S p=some (.lst<|rows.map ai)) (h5:(∀r∈rows,Wg cs r.2)) (h6:(rows=[]->R .au S)) (h7:∀r0 r1,rows[0]?=some r0->rows[rows.length-1]?=some r1->R (.tup [oJ<|Ex cs ps "ahead" r0,oJ<|Ex cs ps "behind" r1]) S)
theorem sX(T:Txt w K mg t):Ok P w base T.qD 4 u_:=by
 refine T.qD.F.bS rZ ?_;rintro _ _ _ _ _ _ _ S R Z hr ⟨cs,ps,wy,p,rows,b,c,e0,hg,hp,h8,hS,hw,q1,q2⟩;subst e0;refine{_,(sc (cj (i:=3) rZ.nd<|ix hr.u (dv 2) di)<|sc (si (bj aU hr.u (cb ba T.aX aF<|al 3 an) di) (s1<|sr dn) s0)<|s1<|sr<|bY<|ac (bY<|ac (aL T.jD (jX T) hr<|al 0<|al 1<|ac (ix hr.u (dv 3) di) an)<|ac ds an)<|ac (bY<|ac (aL T.jD (jX T) hr<|al 0<|al 1<|ac (ix hr.u (dv 3)<|x6 di) an)<|ac ds an) an),?_};refine !!!!⟨.inl {_,hS,_,rfl,?_}⟩;rw[zb];refine bQ (λh=>?_) λh=>?_;have h:((rows.length:Nat):Int)=0:=zC h;exact fo<|q1<|List.length_eq_zero_iff.mp (by lia);have h:¬((rows.length:Nat):Int)=0:=zZ h;have h0:0<rows.length:=by lia
 have hl:rows.length-1<rows.length:=by lia
 have e0:=zf h0;have e1:=zf hl;generalize rows[0]=r0 at e0;generalize rows[rows.length-1]=r1 at e1;have w0:=hw r0<|zx e0;have w1:=hw r1<|zx e1;have ea:gE (rows.map ai) (-1)=some (ai r1):=by unfold gE Ds;rw[zb,if_neg<|by decide,if_pos<|by lia,show((-1:Int)+((rows.length:Nat):Int)).toNat=rows.length-1 by lia];show(rows.map ai)[rows.length-1]?=_;rw[zg,e1];rfl
 refine !!!{_,ai r0,hS,bG (j:=0)<|by rw[zg,e0];rfl,cs,ps,wy,r0,rfl,hg,hp,h8,w0,cu,?_};refine !!!!{_,ai r1,hS,ea,cs,ps,wy,r1,rfl,hg,hp,h8,w1,cu,cu,?_};exact fo<|q2 r0 r1 e0 e1
theorem CZ(x:Str)(n:Nat):(PySem.Txt.slice x none<|some (n:Int)).cps.toList=x.cps.toList.take n:=by
 have e1:PySem.Builtin.Str.strSliceIndices none (some (n:Int)) 1 x.length=PySem.Builtin.Str.strSliceIndices (some ((0:Nat):Int)) (some ((min n x.length:Nat):Int)) 1 x.length:=by unfold PySem.Builtin.Str.strSliceIndices;have h1:((1:Int)>0)=True:=(by simp);simp only[h1,if_true];have a1:¬((n:Int)<0):=(by lia);have a2:¬(((min n x.length:Nat):Int)<0):=(by lia);have a3:¬(((0:Nat):Int)<0):=(by lia);simp only[a1,a2,a3,if_false];have b1:max 0 (min ((0:Nat):Int) (x.length:Int))=0:=(by lia);have b2:max 0 (min (n:Int) (x.length:Int))=max 0 (min ((min n x.length:Nat):Int) (x.length:Int)):=(by lia);rw[b1,b2]
 have e2:(PySem.Builtin.Str.strSliceIndices none (some (n:Int)) 1 x.length).filterMap (x.cps[·]?)=x.cps.toList.take n:=by rw[e1,StrLaws.sliced_plain x (zT _)<|Nat.min_le_right _ _,List.drop_zero,Nat.sub_zero];by_cases h:n<=x.length;rw[Nat.min_eq_left h];have hl:x.cps.toList.length=x.length:=z0;rw[Nat.min_eq_right<|by lia,List.take_of_length_le<|by lia,List.take_of_length_le<|by lia]
 unfold PySem.Txt.slice;split;{next h=>simp only[zI,beq_iff_eq]at h;rw[e1,StrLaws.strSliceIndices_plain (zT _)<|Nat.min_le_right _ _,zb,List.length_range]at h;have hl:x.cps.toList.length=x.length:=z0;rw[List.take_of_length_le<|by lia]};rw[e2]
theorem xc(x y:Str):decide (PySem.Txt.slice x none (some ((y.length:Nat):Int))=y)=PySem.Txt.startswith x y:=by unfold PySem.Txt.startswith;rw[StrLaws.subAt_eq,List.drop_zero,Nat.zero_add,yu];simp only[decide_eq_true_iff,zI,beq_iff_eq];have hs:=CZ x y.length;constructor;intro h;rw[h]at hs;have hl:x.cps.toList.length=x.length:=z0;have GI:y.cps.toList.length=y.length:=z0;refine{?_,hs.symm};have:=congrArg List.length hs;rw[yp]at this;lia;rintro⟨_,h⟩;rw[h]at hs;obtain⟨a⟩:=y;generalize hz:PySem.Txt.slice x none _=z at hs⊢;obtain⟨b⟩:=z;exact congrArg Str.mk<|Array.ext' hs
theorem Jx(hg:Gd cs)(hc:c∈cs):((cs.map Prod.fst).map D.str).all jo=true/\(∃z,((cs.map Prod.fst).map D.str)[IY cs c.1]?=some z/\eqV (kB z) (kB<|.str c.1)=true)/\∀m u,m<IY cs c.1->((cs.map Prod.fst).map D.str)[m]?=some u->eqV (kB u) (kB<|.str c.1)=false:=by obtain⟨n1,n2⟩:=oA hg hc;refine{?_,{.str c.1,by rw[zg,n2];rfl,by show(c.1==c.1)=true;simp},?_};rw[List.all_map];exact yb.mpr λ_ _=>rfl;intro m u hm hu;rw[zg]at hu;cases e:(cs.map Prod.fst)[m]? with|none=>(rw[e]at hu;cases hu)|some z'=>rw[e]at hu;cases hu;show(z'==c.1)=false;have:z'≠c.1:=λq=>(by subst q;obtain⟨b1,c1⟩:=zd.mp e;obtain⟨b2,c2⟩:=zd.mp n2;have:=(List.getElem_inj hg.2.1 (h₀:=b1) (h₁:=b2)).mp<|c1.trans c2.symm;lia);simpa using this
noncomputable def QH:D->D|.tup (x::_)=>x|_=>.au
theorem AV(cs:List<|Str×Str):(cs.map ay).map QH=(cs.map Prod.fst).map D.str:=by rw[zy,zy];rfl
theorem lR(T:Txt w K mg t):∀n,Ok P w base T.gR (3+n) (IZ n)
 |0=>by refine T.gR.F.ok (k:=2) eK (by rintro ds S R Z ⟨_,_,_,e,_⟩;exact by rw[e];rfl) (by rintro fT A outer s H E ds S R Z hr ⟨cs,d,r,e,hg,hs,_⟩;exact hs.elim)
 |n+1=>by
  refine T.gR.F.ok (k:=3+n) eK (by rintro ds S R Z ⟨_,_,_,e,_⟩;rw[e];rfl) ?_;rintro fT A outer s H E ds S R Z hr ⟨cs,d,r,e,hg,hs,hw,q⟩;subst e;have n2:=cu;refine{_,(sc (cj (i:=3) eK.nd<|ix hr.u (dv 1) di)<|sc (si (bj aU hr.u (dv 3) ds) (s1<|sr db) s0)<|sc (si (bj aU hr.u (dv 3) ds) (s1<|sr<|cm vL hr.u (ix hr.u (dv 2) di)<|ix hr.u (dv 1) di) s0)<|sc (si (bj aU hr.u (dv 3) ds) (s1<|sr<|Li<|aL T.gR (lR T n) hr<|al 0<|ac (ix hr.u (dv 1) di)<|al 2 an) s0)<|sc (si (bj vL hr.u (dv 3)<|bY<|ac ds<|ac ds an) (sc (HQ (i:=4) (N:=["_law_one","_law_columns_here","_law_row"]) (src:=[none,some 0,some 2]) eK.nd (jb (ae rL) ["_law_columns_here","_law_sieve_here","_law_row","_law_word","_law_some","_law_value_here"] rfl rfl<|by trivial) (GP<|ix hr.u (dv 1) di) (oX<|show(["_law_one","_law_columns_here","_law_row"]:List Str).Nodup by trivial) (aR rfl) aS (λ_ _ _ _ _=>nR) λ_ _ _ _ _=>(aL T.gR (lR T n) hr<|al 1<|al 0<|al 2 an))<|s1<|sr<|uM<|ix hr.u (cz<|ac (cb M7 T.Nu Hv<|al 4 an)<|ac (cb jq T.jz fh<|al 4 an) an)<|ct DK T.Ao q8<|ac (cm aU hr.u (dv 3) ds) an) s0)<|sc (cj (i:=5) eK.nd<|ix hr.u (ix hr.u (dv 2) di)<|bm zN PySem.F.slot_list_index PySem.F.type_list_index rB (tQ (N:=["_law_name","_law_kind"]) (src:=[none,none]) (jb (ae rL) ["_law_columns_here","_law_sieve_here","_law_row","_law_word","_law_some","_law_value_here"] rfl rfl<|by trivial) (GP<|dv 0) (Rn<|show(["_law_name","_law_kind"]:List Str).Nodup by trivial) (j0 rfl rfl) j7 (λ_ _ _ _ _=>nR) λ_ _ _ _ _=>(dv 0))<|ac (ix hr.u (dv 1) di) an)<|sc (si (twd<|twor (bj aU hr.u (dv 3) ds)<|tw1<|bj eP hr.u (dv 5) dn) (s1<|sr<|pV (cm aU hr.u (dv 3) ds)<|Fm<|cm aU hr.u (dv 5)<|ix hr.u (dv 1) di) s0)<|sc (si (bj aU hr.u (dv 3) ds) (s1<|sr<|cm aU hr.u (sl (dv 5) o0<|o1<|cb ba T.aX aF<|ac (ix hr.u (dv 1) di) an)<|ix hr.u (dv 1) di) s0)<|s1<|sr<|uM<|ix hr.u (cz<|ac (cm pX hr.u (dv 5)<|ix hr.u (dv 1) di)<|ac (cm pW hr.u (dv 5)<|ix hr.u (dv 1) di) an)<|ct DK T.Ao q8<|ac (cm aU hr.u (dv 3) ds) an),?_};rcases hs with (rfl|⟨ks,rfl,ZM,Ba⟩|⟨o,c,v,hc,hv,ho,rfl⟩)|⟨e,rfl,he⟩|⟨o,es,ho,rfl,JY,Tr⟩;exact !!!!⟨iH (by trivial)<|fo q⟩;refine !!!!⟨bx (by trivial) ?_⟩;refine !!⟨iH (by trivial) !!!!{rfl,?_,?_}⟩;rw[List.all_map];exact yb.mpr λ_ _=>rfl;rw[AI]at q;exact fo q;rw[ND]at q;obtain⟨WE,RJ⟩:=kh hg hw hc;unfold AH at q;have four:o ="is"\/(o ="below"\/o ="above"\/o ="begins"):=by rcases ho with h|⟨_,h|h|⟨h,_⟩⟩;exact .inl h;exact .inr<|.inl h;exact .inr<|.inr<|.inl h;exact .inr<|.inr<|.inr h
  have mO:decide (o ="every")=false/\decide (o ="key")=false/\decide (o ="not")=false/\Bz (.str o) [.str "and",.str "or"]=false:=by rcases four with rfl|rfl|rfl|rfl<;>decide +kernel
  refine !!!!⟨bx mO.1 !!⟨bx mO.2.1 !!⟨bx mO.2.2.1 !{n2,rfl,rfl,_,rfl,bx mO.2.2.2 !!!{_,.inl rfl,?_}}⟩⟩⟩;refine comp_map QH trivial (by show(cs.map ay).length<=1000;rw[zb];have:=hg.1;lia) (λd hd Q hQ=>?_) λp hp=>?_;obtain⟨c,_,rfl⟩:=zi.mp hd;exact !{rfl,_,_,rfl,_,_,rfl,rfl,_,rfl,hQ};rw[show({cs.map ay,λ_=>True}:nQ).xs=cs.map ay from rfl,AV];have sb:=Sub.new (c:=.lst<|(cs.map Prod.fst).map D.str) hp;have tw:(S.set p<|.lst<|(cs.map Prod.fst).map D.str) p=some (.lst<|(cs.map Prod.fst).map D.str):=aa;generalize S.set p (.lst<|(cs.map Prod.fst).map D.str)=S1 at sb tw⊢;have lx:=Jx hg hc;refine{{rfl,_,tw},_,rfl,_,rfl,_,.str c.1,IY cs c.1,rfl,tw,rfl,lx.1,lx.2.1,lx.2.2,_,bG WE,?_};have fin:∀{b:Bool},R (.bl b) S->Fo S1 (R<|.bl b):=λh=>⟨S,sb,h⟩;rcases ho with rfl|⟨nb,ho⟩;rw[if_pos rfl]at q;exact !!⟨iH (by trivial) !!⟨iH (by trivial) !!!⟨mW RJ.2 hv.2<|fin q⟩⟩⟩;have Ks:decide (o ="is")=false:=by rcases ho with rfl|rfl|⟨rfl,_⟩<;>decide +kernel
  rw[if_neg<|zZ Ks]at q;refine !!⟨bx Ks !!⟨bQ (λh=>?_) λh=>?_⟩⟩;rw[if_pos h]at q;exact !!⟨bx Ks<|fin q⟩;rw[if_neg<|by rw[show ah (aj cs r.2 c.1)=false from h];exact ze]at q;rcases ho with rfl|rfl|⟨rfl,hk⟩;rw[if_pos rfl]at q;refine !!⟨bx (by trivial) ?_⟩;rcases lN RJ hv (aY h) nb with⟨i,j,e6,rfl⟩|⟨i,j,e6,rfl⟩<;>rw[e6]at q⊢<;>exact !!!!!!{n2,λp hp=>!⟨.inr !{_,_,aa,(show gE _ 1=some _ from rfl),_,.new hp,fin q}⟩};rw[if_neg<|by trivial,if_pos rfl]at q;refine !!⟨bx (by trivial) ?_⟩;rcases lN RJ hv (aY h) nb with⟨i,j,e6,rfl⟩|⟨i,j,e6,rfl⟩<;>rw[e6]at q⊢<;>exact !!!!!!{n2,λp hp=>!⟨.inr !{_,_,aa,(show gE _ 0=some _ from rfl),_,.new hp,fin q}⟩};rw[if_neg<|by trivial,if_neg<|by trivial]at q;have hz:∀z,aj cs r.2 c.1=.str z->z.length<=sizeLine:=λz e=>sm<|(Ee RJ (S:=S)).2 z e;have Ib:∀z,v=.str z->z.length<=sizeLine:=λz e=>sm<|(Ee hv (S:=S)).2 z e;rw[hk]at RJ hv;obtain⟨i,e6⟩:=qG RJ<|aY h;obtain⟨j,rfl⟩:=qG hv nb;have hz:=hz i e6;have Ib:=Ib j rfl;rw[e6]at q⊢;refine !!⟨iH (by trivial) !!!!{Ib,_,rfl,hz,_,rfl,_,rfl,?_}⟩;show Fo S1 (R<|.bl<|decide<|PySem.Txt.slice i none (some ((j.length:Nat):Int))=j);rw[xc];exact fin q;rw[AJ]at q;exact !!!!⟨bx (by trivial) !!⟨bx (by trivial) !!⟨iH (by trivial) !!!!{cs,e,r,rfl,hg,he,hw,_,rfl,fo q}⟩⟩⟩;have hz:es.length<=1000:=by lia
  have mO:decide (o ="every")=false/\decide (o ="key")=false/\decide (o ="not")=false/\Bz (.str o) [.str "and",.str "or"]=true:=by rcases ho with rfl|rfl<;>decide +kernel
  refine !!!!⟨bx mO.1 !!⟨bx mO.2.1 !!⟨bx mO.2.2.1 !{n2,rfl,rfl,_,rfl,iH mO.2.2.2 !!{_,.inl rfl,?_}}⟩⟩⟩;refine comp_map (λd=>.bl<|bq cs r n d) trivial hz (λd hd Q hQ=>!!!{cs,d,r,rfl,hg,Tr d hd,hw,hQ}) λp hp=>?_;have em:es.map (λd=>D.bl<|bq cs r n d)=(es.map<|bq cs r n).map D.bl:=by rw[zy];rfl
  rw[show({es,λ_=>True}:nQ).xs=es from rfl,em];have RB:(S.set p<|.lst<|(es.map<|bq cs r n).map D.bl) p=_:=aa;refine !{.ref p,es.map<|bq cs r n,rfl,RB,_,rfl,.ref p,es.map<|bq cs r n,rfl,RB,n2,λp2 eS=>?_};rcases ho with rfl|rfl;rw[AK]at q;refine{_,rfl,.inr !{_,_,aa,(show gE _ 1=some _ from rfl),S,(Sub.new hp).trans<|.new eS,fo ?_}};show R (.bl<|(es.map<|bq cs r n).all id) S;rw[all_map];exact q;rw[Eg]at q;refine{_,rfl,.inr !{_,_,aa,(show gE _ 0=some _ from rfl),S,(Sub.new hp).trans<|.new eS,fo ?_}};show R (.bl<|(es.map<|bq cs r n).any id) S;rw[List.any_map];exact q
noncomputable def sY:D->PyData|.int i=>.int i|.str z=>.str z|_=>.none
theorem QI(hx:bh x=true):Dp S x (sY x)/\(sY x).canLay0=true/\(sY x).depth<=0:=by cases x with|au=>exact{by simp only[Dp,sY],by simp only[sY,PyData.canLay0],by simp only[sY,PyData.depth];lia}|int i=>exact{by simp only[Dp,sY],by simp only[sY,PyData.canLay0],by simp only[sY,PyData.depth];lia}|str z=>refine{by simp only[Dp,sY],?_,by simp only[sY,PyData.depth];lia};unfold bh at hx;simp only[zI]at hx;simp only[sY,PyData.canLay0];exact hx.2|_=>cases hx
theorem xf:∀{xs:List D},(∀x∈xs,bh x=true)->DpAll S xs (xs.map sY)/\PyData.canLayAll0 (xs.map sY)=true/\PyData.depthAll (xs.map sY)<=0|[],_=>{by simp only[yU,DpAll],rfl,zT _}|x::xs,h=>by obtain⟨a,b,c⟩:=QI (S:=S)<|h x zp;obtain⟨a',b',c'⟩:=xf (S:=S) λy hy=>h y<|zh _ hy;exact{by simp only[zA,DpAll];exact{_,_,rfl,a,a'},by simp only[zA,PyData.canLayAll0,b,b',Bool.and_self],by simp only[zA,PyData.depthAll];lia}
noncomputable def Gy:List D->List D->Bool|[],[]=>true|x::xs,y::ys=>kj x y&&Gy xs ys|_,_=>false
theorem xg:∀{xs ys:List D},(∀x∈xs,bh x=true)->(∀x∈ys,bh x=true)->(Gy xs ys=true↔xs=ys)|[],[],_,_=>by simp[Gy]|[],_::_,_,_=>by simp[Gy]|_::_,[],_,_=>by simp[Gy]|x::xs,y::ys,h,k=>by unfold Gy;rw[zI,aT (h x zp)<|k y zp,xg (λz hz=>h z<|zh _ hz) λz hz=>k z<|zh _ hz,List.cons.injEq]
theorem QJ(hx:bh x=true)(hy:bh y=true):PyData.eqv (sY x) (sY y)=kj x y:=by cases x<;>cases y<;>first|(cases hx;done)|(cases hy;done)|(simp only[sY,PyData.eqv,kj];done)|(simp only[sY,PyData.eqv,kj];rfl)|(simp only[sY,PyData.eqv,kj];exact beq_eq_decide _ _)
theorem Ey:∀{xs ys:List D},(∀x∈xs,bh x=true)->(∀x∈ys,bh x=true)->PyData.eqvAll (xs.map sY) (ys.map sY)=Gy xs ys|[],[],_,_=>by simp only[yU,PyData.eqvAll,Gy]|[],y::ys,_,_=>by simp only[yU,zA,PyData.eqvAll,Gy]|x::xs,[],_,_=>by simp only[yU,zA,PyData.eqvAll,Gy]|x::xs,y::ys,h,k=>by have a:=QJ (h x zp)<|k y zp;have b:=Ey (λz hz=>h z<|zh _ hz) λz hz=>k z<|zh _ hz;simp only[zA,PyData.eqvAll,a,b,Gy]
noncomputable def J2(xs:List D)(k:Str):PyData:=.tuple [.tuple<|xs.map sY,.str k]
theorem NN(h:∀x∈xs,bh x=true):Dl S (jW xs k) (J2 xs k):=by obtain⟨a,_,_⟩:=xf (S:=S) h;simp only[jW,J2,Dl,Dp,DpAll];exact !{_,_,rfl,!⟨a⟩,_,_,rfl,rfl,rfl}
theorem C3(h:∀x∈xs,bh x=true)(hk:k∈KS):(J2 xs k).canLay0=true/\(J2 xs k).depth<=2:=by obtain⟨_,b,c⟩:=xf (S:=λ_=>none) h;have z:=(fH _ hk).2.2;unfold J2;refine{by simp only[PyData.canLay0,PyData.canLayAll0,z,b,Bool.and_self],?_};simp only[PyData.depth,PyData.depthAll];lia
theorem QK(hx:∀x∈xs,bh x=true)(hy:∀x∈ys,bh x=true):PyData.eqv (J2 xs k) (J2 ys l)=(Gy xs ys&&decide (k=l)):=by have h:=Ey hx hy;simp only[J2,PyData.eqv,PyData.eqvAll,h,Bool.and_true];congr 1
theorem AW(h:Paired (λk x=>Vg k x) ks xs):∀x∈xs,bh x=true:=by induction h with|nil=>exact λ_ h=>(nomatch h)|cons r _ ih=>exact List.forall_mem_cons.mpr ⟨r.2,ih⟩
theorem Vt(hx:∀x∈xs,bh x=true)(hy:∀x∈ys,bh x=true)(hk:k∈KS)(hl:l∈KS)(q:R (.bl<|Gy xs ys&&decide (k=l)) S):DJ false (jW xs k) (jW ys l) S R:=by refine{J2 xs k,J2 ys l,NN hx,NN hy,(C3 hx hk).1,(C3 hy hl).1,.inl<|by have:=(C3 hx hk).2;lia,?_};rw[if_neg ze,QK hx hy];exact q
inductive AX (ds:List D) (S:aw) (R:KD) (Z:KX):Prop where
 |mk (ps:List Part) (wy:Str) (xs:List D) (k:Str) (ys:List D) (l:Str) (ks:List Str) (h0:ds=[bU ps wy,jW xs k,jW ys l]) (h1:ps.length=xs.length) (h2:ps.length=ys.length) (h3:ps.length<=8) (h4:Paired (λk x=>Vg k x) ks xs) (h5:Paired (λk x=>Vg k x) ks ys) (h6:k∈KS) (h7:l∈KS)
  (h8:R (.bl<|decide<|bw (h_ ps wy) (xs++[.str k]) (ys++[.str l])<0) S):AX ds S R Z
theorem Ez(T:Txt w K mg t):Ok P w base T.we 1 AX:=by
 refine T.we.F.bS fg ?_;obtain⟨ps,wy,xs,k,ys,l,ks,e,h1,h2,h8,vx,vy,hk,hl,q⟩;have cU:(ps.map p3).length=ps.length:=zb _;refine{_,(sc (vQ<|DM (JU T.eE<|ac (cb ba T.aX aF<|ac (ix hr.u (dv 0) di) an) an) (gn (i:=3) fg.nd)<|sc (sa (ix hr.u (ix hr.u (dv 0) di)<|dv 3)<|gt (n:=3)<|gc (gn (i:=4) fg.nd)<|gc (gn (i:=5) fg.nd)<|gc (gn (i:=6) fg.nd) g0)<|sc (Zm (i:=7) (j:=8) fg.nd<|ac (ix hr.u (ix hr.u (dv 1) di)<|dv 3)<|ac (ix hr.u (ix hr.u (dv 2) di)<|dv 3) an)<|s1<|si (bj gH hr.u (dv 7)<|dv 8) (sc (si (twd<|twor (bj eP hr.u (dv 7) dn)<|tw1<|bj eP hr.u (dv 8) dn) (s1<|sr<|cm aU hr.u (cm eP hr.u (dv 7) dn)<|cm aU hr.u (dv 6) ds) s0)<|s1<|sr<|cm aU hr.u (cm pW hr.u (dv 7)<|dv 8)<|cm aU hr.u (dv 5) ds) s0)<|sc (si (bj aU hr.u (ix hr.u (dv 1) di)<|ix hr.u (dv 2) di) (s1<|sr db) s0)<|s1<|sr<|cm aU hr.u (cm pW hr.u (ix hr.u (dv 1) di)<|ix hr.u (dv 2) di)<|cm aU hr.u (ix hr.u (dv 0) di) ds),?_};refine{λaB S'=>∃(o3 o4 o5 o6 o7 o8:Option D),aB=[some<|bU ps wy,some<|jW xs k,some<|jW ys l,o3,o4,o5,o6,o7,o8]/\S'=S/\bw (h_ ps wy) (xs++[.str k]) (ys++[.str l])=cV wy "last" (.str k) (.str l),?_,?_};{refine !!!!{by rw[cU];lia,by rw[cU];lia,?_};refine{λi aB S'=>∃(o3 o4 o5 o6 o7 o8:Option D),aB=[some<|bU ps wy,some<|jW xs k,some<|jW ys l,o3,o4,o5,o6,o7,o8]/\S'=S/\bw (h_ ps wy) (xs++[.str k]) (ys++[.str l])=bw (h_ (ps.drop i) wy) (xs.drop i++[.str k]) (ys.drop i++[.str l]),{_,_,_,_,_,_,rfl,rfl,rfl},λ_ _ _ _=>trivial,?_,?_};rintro i d aB S' hd ⟨o3,o4,o5,o6,o7,o8,rfl,rfl,he⟩;obtain⟨hi,rfl⟩:=cB hd;have i1:i<ps.length:=(by rw[cU]at hi;lia);have i2:i<xs.length:=(by lia);have i3:i<ys.length:=(by lia);have e1:=zf i1;have e2:=zf i2;have e3:=zf i3;rw[yi i1,yi i2,yi i3]at he;generalize ps[i]=p at e1 he;generalize xs[i]=y at e2 he;generalize ys[i]=z at e3 he;have he:_=if cV p.2.1 p.2.2 y z=0 then bw (h_ (ps.drop<|i+1) wy) (xs.drop (i+1)++[.str k]) (ys.drop (i+1)++[.str l]) else cV p.2.1 p.2.2 y z:=he;obtain⟨k1,q1,v1⟩:=bO vx e2;obtain⟨k2,q2,v2⟩:=bO vy e3;cases q1.symm.trans q2;have ez:(0:Int)+((i:Nat):Int)=((i:Nat):Int):=Int.zero_add _;have a1:gE (ps.map p3) (0+((i:Nat):Int))=some (p3 p):=(by rw[ez];exact bG<|by rw[zg,e1];rfl);have a2:gE xs (0+((i:Nat):Int))=some y:=(by rw[ez];exact bG e2);have a3:gE ys (0+((i:Nat):Int))=some z:=(by rw[ez];exact bG e3);refine !!!{_,a1,_,rfl,rfl,_,_,rfl,_,_,rfl,_,_,rfl,rfl,?_};refine !!!{_,a2,_,rfl,_,rfl,_,rfl,_,a3,_,_,rfl,?_};refine !!⟨mW v1.2 v2.2 !⟨bQ (λh=>?_) λh=>?_⟩⟩;have h:kj y z=false:=nt h;have mO:y≠z:=λe=>(by rw[(aT v1.2 v2.2).mpr e]at h;cases h);have hc:cV p.2.1 p.2.2 y z≠0:=λe=>mO<|(i5 ⟨k1,v1,v2⟩).mp e;rw[if_neg hc]at he;have hq:R (.bl<|cE ("",p.2.1,p.2.2) y z) S':=(by have:decide (cV p.2.1 p.2.2 y z<0)=cE ("",p.2.1,p.2.2) y z:=(by rw[yu,zR,pI ⟨k1,v1,v2⟩];exact{λh=>h.2,λh=>⟨mO,h⟩});rw[he,this]at q;exact q);unfold cE at hq;have two:(ah y||ah z)=(ah y != ah z):=(by cases e4:ah y<;>cases e5:ah z<;>first|rfl|(exfalso;exact mO<|(cY e4).trans (cY e5).symm));refine !{ah y,rfl,Jm (ah z) (λh=>!!⟨h⟩) ?_};rw[two];refine bQ (λh5=>?_) λh5=>?_;rw[if_pos h5]at hq;exact !!⟨pH<|fo hq⟩;rw[if_neg<|by rw[h5];exact ze]at hq;rw[<-two,Bool.or_eq_false_iff]at h5;rcases lN v1 v2 (aY h5.1) (aY h5.2) with⟨a,b,rfl,rfl⟩|⟨a,b,rfl,rfl⟩;exact !!!⟨pH<|fo hq⟩;exact !!!⟨pH<|fo hq⟩;have h:kj y z=true:=nf h;rw[if_pos<|(i5 ⟨k1,v1,v2⟩).mpr<|(aT v1.2 v2.2).mp h]at he;exact{_,_,_,_,_,_,rfl,rfl,he};{rintro aB S' ⟨o3,o4,o5,o6,o7,o8,rfl,rfl,he⟩;have he:_=bw (h_ (ps.drop (df 0 (((ps.map p3).length:Nat):Int).toNat).length) wy) (xs.drop (df 0 (((ps.map p3).length:Nat):Int).toNat).length++[.str k]) (ys.drop (df 0 (((ps.map p3).length:Nat):Int).toNat).length++[.str l]):=he;rw[bL,cU,show((ps.length:Nat):Int).toNat=ps.length by lia,List.drop_length,h1,List.drop_length,<-h1,h2,List.drop_length]at he;refine fo {_,_,_,_,_,_,rfl,rfl,he.trans ?_};show(if cV wy "last" (.str k) (.str l)=0 then 0 else cV wy "last" (.str k) (.str l))=_;split;{next h=>exact h.symm};rfl}};rintro aB S' ⟨o3,o4,o5,o6,o7,o8,rfl,rfl,he⟩;rw[he]at q;have cm:Cm (.str k) (.str l):={_,kY k hk,kY l hl};refine !!!!!⟨bQ (λh=>?_) λh=>?_⟩;have h:k=l:=zC h;rw[(i5 cm).mpr<|by rw[h]]at q;exact fo q;have h:¬k=l:=zZ h;have mO:D.str k≠.str l:=λe=>h<|D.str.inj e;have e9:decide (cV wy "last" (.str k) (.str l)<0)=(nJ k l==decide (wy ="up")):=by rw[yu,zR,pI cm];exact{λh=>h.2,λh=>⟨mO,h⟩}
 rw[e9]at q;exact !!!!!!⟨pH<|fo q⟩
inductive vd (ds:List D) (S:aw) (R:KD) (Z:KX):Prop where
 |mk (cs ps wy r) (h0:ds=[.tup<|cs.map ay,bU ps wy,ai r]) (h1:Gd cs) (h2:Pin cs ps) (h3:ps.length<=8) (h4:Wg cs r.2) (h5:R (jW (ps.map λp=>aj cs r.2 p.1) r.1) S)
theorem ng(T:Txt w K mg t):Ok P w base T.ke 1 vd:=by
 refine T.ke.F.bS r_ ?_;obtain⟨cs,ps,wy,r,e,hg,hp,h8,hw,q⟩;refine{_,(sc (cj (i:=3) r_.nd<|tQ (N:=["_law_name","_law_kind"]) (src:=[none,none]) (jb (ae uR) ["_law_columns_here","_law_order_here","_law_row","_law_names"] rfl rfl<|by trivial) (GP<|dv 0) (Rn<|show(["_law_name","_law_kind"]:List Str).Nodup by trivial) (j0 rfl rfl) j7 (λ_ _ _ _ _=>nR) λ_ _ _ _ _=>(dv 0))<|s1<|sr<|bY<|ac (ct fU T.bu aW<|ac (tQ (N:=["_law_part","_law_row","_law_names"]) (src:=[none,some 2,some 3]) (jb (ae uR) ["_law_columns_here","_law_order_here","_law_row","_law_names"] rfl rfl<|by trivial) (GP<|ix hr.u (dv 1) di) (oX<|show(["_law_part","_law_row","_law_names"]:List Str).Nodup by trivial) (aR rfl) aS (λ_ _ _ _ _=>nR) λ_ _ _ _ _=>(ix hr.u (ix hr.u (dv 1) di)<|bm zN PySem.F.slot_list_index PySem.F.type_list_index rB (dv 2)<|ac (ix hr.u (dv 0) di) an)) an)<|ac (ix hr.u (dv 2) di) an),?_};refine !{_,.inl rfl,?_};refine comp_map QH trivial (by show(cs.map ay).length<=1000;rw[zb];have:=hg.1;lia) (λd hd Q hQ=>?_) λpn kJ=>?_;obtain⟨c,_,rfl⟩:=zi.mp hd;exact !{rfl,_,_,rfl,_,_,rfl,rfl,_,rfl,hQ};rw[show({cs.map ay,λ_=>True}:nQ).xs=cs.map ay from rfl,AV];have sb:=Sub.new (c:=.lst<|(cs.map Prod.fst).map D.str) kJ;have tw:(S.set pn<|.lst<|(cs.map Prod.fst).map D.str) pn=some (.lst<|(cs.map Prod.fst).map D.str):=aa;generalize S.set pn (.lst<|(cs.map Prod.fst).map D.str)=S1 at sb tw⊢;refine !!{_,.inl rfl,?_};refine comp_map (λd=>match d with|.tup (.str z::_)=>aj cs r.2 z|_=>.au) trivial (by show(ps.map p3).length<=_;rw[zb];lia) (λd hd Q hQ=>?_) λp2 eS=>?_;obtain⟨pt,ZZ,rfl⟩:=zi.mp hd;obtain⟨c,hc,ec⟩:=hp pt ZZ;have lx:=Jx hg hc;have WE:=(kh hg hw hc).1;rw[ec]at lx WE;exact !!!⟨{rfl,_,tw},_,rfl,_,rfl,_,.str pt.1,IY cs pt.1,rfl,tw,rfl,lx.1,lx.2.1,lx.2.2,_,bG WE,hQ⟩;have e3:(ps.map p3).map (λd=>match d with|.tup (.str z::_)=>aj cs r.2 z|_=>.au)=ps.map λp=>aj cs r.2 p.1:=by rw[zy];rfl
 rw[show({ps.map p3,λ_=>True}:nQ).xs=ps.map p3 from rfl,e3];exact{_,_,rfl,.inl aa,_,rfl,_,rfl,cu,S,sb.trans<|.new eS,q}
inductive nh (ds:List D) (S:aw) (R:KD) (Z:KX):Prop where
 |mk (cs ps wy r g) (h0:ds=[bU ps wy,jW (ps.map λp=>aj cs r.2 p.1) r.1,oJ g]) (h1:Gd cs) (h2:Pin cs ps) (h3:ps.length<=8) (h4:Wg cs r.2) (h5:r.1∈KS) (h6:Gp cs ps g) (h7:R (.bl<|gP cs ps wy g r) S)
theorem ve(T:Txt w K mg t):Ok P w base T.iC 2 nh:=by
 refine T.iC.F.bS t6 ?_;obtain⟨cs,ps,wy,r,g,e,hg,hp,h8,hw,hk,hv,q⟩;have vr:=oI hg hp hw;have px:=AW vr;have py:=AW hv.pv;refine{_,(sc (si (bj aU hr.u (dv 1)<|ix hr.u (dv 2) di) (s1<|sr<|cm aU hr.u (ix hr.u (dv 2) di) ds) s0)<|s1<|sr<|aL T.we (Ez T) hr<|al 0<|al 1<|ac (ix hr.u (dv 2) di) an),?_};have z:=jV (ws:=h_ ps wy) qI (iL hg hp hw hk) hv.vs;refine !!!⟨Vt px py hk hv.key !⟨bQ (λh=>?_) λh=>?_⟩⟩;rw[zI,zR,xg px py]at h;have e0:bw (h_ ps wy) (ic cs ps r) (sS g)=0:=z.mpr (by unfold ic sS;rw[h.1,h.2]);refine !!⟨fo ?_⟩;have:gP cs ps wy g r=decide (g.2.2 ="behind"):=by show(decide (bw (h_ ps wy) (ic cs ps r) (sS g)<0)||(decide (bw (h_ ps wy) (ic cs ps r) (sS g)=0)&&_))=_;rw[e0];rfl
 rw[this]at q;exact q;have e0:bw (h_ ps wy) (ic cs ps r) (sS g)≠0:=λe=>by have e:=z.mp e;unfold ic sS at e;have e':=List.append_inj' e rfl;rw[(xg px py).mpr e'.1,zu<|D.str.inj (List.cons.inj e'.2).1]at h;cases h
 refine !!!!{ps,wy,_,_,_,_,_,rfl,by rw[zb],hv.len.symm,h8,vr,hv.pv,hk,hv.key,fo ?_};have:gP cs ps wy g r=decide (bw (h_ ps wy) (ic cs ps r) (sS g)<0):=by show(decide (bw (h_ ps wy) (ic cs ps r) (sS g)<0)||(decide (bw (h_ ps wy) (ic cs ps r) (sS g)=0)&&_))=_;rw[zt e0,zW,Bool.or_false]
 rw[this]at q;exact q
noncomputable def C5(cs:List<|Str×Str)(ps:List Part)(r:Row):D:=.tup [jW (ps.map λp=>aj cs r.2 p.1) r.1,ai r]
noncomputable def Z4(cs:List<|Str×Str)(ps:List Part):D->D|.tup [.str k,.tup ws]=>C5 cs ps (k,ws)|d=>d
noncomputable def QL(cs:List<|Str×Str)(ps:List Part)(wy:Str)(b x:Row):Bool:=decide<|bw (h_ ps wy) (ic cs ps x) (ic cs ps b)<0
theorem An.ix{cs:List<|Str×Str}(hg:Gd cs){ps:List Part}(hp:Pin cs ps){wy:Str}{A:List Row}(h:An cs ps wy A){j:Nat}{b:Row}(e:A[j]?=some b):A.countP (QL cs ps wy b)=j:=by
 have hj:=(zd.mp e).1;have hb:=zx e;have pv:∀r∈A,PV (Vq cs ps) (ic cs ps r):=λr hr=>iL hg hp (h.rg.1 r hr)<|h.ky r hr;have lx:=List.pairwise_iff_getElem.mp<|h.lex hg hp;have lt:∀i i' a a',i<i'->A[i]?=some a->A[i']?=some a'->bw (h_ ps wy) (ic cs ps a) (ic cs ps a')<0:=λi i' a a' hi e1 e2=>by have:=lx i i' (zd.mp e1).1 (zd.mp e2).1 hi;rw[(zd.mp e1).2,(zd.mp e2).2]at this;exact this
 refine(wZ ?_ (yH hj) (λi a hi ei=>zu<|lt i j a b hi ei e) λi a hi ei=>zt ?_).symm;refine(List.Pairwise.and_mem.mp<|h.lex hg hp).imp λ{x y} Qu hy=>?_;exact zu<|CU (pv x Qu.1) (pv y Qu.2.1) (pv b hb) Qu.2.2<|zC hy;rcases Nat.lt_or_ge j i with q|q;have h1:=lt j i b a q e ei;have:=(sQ (pv a<|zx ei)<|pv b hb).mp h1;lia;have:i=j:=by lia
 subst this;rw[e]at ei;cases ei;have:=(jV (ws:=h_ ps wy) qI (pv b hb)<|pv b hb).mpr rfl;lia
noncomputable def fill(B:List Row)(r:Row):D:=if B.any (λx=>decide<|x.1=r.1) then ai r else .au
theorem Jy{cs:List<|Str×Str}{A B:List Row}(hr:Rg cs A){i j:Nat}{b:Row}(eb:B[i]?=some b)(ej:A[j]?=some b):(A.map<|fill<|B.take i).set j (ai b)=A.map (fill<|B.take<|i+1):=by have hj:=(zd.mp ej).1;refine List.ext_getElem? λm=>?_;by_cases e:m=j;subst e;rw[List.getElem?_set_self<|by rw[zb];exact hj,zg,ej];show some (ai b)=some (fill _ b);unfold fill;rw[take_snoc eb,List.any_append,show([b].any λx=>decide<|x.1=b.1)=true by simp,Bool.or_true];rfl;rw[List.getElem?_set_ne<|Ne.symm e,zg,zg];cases ea:A[m]? with|none=>rfl|some a=>show some (fill _ a)=some (fill _ a);have mO:b.1≠a.1:=λq=>(by have h1:(A.map Prod.fst)[m]?=some a.1:=(by rw[zg,ea];rfl);have h2:(A.map Prod.fst)[j]?=some a.1:=(by rw[zg,ej,<-q];rfl);obtain⟨b1,c1⟩:=zd.mp h1;obtain⟨b2,c2⟩:=zd.mp h2;exact e<|(List.getElem_inj hr.2 (h₀:=b1) (h₁:=b2)).mp<|c1.trans c2.symm);unfold fill;rw[take_snoc eb,List.any_append,show([b].any λx=>decide<|x.1=a.1)=false by simp[mO],Bool.or_false]
theorem Jz{A B:List Row}(h:∀r∈A,r∈B):A.map (fill B)=A.map ai:=zS λr hr=>by unfold fill;rw[if_pos<|List.any_eq_true.mpr {r,h r hr,zu rfl}]
theorem EA{g:Row->Bool} : ∀l:List Row,(l.map λx=>if g x then (1:Int) else 0).sum=((l.countP g:Nat):Int)|[]=>rfl|x::l=>by rw[zA,List.sum_cons,EA l,List.countP_cons];cases g x<;>simp<;>lia
theorem Ms{n j:Nat}(h:j<n):Ds n ((j:Nat):Int)=some j:=by unfold Ds;rw[if_pos<|by lia,if_pos<|by lia];rfl
inductive vf (ds:List D) (S:aw) (R:KD) (Z:KX):Prop where
 |mk (cs:List<|Str×Str) (ps:List Part) (wy:Str) (d:D) (lr:Addr) (rows A:List Row) (h0:ds=[.tup<|cs.map ay,bU ps wy,d,.ref lr]) (h1:Gd cs) (h2:Og cs ps wy) (h3:Sg cs 7 d) (h4:S lr=some (.lst<|rows.map ai)) (h5:rows.length<=100) (h6:Rg cs rows) (h7:Ew rows) (h8:J1 cs ps wy 7 d rows A)
  (h9:∀p,S p=none->R (.ref p) (S.set p<|.lst<|A.map ai)):vf ds S R Z
theorem oK(T:Txt w K mg t):Ok P w base T.mB 11 vf:=by
 refine T.mB.F.bS fC ?_;obtain⟨cs,ps,wy,d,lr,rows,A,e,hg,ho,hd,tR,Vu,GV,hk,hA,q⟩;have h8:=ho.len;refine{_,(sc (HQ (i:=5) (N:=["_law_row","_law_columns_here","_law_order_here","_law_sieve_here"]) (src:=[none,some 0,some 1,some 2]) fC.nd (jb (ae uS) ["_law_columns_here","_law_order_here","_law_sieve_here","_law_rows_here","_law_row","_law_some","_law_found","_law_place_here"] rfl rfl<|by trivial) (il<|dv 3) (oX<|show(["_law_row","_law_columns_here","_law_order_here","_law_sieve_here"]:List Str).Nodup by trivial) (aR rfl) aS (λ_ _ _ _ _=>(if1<|tv<|aL T.gR (lR T 7) hr<|al 1<|al 3<|al 0 an)) λ_ _ _ _ _=>(bY<|ac (aL T.ke (ng T) hr<|al 1<|al 2<|al 0 an)<|al 0 an))<|sc (cj (i:=6) fC.nd<|bo PY hr.u (cz<|ac dn an)<|cb ba T.aX aF<|al 5 an)<|sc (vQ<|DM (il<|dv 5) (gt (n:=2)<|gc (gn (i:=7) fC.nd)<|gc (gn (i:=4) fC.nd) g0)<|s1<|sls (dv 6) (cb UY T.U4 Pn<|ac (tQ (N:=["_law_other","_law_more","_law_order_here","_law_place_here"]) (src:=[none,none,some 1,some 7]) (jb (ae uS) ["_law_columns_here","_law_order_here","_law_sieve_here","_law_rows_here","_law_row","_law_some","_law_found","_law_place_here"] rfl rfl<|by trivial) (il<|dv 5) (Rn<|show(["_law_other","_law_more","_law_order_here","_law_place_here"]:List Str).Nodup by trivial) (j0 rfl rfl) j7 (λ_ _ _ _ _=>nR) λ_ _ _ _ _=>(ct DK T.Ao q8<|ac (aL T.we (Ez T) hr<|al 2<|al 0<|al 3 an) an)) an)<|dv 4)<|s1<|sr<|dv 6),?_};refine !{_,tR,?_};refine gX (AN cs d) (Z4 cs ps) tR (by show(rows.map ai).length<=_;rw[zb];lia) (λx hx Q Q' hQ LZ=>?_) λls hls=>?_;obtain⟨r,jc,rfl⟩:=zi.mp hx;exact !!!{cs,d,r,rfl,hg,hd,GV.1 r jc,_,rfl,bQ (λh=>!!!{cs,ps,wy,r,rfl,hg,ho.pin,h8,GV.1 r jc,_,rfl,cu,hQ h}) λh=>LZ h};have eB:((({rows.map ai,λS=>S lr=some (.lst<|rows.map ai)}:nQ).xs.filter<|AN cs d).map<|Z4 cs ps)=(rows.filter λr=>bq cs r 7 d).map (C5 cs ps):=by show(((rows.map ai).filter<|AN cs d).map<|Z4 cs ps)=_;rw[List.filter_map,zy];rfl
 rw[eB];have NC:=hA.pm;have hB:∀x∈rows.filter (λr=>bq cs r 7 d),Wg cs x.2/\x.1∈KS:=λx hx=>{GV.1 x (yh.mp hx).1,hk x (yh.mp hx).1};have hBl:(rows.filter λr=>bq cs r 7 d).length<=100:=zD (ym _ _) Vu;generalize (rows.filter λr=>bq cs r 7 d)=B at NC hB hBl⊢;have s1:=Sub.new (c:=.lst<|B.map<|C5 cs ps) hls;have QM:(S.set ls<|.lst<|B.map<|C5 cs ps) ls=some (.lst<|B.map<|C5 cs ps):=aa;generalize S.set ls (.lst<|B.map<|C5 cs ps)=S1 at s1 QM⊢;have ml:(B.map<|C5 cs ps).length=B.length:=zb _;refine{sj,λp0 Ec=>!!⟨.inl {_,(Sub.new Ec) _ _ QM,p0,.au,_,rfl,rfl,aa,by lia,by rw[ml];lia,λlf Bd=>?_}⟩};have e0:List.replicate (((B.map<|C5 cs ps).length:Nat):Int).toNat D.au=A.map (fill<|B.take 0):=by rw[ml,show((B.length:Nat):Int).toNat=A.length by rw[NC.length_eq];lia];exact(List.map_const' ..).symm
 rw[e0];have s2:=s1.trans<|Sub.new (c:=.lst [.au]) Ec;have JA:=(Sub.new (c:=.lst [D.au]) Ec) _ _ QM;generalize S1.set p0 (.lst [.au])=S2 at s2 JA Bd⊢;have RK:ls≠lf:=gx JA Bd;have Qo:S lf=none:=cO s2 Bd;refine{λaB S'=>∃(o6 o7:Option D),aB=[some<|.tup<|cs.map ay,some<|bU ps wy,some d,some<|.ref lr,o6,some<|.ref ls,some<|.ref lf,o7]/\Sub (S2.set lf<|.lst<|A.map ai) S',?_,?_};refine !{_,(ag RK).trans JA,?_};refine{λi aB S'=>∃(o6 o7:Option D),aB=[some<|.tup<|cs.map ay,some<|bU ps wy,some d,some<|.ref lr,o6,some<|.ref ls,some<|.ref lf,o7]/\Sub (S2.set lf<|.lst<|A.map<|fill<|B.take i) S',{none,none,rfl,.refl _},?_,?_,?_};rintro i aB S' ⟨_,_,_,sb⟩;exact sb _ _<|(ag RK).trans JA;rintro i x aB S' hx ⟨o6,o7,rfl,sb⟩;have hx:(B.map<|C5 cs ps)[i]?=some x:=hx;rw[zg]at hx;cases eb:B[i]? with|none=>(rw[eb]at hx;cases hx)|some b=>rw[eb]at hx;cases hx;have Vv:=zx eb;obtain⟨j,ej⟩:=yt<|NC.mem_iff.mpr Vv;have hjA:=(zd.mp ej).1;refine !{rfl,_,_,rfl,_,_,rfl,rfl,?_};have Vx:=sb _ _<|(ag RK).trans JA;have vb:=iL hg ho.pin (hB b Vv).1 (hB b Vv).2;refine !!!{_,Vx,?_};refine fF (λe v=>∃y∈B,e=C5 cs ps y/\v=.int (if QL cs ps wy b y then 1 else 0)) Vx (by show(B.map<|C5 cs ps).length<=_;lia) (λe he Q hQ=>?_) λout pY p hp=>?_;obtain⟨y,hy,rfl⟩:=zi.mp he;exact !{rfl,_,_,rfl,_,_,rfl,rfl,_,rfl,_,rfl,_,rfl,ps,wy,_,_,_,_,_,rfl,by rw[zb],by rw[zb],h8,oI hg ho.pin (hB y hy).1,oI hg ho.pin (hB b Vv).1,(hB y hy).2,(hB b Vv).2,.inr !⟨hQ _ ⟨y,hy,rfl,rfl⟩⟩};have eo:out=(B.map λy=>if QL cs ps wy b y then (1:Int) else 0).map D.int:=(by have:∀{L:List Row}{out:List D},Paired (λe v=>∃y∈B,e=C5 cs ps y/\v=D.int (if QL cs ps wy b y then 1 else 0)) (L.map<|C5 cs ps) out->out=(L.map λy=>if QL cs ps wy b y then (1:Int) else 0).map D.int:=(by intro L;induction L with|nil=>(intro out h;cases h;rfl)|cons z L ih=>intro out h;cases h with|cons r t=>obtain⟨y,_,e1,e2⟩:=r;have:z=y:=(by unfold C5 ai at e1;injection e1 with e1;injection e1 with _ e1;injection e1 with e1 _;injection e1 with e1;injection e1 with a1 e1;injection e1 with a2 _;injection a1 with a1;injection a2 with a2;exact Prod.ext a1 a2);rw[e2,ih t,<-this];rfl);exact this pY);subst eo;have ec:((B.map λy=>if QL cs ps wy b y then (1:Int) else 0).sum)=((j:Nat):Int):=(by rw[EA,<-NC.countP_eq,hA.an.ix hg ho.pin ej]);refine{_,_,rfl,aa,?_};rw[ec];have hF:(S'.set p<|.lst<|(B.map λy=>if QL cs ps wy b y then (1:Int) else 0).map D.int) lf=some (.lst<|A.map<|fill<|B.take i):=(Sub.new hp) _ _<|sb _ _ aa;refine{lf,_,((j:Nat):Int),j,rfl,rfl,hF,Ms<|by rw[zb];exact hjA,_,_,rfl,?_};rw[Jy hA.an.rg eb ej];exact Jo<|sb.trans<|.new hp
 rintro aB S' ⟨o6,o7,rfl,sb⟩;have sb:Sub (S2.set lf<|.lst<|A.map<|fill<|B.take (B.map<|C5 cs ps).length) S':=sb;rw[ml,yz,Jz λr hr=>NC.mem_iff.mp hr]at sb;exact fo {_,_,rfl,sb};rintro aB S' ⟨o6,o7,rfl,sb⟩;exact !{_,(dN s2).trans sb,q lf Qo}
noncomputable def Vy(cs:List<|Str×Str)(ps:List Part)(wy:Str):Option tD->Row->Bool|none,_=>true|some g,r=>!gP cs ps wy g r
noncomputable def RL(cs:List<|Str×Str)(ps:List Part)(wy:Str):Option tD->Row->Bool|none,_=>true|some g,r=>gP cs ps wy g r
noncomputable def ku(cs:List<|Str×Str)(ps:List Part)(wy:Str)(f g:Option tD)(r:Row):Bool:=Vy cs ps wy f r&&RL cs ps wy g r
theorem qJ:∀{l:List α}{b e:Nat},(∀i a,l[i]?=some a->(p a=true↔b<=i/\i<e))->l.filter p=(l.drop b).take (e-b)
 |[],_,_,_=>by simp
 |x::l,0,0,h=>by
  have ih:=qJ (l:=l) (b:=0) (e:=0) λi a ei=>(h (i+1) a ei).trans (by lia);have hx:¬p x=true:=λq=>by have:=(h 0 x rfl).mp q;lia
  rw[yq,if_neg hx,ih];simp
 |x::l,0,e+1,h=>by have ih:=qJ (l:=l) (b:=0) (e:=e) λi a ei=>(h (i+1) a ei).trans (by lia);rw[yq,if_pos<|(h 0 x rfl).mpr<|by lia,ih];simp
 |x::l,b+1,e,h=>by
  have ih:=qJ (l:=l) (b:=b) (e:=e-1) λi a ei=>(h (i+1) a ei).trans (by lia);have hx:¬p x=true:=λq=>by have:=(h 0 x rfl).mp q;lia
  rw[yq,if_neg hx,ih,List.drop_succ_cons,show e-1-b=e-(b+1) by lia]
theorem An.Z5(hg:Gd cs)(hp:Pin cs ps)(h:An cs ps wy A)(hf:Bg cs ps f)(hh:Bg cs ps g):(A.filter<|ku cs ps wy f g).map ai=b_ (A.map ai) (some ((uk cs ps wy A 0 f:Nat):Int)) (some ((uk cs ps wy A A.length g:Nat):Int)):=by
 have e1:=w6 (cs:=cs) (ps:=ps) (wy:=wy) (zT A.length) f;have e2:=w6 (cs:=cs) (ps:=ps) (wy:=wy) (zq A.length) g;unfold b_;rw[HT.sIx_nat,HT.sIx_nat,zb,Nat.min_eq_left e1,Nat.min_eq_left e2,<-List.map_drop,<-List.map_take];congr 1;refine qJ λi a ei=>?_;have hi:=(zd.mp ei).1;unfold ku;rw[zI];have l1:Vy cs ps wy f a=true↔uk cs ps wy A 0 f<=i:=by cases f with|none=>exact{λ_=>zT _,λ_=>rfl}|some f=>have:=sR (h.mono hg hp<|hf f rfl) ei;show(!gP cs ps wy f a)=true↔A.countP (gP cs ps wy f)<=i;cases q:gP cs ps wy f a<;>simp[q]at this⊢<;>lia
 have l2:RL cs ps wy g a=true↔i<uk cs ps wy A A.length g:=by cases g with|none=>exact{λ_=>hi,λ_=>rfl}|some g=>exact sR (h.mono hg hp<|hh g rfl) ei
 rw[l1,l2]
inductive pM (ds:List D) (S:aw) (R:KD) (Z:KX):Prop where
 |mk (cs:List<|Str×Str) (ps:List Part) (wy:Str) (lr:Addr) (A:List Row) (f g:Option tD) (h0:ds=[.tup<|cs.map ay,bU ps wy,.ref lr,tE f,tE g]) (h1:Gd cs) (h2:Og cs ps wy) (h3:S lr=some (.lst<|A.map ai)) (h4:An cs ps wy A) (h5:A.length<=100) (h6:Bg cs ps f) (h7:Bg cs ps g)
  (h8:∀p,S p=none->R (.ref p) (S.set p<|.lst<|(A.filter<|ku cs ps wy f g).map ai)):pM ds S R Z
theorem lS(T:Txt w K mg t):Ok P w base T.gT 3 pM:=by
 refine T.gT.F.bS dJ ?_;obtain⟨cs,ps,wy,lr,A,f,g,e,hg,ho,tR,hA,Vu,hf,hh,q⟩;have h8:=ho.len;refine{_,(sc (cj (i:=5) dJ.nd<|cz an)<|sc (vQ<|DM (il<|dv 2) (gn (i:=6) dJ.nd)<|sc (cj (i:=7) dJ.nd<|aL T.ke (ng T) hr<|al 0<|al 1<|al 6 an)<|sc (cj (i:=8) dJ.nd<|eor (cm eP hr.u (dv 3) dn)<|Fm<|Li<|aL T.iC (ve T) hr<|al 1<|al 7<|al 3 an)<|s1<|si (twd<|twand (tv<|dv 8)<|tw1<|twd<|twor (bj eP hr.u (dv 4) dn)<|tw1<|tv<|aL T.iC (ve T) hr<|al 1<|al 7<|al 4 an) (s1<|se<|bm zN zX zY cA (dv 5)<|al 6 an) s0)<|s1<|sr<|dv 5),?_};refine{mH,λlf Bd=>?_};have RK:lr≠lf:=gx tR Bd;refine{λaB S'=>∃(o6 o7 o8:Option D),aB=[some<|.tup<|cs.map ay,some<|bU ps wy,some<|.ref lr,some<|tE f,some<|tE g,some<|.ref lf,o6,o7,o8]/\S'=S.set lf (.lst<|(A.filter<|ku cs ps wy f g).map ai),?_,?_};refine !{_,(ag RK).trans tR,?_};refine{λi aB S'=>∃(o6 o7 o8:Option D),aB=[some<|.tup<|cs.map ay,some<|bU ps wy,some<|.ref lr,some<|tE f,some<|tE g,some<|.ref lf,o6,o7,o8]/\S'=S.set lf (.lst<|((A.take i).filter<|ku cs ps wy f g).map ai),{_,_,_,rfl,rfl},?_,?_,?_};rintro i aB S' ⟨_,_,_,_,rfl⟩;exact(ag RK).trans tR;rintro i x aB S' hx ⟨o6,o7,o8,rfl,rfl⟩;have hx:(A.map ai)[i]?=some x:=hx;rw[zg]at hx;cases er:A[i]? with|none=>(rw[er]at hx;cases hx)|some r=>rw[er]at hx;cases hx;have hi:=(zd.mp er).1;have hrA:=zx er;have hw:=hA.rg.1 r hrA;have hk:=hA.ky r hrA;have hF:(S.set lf<|.lst<|((A.take i).filter<|ku cs ps wy f g).map ai) lf=some (.lst<|((A.take i).filter<|ku cs ps wy f g).map ai):=aa;have WG:(((A.take i).filter<|ku cs ps wy f g).map ai).length<sizeLine:=bg (by rw[zb];exact zD (ym _ _)<|zD (List.length_take_le _ _)<|by lia);have yes:ku cs ps wy f g r=true->(S.set lf<|.lst<|((A.take i).filter<|ku cs ps wy f g).map ai).set lf (.lst<|((A.take i).filter<|ku cs ps wy f g).map ai++[ai r])=S.set lf (.lst<|((A.take<|i+1).filter<|ku cs ps wy f g).map ai):=λh=>(by rw[cF,take_snoc er,List.filter_append,zJ,yq,if_pos h];rfl);have no:ku cs ps wy f g r=false->S.set lf (.lst<|((A.take i).filter<|ku cs ps wy f g).map ai)=S.set lf (.lst<|((A.take<|i+1).filter<|ku cs ps wy f g).map ai):=λh=>(by rw[take_snoc er,List.filter_append,yq,if_neg<|by rw[h];exact ze];simp);unfold ku at yes no;refine !!!{cs,ps,wy,r,rfl,hg,ho.pin,h8,hw,?_};cases f with|none=>(refine !!⟨iH rfl !!⟨iH rfl ?_⟩⟩;cases g with|none=>exact (!!⟨iH rfl<|iH rfl !⟨{rfl,_,hF},_,rfl,lf,_,_,rfl,rfl,hF,WG,_,_,_,rfl,yes rfl⟩⟩)|some g=>refine !!⟨bx rfl !!!{cs,ps,wy,r,g,rfl,hg,ho.pin,h8,hw,hk,hh g rfl,_,rfl,bQ (λh=>?_) λh=>?_}⟩;exact{_,rfl,{rfl,_,hF},_,rfl,lf,_,_,rfl,rfl,hF,WG,_,_,_,rfl,yes<|by rw[show RL cs ps wy (some g) r=true from h];rfl};exact{_,_,_,rfl,no<|by rw[show RL cs ps wy (some g) r=false from h,Bool.and_false]})|some f=>refine !!⟨bx rfl !!!{cs,ps,wy,r,f,rfl,hg,ho.pin,h8,hw,hk,hf f rfl,_,rfl,!!⟨bQ (λh=>?_) λh=>?_⟩}⟩;(cases g with|none=>exact (!!⟨iH rfl<|iH rfl !⟨{rfl,_,hF},_,rfl,lf,_,_,rfl,rfl,hF,WG,_,_,_,rfl,yes<|by rw[show Vy cs ps wy (some f) r=true from h];rfl⟩⟩)|some g=>refine !!⟨bx rfl !!!{cs,ps,wy,r,g,rfl,hg,ho.pin,h8,hw,hk,hh g rfl,_,rfl,bQ (λh2=>?_) λh2=>?_}⟩;exact{_,rfl,{rfl,_,hF},_,rfl,lf,_,_,rfl,rfl,hF,WG,_,_,_,rfl,yes<|by rw[show Vy cs ps wy (some f) r=true from h,show RL cs ps wy (some g) r=true from h2];rfl};exact{_,_,_,rfl,no<|by rw[show RL cs ps wy (some g) r=false from h2,Bool.and_false]});exact a_ {_,_,_,rfl,no<|by rw[show Vy cs ps wy (some f) r=false from h,zW]}
 rintro aB S' ⟨o6,o7,o8,rfl,rfl⟩;rw[show({A.map ai,λS=>S lr=some (.lst<|A.map ai)}:nQ).xs.length=A.length from zb _,yz];exact fo {_,_,_,rfl,rfl};rintro aB S' ⟨o6,o7,o8,rfl,rfl⟩;exact{_,rfl,fo<|q lf Bd}
inductive AY (ds:List D) (S:aw) (R:KD) (Z:KX):Prop where
 |mk (x:Int) (h0:ds=[.int x]) (h1:∀n:Nat,1<=n->n<=1000->R (.int (n:Nat)) S)
theorem Mt(T:Txt w K mg t):Ok P w base T.Co 1 AY:=by
 refine T.Co.F.bS FV ?_;obtain⟨x,e,q⟩;refine{_,(s1<|sr<|uM<|ix hr.u (cz<|ac di<|ac di<|ac di<|ac (bo bB hr.u di<|bo bp hr.u (bo bR hr.u (dv 0) di) di)<|ac di<|ac (bo bB hr.u di<|bo bp hr.u (bo bR hr.u (dv 0) di) di) an)<|bo bp hr.u (dv 0) di),?_};have a0:0<=x/6%9:=zO _ (by decide);have a1:x/6%9<9:=zL _ (by decide);have b0:0<=x/6%30:=zO _ (by decide);have b1:x/6%30<30:=zL _ (by decide);refine{_,rfl,{by decide,by trivial},by decide,_,rfl,{by decide,by trivial},by decide,Zv,λp hp=>!{by decide,bN (zO _<|by decide) (zL _<|by decide) hp λd hd=>?_}};have hd:d∈[D.int 1,.int 2,.int 3,.int<|1+x/6%9,.int 1000,.int<|13+x/6%30]:=hd;have one:∀i:Int,d=.int i->1<=i->i<=1000->Fo S (R d):=λi e h1 h2=>by obtain⟨m,rfl⟩:=Int.eq_ofNat_of_zero_le (show 0<=i by lia);rw[e];exact fo<|q m (by lia)<|by lia
 simp only[zj,zM,or_false]at hd;rcases hd with h|h|h|h|h|h<;>exact one _ h (by lia) (by lia)
inductive xh (ds:List D) (S:aw) (R:KD) (Z:KX):Prop where
 |mk (cs:List<|Str×Str) (ps:List Part) (wy:Str) (c:Int) (h0:ds=[.tup<|cs.map ay,bU ps wy,.int c]) (h1:Gd cs) (h2:Og cs ps wy) (h3:∀g,Gp cs ps g->R (oJ g) S)
theorem EB(hd:d∈[D.str "ahead",.str "behind"]):∃sd:Str,d=.str sd/\AS sd=true:=by simp only[zj,zM,or_false]at hd;rcases hd with h|h;exact{_,h,by trivial};exact{_,h,by trivial}
theorem Mu(T:Txt w K mg t):Ok P w base T.IF 2 xh:=by
 refine T.IF.F.bS mF ?_;obtain⟨cs,ps,wy,c0,e,hg,ho,q⟩;have h8:=ho.len;have cU:(ps.map p3).length=ps.length:=zb _;refine{_,(sc (cj (i:=3) mF.nd<|aL T.gf (hG T) hr<|al 2<|ac di an)<|sc (cj (i:=4) mF.nd<|ct HW T.IA Dz<|al 0 an)<|sc (HQ (i:=5) (N:=["_law_k","_law_kinds","_law_xs","_law_order_here"]) (src:=[none,some 4,some 3,some 1]) mF.nd (jb (ae LR) ["_law_columns_here","_law_order_here","_law_cell","_law_xs","_law_kinds","_law_values"] rfl rfl<|by trivial) (JU T.eE<|ac (cb ba T.aX aF<|ac (ix hr.u (dv 1) di) an) an) (oX<|show(["_law_k","_law_kinds","_law_xs","_law_order_here"]:List Str).Nodup by trivial) (aR rfl) aS (λ_ _ _ _ _=>nR) λ_ _ _ _ _=>(aL T.mz (sE T) hr<|ac (ix hr.u (dv 1)<|ix hr.u (ix hr.u (ix hr.u (dv 3) di)<|dv 0) di)<|ac (ix hr.u (dv 2)<|bo bB hr.u di<|dv 0) an))<|s1<|sr<|bY<|ac (bY<|ac (ct fU T.bu aW<|al 5 an)<|ac (aL T.Aq (CF T) hr<|ac (ix hr.u (dv 3) di) an) an)<|ac (uM<|ix hr.u (cz<|ac ds<|ac ds an)<|bo bp hr.u (ix hr.u (dv 3) di) di) an),?_};refine !{c0,10,rfl,by decide,λxs lx JX hx xQ=>?_};have s1:=Sub.new (c:=.lst<|xs.map D.int) xQ;have hX:(S.set lx<|.lst<|xs.map D.int) lx=some (.lst<|xs.map D.int):=aa;generalize S.set lx (.lst<|xs.map D.int)=S1 at s1 hX⊢;have at_:∀k:Nat,k<10->∃x:Int,gE (xs.map D.int) ((k:Nat):Int)=some (.int x)/\0<=x:=λk hk=>mP (by lia) (by rw[zb];lia) hx;obtain⟨x0,e0,_⟩:=at_ 0 (by decide);obtain⟨x1,e1,_⟩:=at_ 1 (by decide);have ek:cs.map ay=(cs.map λc=>(c.1,D.str c.2)).map DQ:=by rw[zy];rfl
 refine !{(cs.map λc=>(c.1,D.str c.2)),by rw[ek],λpd RM=>?_};have g1:=s1.trans<|Sub.new (c:=.c_<|fj<|cs.map λc=>(c.1,D.str c.2)) RM;have xw:=(Sub.new (c:=.c_<|fj<|cs.map λc=>(c.1,D.str c.2)) RM) _ _ hX;have d1:(S1.set pd<|.c_<|fj<|cs.map λc=>(c.1,D.str c.2)) pd=some (.c_<|fj<|cs.map λc=>(c.1,D.str c.2)):=aa;generalize S1.set pd (.c_<|fj<|cs.map λc=>(c.1,D.str c.2))=S2 at g1 xw d1⊢;refine !!!!{by rw[cU];lia,by rw[cU];lia,?_};rw[cU];refine fF (λd v=>∃(j:Nat)(p:Part),d=.int (0+(j:Nat))/\ps[j]?=some p/\Vg (Gx cs p.1) v) trivial (by show(df 0 _).length<=_;rw[bL];lia) (λd hd Q hQ=>?_) λout pY p kJ=>?_;obtain⟨j,hj⟩:=yt hd;have hj:(df 0 ((ps.length:Nat):Int).toNat)[j]?=some d:=hj;obtain⟨hjn,rfl⟩:=cB hj;have ZI:j<ps.length:=by lia
 have ec:=zf ZI;generalize ps[j]=pt at ec;obtain⟨c,hc,ZW⟩:=ho.pin pt<|zx ec;obtain⟨xj,Z6,_⟩:=at_ (2+j) (by lia);have Z6:gE (xs.map D.int) (2+(0+((j:Nat):Int)))=some (.int xj):=by rw[show(2:Int)+(0+((j:Nat):Int))=((2+j:Nat):Int) by lia];exact Z6
 have ez:(0:Int)+((j:Nat):Int)=((j:Nat):Int):=Int.zero_add _;have h1:=uN (cs.map λc=>(c.1,D.str c.2)) pt.1;rw[show(cs.map λc=>(c.1,D.str c.2)).any (λq=>decide<|q.1=pt.1)=true from List.any_eq_true.mpr {_,zi.mpr ⟨c,hc,rfl⟩,zu ZW}]at h1;cases q3:bZ (fj<|cs.map λc=>(c.1,D.str c.2)) (.inr pt.1) with|none=>(rw[q3]at h1;cases h1)|some d=>obtain⟨p',RB,e1,rfl⟩:=mT _ _ q3;obtain⟨c',J6,rfl⟩:=zi.mp RB;have e1:c'.1=pt.1:=e1;have Vd:Gx cs pt.1=c'.2:=(by unfold Gx;rw[<-e1,(oA hg J6).1];rfl);exact !!!!{p3 pt,by rw[ez];exact bG<|by rw[zg,ec];rfl,_,rfl,_,_,d1,q3,_,rfl,_,rfl,_,_,xw,Z6,c'.2,xj,rfl,λv hv=>hQ v {j,pt,rfl,ec,by rw[Vd];exact hv}}
 have hv:Paired (λk x=>Vg k x) (ps.map λp=>Gx cs p.1) out:=by have hlen:=yN pY;rw[show({df 0 ((ps.length:Nat):Int).toNat,λ_=>True}:nQ).xs=df 0 ((ps.length:Nat):Int).toNat from rfl,bL]at hlen;refine oy (by rw[zb];lia) λj k v ek ev=>?_;obtain⟨d,hd,j',p',e1,e2,hv⟩:=bO pY ev;have hd:(df 0 ((ps.length:Nat):Int).toNat)[j]?=some d:=hd;obtain⟨_,e3⟩:=cB hd;rw[e3]at e1;have e1:(0:Int)+((j:Nat):Int)=0+((j':Nat):Int):=D.int.inj e1;obtain rfl:j=j':=(by lia);rw[zg,e2]at ek;cases ek;exact hv
 have g2:=g1.trans<|Sub.new (c:=.lst out) kJ;have RN:=(Sub.new (c:=.lst out) kJ) _ _ xw;have V2:(S2.set p<|.lst out) p=some (.lst out):=aa;generalize S2.set p (.lst out)=S3 at g2 RN V2⊢;refine !{_,_,rfl,.inl V2,_,rfl,_,_,RN,e0,x0,rfl,λz hz=>{cu,cu,λp hp=>!{_,_,(Sub.new hp) _ _ RN,e1,by decide,bN (zO _<|by decide) (zL _<|by decide) hp λd hd=>?_}}};obtain⟨sd,rfl,Z7⟩:=EB hd;exact{cu,S,g2,q (out,z,sd) ⟨hv,hz,Z7⟩}
inductive nj (ds:List D) (S:aw) (R:KD) (Z:KX):Prop where
 |mk (cs:List<|Str×Str) (ps:List Part) (wy:Str) (lr:Addr) (rows:List Row) (x:Int) (h0:ds=[.tup<|cs.map ay,bU ps wy,.ref lr,.int x]) (h1:Gd cs) (h2:Og cs ps wy) (h3:S lr=some (.lst<|rows.map ai)) (h4:Rg cs rows) (h5:Ew rows) (h6:∀b,Bg cs ps b->R (tE b) S)
theorem pN(T:Txt w K mg t):Ok P w base T.iD 3 nj:=by
 refine T.iD.F.bS t9 ?_;obtain⟨cs,ps,wy,lr,rows,x,e,hg,ho,tR,GV,hk,q⟩;refine{_,(sc (si (bj aU hr.u (bo bp hr.u (dv 3) di) di) (s1<|sr dn) s0)<|sc (si (twd<|twand (bj pW hr.u (bo bp hr.u (dv 3) di) di)<|tw1<|bj gH hr.u (dv 2)<|cz an) (s1<|sr<|bY<|ac (aL T.ke (ng T) hr<|al 0<|al 1<|ac (ix hr.u (dv 2)<|bo bp hr.u (bo bR hr.u (dv 3) di)<|cb ba T.aX aF<|al 2 an) an)<|ac (uM<|ix hr.u (cz<|ac ds<|ac ds an)<|bo bp hr.u (bo bR hr.u (dv 3) di) di) an) s0)<|s1<|sr<|aL T.IF (Mu T) hr<|al 0<|al 1<|ac (bo bR hr.u (dv 3) di) an),?_};refine !{by decide,_,rfl,bQ (λ_=>fo<|q none nofun) λ_=>?_};have last:∀{S'},Sub S S'->xh [.tup<|cs.map ay,bU ps wy,.int<|x/8] S' (λd RO=>Fo RO<|R d) (λC RO=>Fo RO<|Z C):=λsb=>{cs,ps,wy,_,rfl,hg,ho,λg Uu=>{S,sb,q (some g) λg' e=>by cases e;exact Uu}};refine !{by decide,_,rfl,bQ (λ_=>?_) λ_=>a_ !!!⟨{by decide,by trivial},last<|.refl _⟩};refine !{mH,λp2 eS=>Mh ((Sub.new eS) _ _ tR) aa (gs GV hk) !⟨bQ (λh2=>?_) λh2=>?_⟩};have h2:(!(rows.map ai).isEmpty)=true:=h2;have vF:0<rows.length:=by cases rows with|nil=>(cases h2)|cons _ _=>exact Nat.succ_pos _
 have ml:(rows.map ai).length=rows.length:=zb _;have s1:=Sub.new (c:=.lst []) eS;have GI:=s1 _ _ tR;generalize S.set p2 (.lst [])=S1 at s1 GI⊢;obtain⟨d,e1,e2⟩:=qw (l:=rows.map ai) (i:=x/16%(((rows.map ai).length:Nat):Int)) (zO _<|by lia)<|zL _ (by lia);obtain⟨r,jc,rfl⟩:=zi.mp<|zx e2;refine !!!!⟨{by decide,by trivial},_,rfl,_,rfl,.inl {_,GI,by lia,_,_,GI,e1,cs,ps,wy,r,rfl,hg,ho.pin,ho.len,GV.1 r jc,cu,λp hp=>!⟨{by decide,by trivial},by decide,bN (zO _<|by decide) (zL _<|by decide) hp λd hd=>?_⟩}⟩;obtain⟨sd,rfl,Z7⟩:=EB hd;exact{cu,S,s1,q (some<|Ex cs ps sd r) λg e=>by cases e;exact sW hg ho.pin (GV.1 r jc) (hk r jc) Z7};exact !!!⟨{by decide,by trivial},last<|.new eS⟩
theorem EC(hg:Gd cs)(hp:Pin cs ps):∀{B:List Row},Rg cs B->∃A:List Row,A.Perm B/\A.Pairwise λa b=>bH cs wy ps a b=true|[],_=>{[],.refl _,.nil}|x::B,hr=>by obtain⟨A,pm,pw⟩:=EC hg hp<|hr.sub<|List.sublist_cons_self x B;have jc:Rg cs (x::A):=hr.perm<|pm.cons x;exact{_,(Ja x A _).trans<|List.perm_append_comm.trans<|pm.cons x,AL hg hp jc pw}
theorem ED(hg:Gd cs)(hp:Pin cs ps)(hr:Rg cs rows)(hk:Ew rows):∃A,J1 cs ps wy 7 d rows A:=by obtain⟨A,pm,pw⟩:=EC hg hp<|hr.sub yo;exact{A,w9 hr hk pm pw}
theorem JB(h:xs.length=10):(b_ xs (some 2) none).length=8:=by unfold b_;rw[yp,List.length_drop,show HT.sIx xs.length 0 (some 2)=min 2 xs.length from HT.sIx_nat ..,show HT.sIx xs.length xs.length none=xs.length from rfl,h];rfl
inductive AZ (ds:List D) (S:aw) (R:KD) (Z:KX):Prop where
 |mk (cs:List<|Str×Str) (lk:Addr) (kn:Kn) (c:Int) (h0:ds=[.tup<|cs.map ay,.ref lk,.int c]) (h1:Gd cs) (h2:S lk=some (.c_<|jP kn)) (h3:KI cs kn) (h4:∀d qF,GD KS cs kn d->ZJ kn d qF->KI cs qF->R d (S.set lk<|.c_<|jP qF))
theorem JC(T:Txt w K mg t):Ok P w base T.Ck 3 AZ:=by
 refine T.Ck.F.bS gU ?_;obtain⟨cs,lk,kn,c0,e,hg,hk,hI,q⟩;have Vn:=hg.1;have hkl:=hI.len;refine{_,(sc (cj (i:=3) gU.nd<|aL T.gf (hG T) hr<|al 2<|ac di an)<|sc (cj (i:=4) gU.nd<|aL T.Aq (CF T) hr<|ac (ix hr.u (dv 3) di) an)<|sc (cj (i:=5) gU.nd<|aL T.rW (Ga T) hr<|al 0<|ac (P2 (dv 3) (o1 di) o0) an)<|sc (si (twd<|twand (bj vL hr.u (dv 4)<|dv 1)<|tw1<|bj aU hr.u (bo bp hr.u (ix hr.u (dv 3) di) di) di) (sc (se<|mp1 (dv 1)<|dv 4)<|s1<|sr<|bY<|ac ds<|al 4 an) s0)<|sc (cj (i:=6) gU.nd<|uM<|ix hr.u (cz<|ac ds<|ac ds an)<|ct DK T.Ao q8<|ac (cm vL hr.u (dv 4)<|dv 1) an)<|sc (sd hr.u (dv 1) (dv 4)<|dv 5)<|s1<|sr<|bY<|al 6<|al 4<|al 5 an),?_};refine !{c0,10,rfl,by decide,λxs lx JX hx xQ=>?_};have s1:=Sub.new (c:=.lst<|xs.map D.int) xQ;have hX:(S.set lx<|.lst<|xs.map D.int) lx=some (.lst<|xs.map D.int):=aa;generalize S.set lx (.lst<|xs.map D.int)=S1 at s1 hX⊢;have at_:∀k:Nat,k<10->∃x:Int,gE (xs.map D.int) ((k:Nat):Int)=some (.int x)/\0<=x:=λk hk=>mP (by lia) (by rw[zb];lia) hx;obtain⟨x0,e0,_⟩:=at_ 0 (by decide);obtain⟨x1,e1,_⟩:=at_ 1 (by decide);refine !{_,_,hX,e0,x0,rfl,λz hz=>?_};refine !!!{_,hX,λp2 eS=>{cs,p2,b_ xs (some 2) none,rfl,hg,by rw[m7];exact aa,by rw[JB JX];lia,λws hw=>?_}};have s2:=s1.trans<|Sub.new (c:=.lst<|b_ (xs.map D.int) (some 2) none) eS;have xw:=(Sub.new (c:=.lst<|b_ (xs.map D.int) (some 2) none) eS) _ _ hX;generalize S1.set p2 (.lst<|b_ (xs.map D.int) (some 2) none)=S2 at s2 xw⊢;have dw:=s2 _ _ hk;have isS:(bZ (jP kn)<|.inr z).isSome=(iJ kn z).isSome:=by rw[sH];cases iJ kn z<;>rfl
 have hl:(jP kn).length<sizeLine:=bg (by unfold jP;rw[zb];lia);have n2:=cu;have n3:=so;have fin:∀{d:D}{qF:Kn},GD KS cs kn d->ZJ kn d qF->KI cs qF->Fo (S2.set lk<|.c_<|jP qF) (R d):=λh1 h2 h3=>{_,dN s2,q _ _ h1 h2 h3};refine !!⟨.inr {jP kn,.inr z,dw,rfl,_,rfl,bQ (λh=>?_) λh=>?_}⟩;have h:(bZ (jP kn)<|.inr z).isSome=true:=h;have WH:(iJ kn z).isSome=true:=isS ▸ h;obtain⟨vs,hvs⟩:=Option.isSome_iff_exists.mp WH;refine !{_,_,xw,e1,by decide,_,rfl,bQ (λ_=>?_) λ_=>?_};refine !{lk,jP kn,rfl,dw,_,rfl,jP kn,.inr z,.tup vs,dw,rfl,by rw[sH,hvs];rfl,?_};rw[Qp];exact !{n2,fin (.inr<|.inr ⟨z,hz,WH,rfl⟩) (.inr ⟨z,WH,rfl,rfl⟩)<|hI.del z};refine{n2,λp hp=>!!⟨.inr {jP kn,.inr z,(Sub.new hp) _ _ dw,rfl,?_}⟩};rw[h];refine .inr !{_,_,aa,(show gE _ 1=some _ from rfl),S2,.new hp,?_};refine !!!{lk,jP kn,.inr z,rfl,dw,rfl,hl,?_};rw[IS];exact !!!{n3,fin (.inr<|.inl ⟨z,ws,hz,hw,WH,rfl⟩) (.inl {_,z,ws,.inr rfl,rfl,rfl})<|hI.put hz hw};have h:(bZ (jP kn)<|.inr z).isSome=false:=h;have Ks:iJ kn z=none:=by cases e:iJ kn z with|none=>rfl|some _=>rw[isS,e]at h;cases h
 refine a_ {n2,λp hp=>!!⟨.inr {jP kn,.inr z,(Sub.new hp) _ _ dw,rfl,?_}⟩};rw[h];refine .inr !{_,_,aa,(show gE _ 0=some _ from rfl),S2,.new hp,?_};refine !!!{lk,jP kn,.inr z,rfl,dw,rfl,hl,?_};rw[IS];exact !!!{n3,fin (.inl ⟨z,ws,hz,hw,Ks,rfl⟩) (.inl {_,z,ws,.inl rfl,rfl,rfl})<|hI.put hz hw}
inductive A1 (ds:List D) (S:aw) (R:KD) (Z:KX):Prop where
 |mk (cs:List<|Str×Str) (lk:Addr) (kn:Kn) (h0:ds=[.ref lk]) (h1:S lk=some (.c_<|jP kn)) (h2:KI cs kn) (h3:∀ss p,ss.Perm (kn.map (·.1))->PyProof.Rows.sortedS ss=true->S p=none->R (.ref p) (S.set p<|.lst<|(i4 kn ss).map ai))
theorem A3(T:Txt w K mg t):Ok P w base T.wj 1 A1:=by
 refine T.wj.F.bS FU ?_;obtain⟨cs,lk,kn,e,hk,hI,q⟩;have hkl:=hI.len;refine{_,(s1<|sr<|tQ (N:=["_law_key_here","_law_standing"]) (src:=[none,some 0]) (jb (ae Iv) ["_law_standing"] rfl rfl<|by trivial) (il<|cb y1 T.gN e_<|al 0 an) (oX<|show(["_law_key_here","_law_standing"]:List Str).Nodup by trivial) (aR rfl) aS (λ_ _ _ _ _=>nR) λ_ _ _ _ _=>(bY<|al 0<|ac (ix hr.u (dv 1)<|dv 0) an)),?_};refine !{lk,jP kn,kn.map (·.1),rfl,hk,by unfold jP;rw[zy,zy];rfl,by unfold jP;rw[zb];lia,λss hp hs p kJ=>?_};have hlen:ss.length<=60:=by rw[hp.length_eq,zb];exact hkl
 refine{_,aa,?_};refine comp_map (λd=>match d with|.str z=>.tup [.str z,qk kn z]|_=>.au) aa (by show(ss.map D.str).length<=1000;rw[zb];lia) (λd hd Q hQ=>?_) λp2 eS=>?_;obtain⟨z,hz,rfl⟩:=zi.mp hd;obtain⟨ws,ug⟩:=jQ<|hp.mem_iff.mp hz;have hQ:Q (.tup [.str z,qk kn z]) (S.set p<|.lst<|ss.map D.str):=hQ;have e1:bZ (jP kn) (.inr z)=some (qk kn z):=by rw[sH];unfold qk;rw[ug];rfl
 exact !!!{jP kn,_,(Sub.new kJ) _ _ hk,e1,cu,hQ};have em:(ss.map D.str).map (λd=>match d with|.str z=>D.tup [.str z,qk kn z]|_=>.au)=(i4 kn ss).map ai:=by rw[kr hp,zy];rfl
 rw[show({ss.map D.str,λS=>xY S (.ref p)<|ss.map D.str}:nQ).xs=ss.map D.str from rfl,em];exact{_,dN<|.new kJ,q ss p2 hp hs<|cO (.new kJ) eS}
structure Z8(t:ib)(ds:List D)(S:aw)(R:KD)(Z:KX):Prop where
 of:NB t ds S R Z
noncomputable def Fs(lk lm:Addr)(kn:Kn)(ce:RH):List (Addr×Ce):=(lk,.c_<|jP kn)::(lm,.lst<|ce.map λx=>D.ref x.1)::ce.map Vp
structure Bt(t:ib)(S0:aw)(a lk lm:Addr)(cs:List (Str×Str))(kn:Kn)(ce:RH)(F:List Addr)(dl:List D)(rs:nA)(S:aw):Prop where
 st:St t S0 a (Fs lk lm kn ce) F cs dl rs S
 ki:KI cs kn
 ri:RI rs dl.length kn
 hi:HI rs cs dl.length (ce.map Prod.snd)
 le:dl.length<=89
inductive vg (t:ib) (ds:List D) (S:aw) (R:KD) (Z:KX):Prop where
 |mk (cs:List<|Str×Str) (l:Addr) (ms:List Int) (h0:ds=[.tup<|cs.map ay,.ref l]) (h1:Gd cs) (h2:S l=some (.lst<|ms.map D.int)) (h3:ms.length<=30) (h4:∀S' a lk lm kn ce F dl rs,Bt t S a lk lm cs kn ce F dl rs S'->R (.tup [.ref a,.ref lm,.ref lk]) S')
theorem JD(T:Txt w K mg t):Ok P w base T.wk 8 (vg t):=by
 have JE:Ok P w base T.wg 7 (Z8 t):=(L_ T).Lq λds S R Z h=>h.of;refine T.wk.F.bS cN ?_;obtain⟨cs,l,ms,e,hg,hl,h30,q⟩;refine{_,(sc (cj (i:=2) cN.nd<|mk T.IE (LY T) (hr.mono<|by decide) T.ID T.fz.b d0<|al 0 an)<|sc (cj (i:=3) cN.nd TH)<|sc (cj (i:=4) cN.nd<|cz<|ac (cz an) an)<|sc (cj (i:=5) cN.nd<|cz an)<|sc (vQ<|DM (il<|P2 (dv 1) o0<|o1 di) (gn (i:=6) cN.nd)<|s1<|si (bj aU hr.u (bo bp hr.u (dv 6) di) di) (s1<|HQ (i:=5) (N:=["_law_k","_law_cell"]) (src:=[none,some 6]) cN.nd (jb (ae FH) ["_law_columns_here","_law_cells","_law_shelf","_law_standing","_law_moments","_law_more","_law_cell"] rfl rfl<|by trivial) (JU T.eE<|ac (bo bB hr.u di<|bo bp hr.u (bo bR hr.u (dv 6) di) di) an) (oX<|show(["_law_k","_law_cell"]:List Str).Nodup by trivial) (aR rfl) aS (λ_ _ _ _ _=>nR) λ_ _ _ _ _=>(bo bB hr.u (bo bR hr.u (dv 1) di)<|bo rq hr.u di<|dv 0)) s0)<|sc (vQ<|DM (il<|bo bB hr.u (dv 5)<|dv 1) (gn (i:=6) cN.nd)<|sc (se<|aL T.wg JE hr<|al 2<|ac (aL T.Ck (JC T) hr<|al 0<|al 3<|al 6 an) an)<|s1<|se<|bm zN zX zY cA (dv 4)<|ac (aL T.wj (A3 T) hr<|al 3 an) an)<|s1<|sr<|bY<|al 2<|al 4<|al 3 an),?_};refine{_,rfl,λa ha=>{a,cs,rfl,hg,aa,λS1 F1 D_ U9=>{rfl,?_}}};have Z9:WD S F1 S1:=λb c hb=>by have h2:b≠a:=gx hb ha;exact U9 b c (λm=>h2<|zK.mp m)<|(ag h2).trans hb
 have st0:St t S a [] F1 cs [] [] S1:={D_,λ_ h=>(nomatch h),.nil,Z9};refine λlk YS=>?_;have st1:=st0.new YS<|.c_ [];generalize S1.set lk (.c_ [])=SA at st1⊢;refine{mH,λq0 hq0=>{sj,λlm hlm=>?_}};have MJ:=(st1.new hq0<|.lst []).new hlm<|.lst [.ref q0];generalize (SA.set q0<|.lst []).set lm (.lst [.ref q0])=SB at MJ⊢;have MK:St t S a (Fs lk lm [] [(q0,[])]) F1 cs [] [] SB:=MJ.perm<|.cons _<|.swap _ _ _;refine{mH,λle hle=>?_};have QN:=Sub.new (c:=.lst []) hle;have Vz:(SB.set le<|.lst []) le=some (.lst []):=aa;have RA:=QN _ _<|MK.Jv.sub _ _ hl;generalize SB.set le (.lst [])=SC at QN Vz RA⊢;refine{λaB S'=>∃(lx:Addr)(ys:List Int)(o6:Option D),aB=[some<|.tup<|cs.map ay,some<|.ref l,some<|.ref a,some<|.ref lk,some<|.ref lm,some<|.ref lx,o6]/\Sub SC S'/\S' lx=some (.lst<|ys.map D.int)/\ys.length<=59,?_,?_};refine !!{_,RA,λp1 tw=>{_,aa,?_}};have Qw:=Sub.new (c:=.lst<|b_ (ms.map D.int) none<|some 1) tw;have Mv:(SC.set p1<|.lst<|b_ (ms.map D.int) none<|some 1) p1=some (.lst<|b_ (ms.map D.int) none<|some 1):=aa;generalize SC.set p1 (.lst<|b_ (ms.map D.int) none<|some 1)=SD at Qw Mv⊢;rw[m7]at Mv⊢;generalize b_ ms none (some 1)=m1 at Mv⊢;refine{λi aB S'=>∃(lx:Addr)(ys:List Int)(o6:Option D),aB=[some<|.tup<|cs.map ay,some<|.ref l,some<|.ref a,some<|.ref lk,some<|.ref lm,some<|.ref lx,o6]/\Sub SD S'/\S' lx=some (.lst<|ys.map D.int)/\ys.length<=59,{le,[],none,rfl,.refl _,Qw _ _ Vz,zT _},?_,?_,?_};rintro i aB S' ⟨_,_,_,_,sb,_⟩;exact sb _ _ Mv;rintro i d aB S' hd ⟨lx,ys,o6,rfl,sb,hx,hy⟩;have hd:(m1.map D.int)[i]?=some d:=hd;obtain⟨c,_,rfl⟩:=zi.mp<|zx hd;refine !{by decide,_,rfl,bQ (λ_=>?_) λ_=>{lx,ys,_,rfl,sb,hx,hy}};have b0:0<=c/8%40:=zO _ (by decide);have b1:c/8%40<40:=zL _ (by decide);refine{_,rfl,{by decide,by trivial},by decide,_,rfl,by lia,by lia,?_};refine fF (λ_ v=>∃x:Int,v=.int x) trivial (by show(df 0 _).length<=_;rw[bL];lia) (λd hd Q hQ=>?_) λout pY p kJ=>?_;obtain⟨j,hj⟩:=yt hd;obtain⟨_,rfl⟩:=cB hj;exact{_,rfl,{by decide,by trivial},_,rfl,.inl<|by decide,hQ _ {_,rfl}};have hlen:=yN pY;have:∀{L out:List D},Paired (λ_ v=>∃x:Int,v=D.int x) L out->∃xs:List Int,out=xs.map D.int:=λ{L out} h=>by induction h with|nil=>exact{[],rfl}|cons r _ ih=>obtain⟨x,rfl⟩:=r;obtain⟨xs,rfl⟩:=ih;exact{x::xs,rfl}
 obtain⟨zs,rfl⟩:=this pY;rw[zb]at hlen;have hlen:(df 0 (20+c/8%40).toNat).length=zs.length:=hlen;rw[bL]at hlen;exact{p,zs,_,rfl,sb.trans<|.new kJ,aa,by lia};rintro aB S' ⟨lx,ys,o6,rfl,sb,r⟩;exact fo {lx,ys,o6,rfl,Qw.trans sb,r};rintro aB S2 ⟨lx,ys,o6,rfl,JS,hx,hy⟩;have st4:=(MK.sub QN).sub JS;refine{λaB S'=>∃(kn:Kn)(ce:RH)(F:List Addr)(dl:List D)(rs:nA)(o6:Option D),aB=[some<|.tup<|cs.map ay,some<|.ref l,some<|.ref a,some<|.ref lk,some<|.ref lm,some<|.ref lx,o6]/\Bt t S a lk lm cs kn ce F dl rs S',?_,?_};refine !!{_,_,hx,JS _ _ RA,sm<|by rw[zb,zb];lia,λlz hlz=>{_,aa,?_}};rw[<-zJ];have Y2:(ys++ms).length<=89:=by rw[zE];lia
 generalize ys++ms=zs at Y2⊢;have JR:St t S a ((lz,.lst<|zs.map D.int)::Fs lk lm [] [(q0,[])]) F1 cs [] [] (S2.set lz<|.lst<|zs.map D.int):=(st4.new hlz _).perm (List.perm_append_singleton _ _).symm;generalize S2.set lz (.lst<|zs.map D.int)=S3 at JR⊢;refine{λi aB S'=>∃(kn:Kn)(ce:RH)(F:List Addr)(dl:List D)(rs:nA)(o6:Option D),aB=[some<|.tup<|cs.map ay,some<|.ref l,some<|.ref a,some<|.ref lk,some<|.ref lm,some<|.ref lx,o6]/\dl.length=i/\St t S a ((lz,.lst<|zs.map D.int)::Fs lk lm kn ce) F cs dl rs S'/\KI cs kn/\RI rs dl.length kn/\HI rs cs dl.length (ce.map Prod.snd),?_,?_,?_,?_};refine{[],[(q0,[])],F1,[],[],_,rfl,rfl,JR,KI.nil cs,RI.nil,rfl,λm rows e=>?_};cases m with|zero=>(cases e;exact{[],[],rfl,KI.nil cs,.refl _,rfl,λz=>rfl})|succ m=>simp at e
 rintro i aB S' ⟨_,_,_,_,_,_,_,_,st,_⟩;exact st.at 0 rfl;rintro i d aB S' hd ⟨kn,ce,F,dl,rs,o6,rfl,K1,st,hI,hR,hH⟩;have hd:(zs.map D.int)[i]?=some d:=hd;have hi:=(zd.mp hd).1;rw[zb]at hi;obtain⟨c,_,rfl⟩:=zi.mp<|zx hd;refine !!!!{cs,lk,kn,c,rfl,hg,st.at 1 rfl,hI,λde qF hde Vd Z_=>?_};have st6:St t S a ((lz,.lst<|zs.map D.int)::Fs lk lm qF ce) F cs dl rs _:=st.put 1 rfl<|.c_<|jP qF;generalize S'.set lk (.c_<|jP qF)=S6 at st6⊢;refine⟨(Gw st6.sh hg hI hR (by lia) hde Vd λS7 F7 rs7 hS7 hK7 hR7 hold=>?_).of⟩;have st7:=st6.ZY hS7 hK7;have hM:=st7.at 2 rfl;have xP:(ce.map λx=>D.ref x.1).length<sizeLine:=bg (by have:=hH.1;rw[zb]at this⊢;lia);refine{_,rfl,{rfl,_,hM},_,rfl,cs,lk,qF,rfl,st7.at 1 rfl,Z_,λss p hp ho kJ=>?_};refine{lm,_,_,rfl,rfl,(Sub.new kJ) _ _ hM,xP,?_};have st8:=(st7.new kJ<|.lst<|(i4 qF ss).map ai).put 2 rfl<|.lst<|(ce.map λx=>D.ref x.1)++[.ref p];refine{qF,ce++[(p,i4 qF ss)],F7,dl++[de],rs7,_,rfl,by rw[zE,K1];rfl,?_,Z_,by rw[zE];exact hR7,?_};unfold Fs;rw[zJ,zJ];exact st8;rw[zE,zJ];exact hH.step hold Z_ hR7 hp ho;rintro aB S' ⟨kn,ce,F,dl,rs,o6,rfl,K1,st,hI,hR,hH⟩;have K1:dl.length=(zs.map D.int).length:=K1;rw[zb]at K1;exact fo {kn,ce,F,dl,rs,o6,rfl,st.less (yk.mp st.nd).2 λx hx=>zh _ hx,hI,hR,hH,by lia};rintro aB S' ⟨kn,ce,F,dl,rs,o6,rfl,hb⟩;exact !!!{so,fo<|q _ _ _ _ _ _ _ _ _ hb}
theorem JF(hg:Gd cs)(hp:Pin cs ps)(hw:Wg cs r.2)(hk:r.1∈KS):bw (h_ ps wy) (ic cs ps r) (ic cs ps r)=0:=(jV qI (iL hg hp hw hk)<|iL hg hp hw hk).mpr rfl
theorem An.at{cs:List<|Str×Str}(hg:Gd cs){ps:List Part}(hp:Pin cs ps){wy:Str}{A:List Row}(h:An cs ps wy A){i:Nat}{r:Row}(e:A[i]?=some r):A.countP (gP cs ps wy<|Ex cs ps "ahead" r)=i/\A.countP (gP cs ps wy<|Ex cs ps "behind" r)=i+1:=by
 have hi:=(zd.mp e).1;have hr:=zx e;have lx:=List.pairwise_iff_getElem.mp<|h.lex hg hp;have lt:∀j a,j<i->A[j]?=some a->bw (h_ ps wy) (ic cs ps a) (ic cs ps r)<0:=λj a hj ej=>by have:=lx j i (zd.mp ej).1 hi hj;rw[(zd.mp ej).2,(zd.mp e).2]at this;exact this
 have gt:∀j a,i<j->A[j]?=some a->0<bw (h_ ps wy) (ic cs ps a) (ic cs ps r):=λj a hj ej=>by have hj':=(zd.mp ej).1;have:=lx i j hi hj' hj;rw[(zd.mp ej).2,(zd.mp e).2]at this;have ha:=zx ej;exact(sQ (iL hg hp (h.rg.1 a ha)<|h.ky a ha)<|iL hg hp (h.rg.1 r hr)<|h.ky r hr).mp this
 have me:=JF (wy:=wy) hg hp (h.rg.1 r hr)<|h.ky r hr;constructor;refine(wZ (h.mono hg hp<|sW hg hp (h.rg.1 r hr) (h.ky r hr)<|by trivial) (yH hi) (λj a hj ej=>?_) λj a hj ej=>?_).symm;show(decide (bw (h_ ps wy) (ic cs ps a) (ic cs ps r)<0)||_)=true;rw[zu<|lt j a hj ej];rfl;show(decide (bw (h_ ps wy) (ic cs ps a) (ic cs ps r)<0)||(_&&decide (("ahead": Str) ="behind")))=false;rw[show decide (("ahead": Str) ="behind")=false by trivial,Bool.and_false,Bool.or_false,zt];rcases Nat.lt_or_ge i j with q|q;have:=gt j a q ej;lia;have:j=i:=by lia
 subst this;rw[e]at ej;cases ej;lia;refine(wZ (h.mono hg hp<|sW hg hp (h.rg.1 r hr) (h.ky r hr)<|by trivial) hi (λj a hj ej=>?_) λj a hj ej=>?_).symm;show(decide (bw (h_ ps wy) (ic cs ps a) (ic cs ps r)<0)||(decide (bw (h_ ps wy) (ic cs ps a) (ic cs ps r)=0)&&decide (("behind": Str) ="behind")))=true;rcases Nat.lt_or_ge j i with q|q;rw[zu<|lt j a q ej];rfl;have:j=i:=by lia
 subst this;rw[e]at ej;cases ej;rw[me];rfl;show(decide (bw (h_ ps wy) (ic cs ps a) (ic cs ps r)<0)||(decide (bw (h_ ps wy) (ic cs ps a) (ic cs ps r)=0)&&decide (("behind": Str) ="behind")))=false;have:=gt j a (by lia) ej;rw[zt<|by lia,zt<|by lia];rfl
theorem JG{cs:List<|Str×Str}{ps:List Part}{g:tD}(h:Gp cs ps g){S:aw} : Ly S 3 (oJ g):=by
 have hs:PyData.strOk g.2.2=true:=by have:=h.side;unfold AS at this;rw[Bool.or_eq_true]at this;rcases this with q|q<;>rw[zC q]<;>decide +kernel
 refine Ly.tup λx hx=>?_;simp only[zj,zM,or_false]at hx;rcases hx with rfl|rfl;refine Ly.tup λx hx=>?_;simp only[zj,zM,or_false]at hx;rcases hx with rfl|rfl;refine Ly.tup λx hx=>?_;obtain⟨i,ei⟩:=yt hx;obtain⟨k,_,hv⟩:=bO h.pv ei;exact Ly.plain hv.2;exact(Ly.str (fH _ h.key).2.2).le (by decide);exact(Ly.str hs).le<|by decide
noncomputable def plF(cs:List<|Str×Str)(ps:List Part):D->D|.tup [.str k,.tup ws]=>jW (ps.map λp=>aj cs ws p.1) k|d=>d
section
variable{t:ib}{S0:aw}{a lk lm:Addr}{cs:List (Str×Str)}{kn:Kn}{ce:RH}{F:List Addr}{dl:List D}{rs:nA}{S:aw}
theorem Bt.sub{S':aw}(h:Bt t S0 a lk lm cs kn ce F dl rs S)(b:Sub S S'):Bt t S0 a lk lm cs kn ce F dl rs S':={h.st.sub b,h.ki,h.ri,h.hi,h.le}
theorem Bt.ml(h:Bt t S0 a lk lm cs kn ce F dl rs S):S lm=some (.lst<|ce.map λx=>D.ref x.1):=h.st.at 1 rfl
theorem Bt.cell(h:Bt t S0 a lk lm cs kn ce F dl rs S){k:Nat}{x:Addr×List Row}(e:ce[k]?=some x):S x.1=some (.lst<|x.2.map ai):=h.st.at (k+2)<|by show(ce.map Vp)[k]?=_;rw[zg,e];rfl
theorem Bt.len(h:Bt t S0 a lk lm cs kn ce F dl rs S):ce.length=dl.length+1:=by have:=h.hi.1;rwa [zb]at this
theorem Bt.snap(h:Bt t S0 a lk lm cs kn ce F dl rs S){k:Nat}{x:Addr×List Row}(e:ce[k]?=some x):Snap rs cs k x.2:=h.hi.2 k x.2<|by rw[zg,e];rfl
theorem Bt.vw(h:Bt t S0 a lk lm cs kn ce F dl rs S){k:Nat}{x:Addr×List Row}(e:ce[k]?=some x):Vw t.ao S a cs (.int (k:Nat)) x.2:=by have hk:=(zd.mp e).1;have hl:=h.len;refine(h.snap e).vw h.st.sh h.ri ?_ gt_int;show(if 0<=((k:Nat):Int)/\((k:Nat):Int)<=((dl.length:Nat):Int) then some ((k:Nat):Int) else none)=_;rw[if_pos<|by lia]
theorem Bt.vn(h:Bt t S0 a lk lm cs kn ce F dl rs S){x:Addr×List Row}(e:ce[dl.length]?=some x):Vw t.ao S a cs .au x.2:=(h.snap e).vw h.st.sh h.ri rfl sD
theorem Bt.at(h:Bt t S0 a lk lm cs kn ce F dl rs S){k:Nat}(hk:k<ce.length):∃x,ce[k]?=some x:={_,zf hk}
theorem Bt.end(h:Bt t S0 a lk lm cs kn ce F dl rs S){x:Addr×List Row}(e:ce[dl.length]?=some x):gE (ce.map λx=>D.ref x.1) (-1)=some (.ref x.1):=by have hl:=h.len;unfold gE Ds;rw[zb,if_neg<|by decide,if_pos<|by lia,show((-1:Int)+((ce.length:Nat):Int)).toNat=dl.length by lia];show(ce.map λx=>D.ref x.1)[dl.length]?=_;rw[zg,e];rfl
end
inductive vh (t:ib) (ds:List D) (S:aw) (R:KD) (Z:KX):Prop where
 |mk (S0:aw) (a lk lm:Addr) (cs:List<|Str×Str) (ps:List Part) (wy:Str) (d:D) (c:Int) (kn:Kn) (ce:RH) (F:List Addr) (dl:List D) (rs:nA) (h0:ds=[.ref a,.ref lm,.tup<|cs.map ay,bU ps wy,d,.int c]) (h1:Gd cs) (h2:Og cs ps wy) (h3:Sq cs d) (h4:Bt t S0 a lk lm cs kn ce F dl rs S) (h5:Tb t S) (h6:R (.bl true) S)
theorem Gz(T:Txt w K mg t)(B:Bm mg base):Ok P w base T.wm 14 (vh t):=by
 refine T.wm.F.bS aQ ?_;obtain⟨S0,a,lk,lm,cs,ps,wy,d,c0,kn,ce,F,dl,rs,e,hg,ho,hd,hb,S_,q⟩;have hle:=hb.le;have xP:=hb.len;refine{_,(sc (cj (i:=6) aQ.nd<|aL T.gf (hG T) hr<|al 5<|ac di an)<|sc (cj (i:=7) aQ.nd<|bo bp hr.u (ix hr.u (dv 6) di)<|cb ba T.aX aF<|al 1 an)<|sc (cj (i:=8) aQ.nd<|aL T.iD (pN T) hr<|al 2<|al 3<|ac (ix hr.u (dv 1)<|dv 7)<|ac (ix hr.u (dv 6) di) an)<|sc (cj (i:=9) aQ.nd<|aL T.iD (pN T) hr<|al 2<|al 3<|ac (ix hr.u (dv 1)<|dv 7)<|ac (ix hr.u (dv 6) di) an)<|sc (cj (i:=10) aQ.nd<|aL T.mB (oK T) hr<|al 2<|al 3<|al 4<|ac (ix hr.u (dv 1)<|dv 7) an)<|sc (cj (i:=11) aQ.nd<|aL T.gT (lS T) hr<|al 2<|al 3<|al 10<|al 8<|al 9 an)<|sc (vQ<|DM (JU T.eE<|ac di an) (gn (i:=12) aQ.nd)<|sc (cj (i:=13) aQ.nd<|aL T.eX ((fM T B).w) hr<|al 0<|al 3<|al 4<|al 8<|al 9<|al 7 an)<|sc (si (twd<|twor (cy<|tv<|cb cH T.av aq<|al 13<|ac (qx T.Qa KN) an)<|tw1<|bj gH hr.u (dv 13)<|dv 11) (s1<|sr db) s0)<|s1<|se<|bm0 zN PySem.F.slot_list_clear PySem.F.type_list_clear Lv<|dv 13)<|sc (cj (i:=11) aQ.nd<|aL T.gT (lS T) hr<|al 2<|al 3<|ac (aL T.mB (oK T) hr<|al 2<|al 3<|al 4<|ac (ix hr.u (dv 1)<|x6 di) an)<|al 8<|ac dn an)<|sc (si (bj gH hr.u (cf (((fM T B).w).mono<|by decide) hr T.eX.m T.eX.k T.Ai d2<|al 0<|al 3<|al 4<|al 8 an)<|dv 11) (s1<|sr db) s0)<|sc (cj (i:=11) aQ.nd<|aL T.gT (lS T) hr<|al 2<|al 3<|al 10<|ac dn<|al 8 an)<|sc (si (bj gH hr.u (aL T.eX ((fM T B).w) hr<|al 0<|al 3<|al 4<|ac dn<|al 8<|al 7 an)<|dv 11) (s1<|sr db) s0)<|sc (cj (i:=14) aQ.nd<|aL T.Co (Mt T) hr<|ac (ix hr.u (dv 6) di) an)<|sc (cj (i:=15) aQ.nd<|aL T.vW ((CY T B).w) hr<|al 0<|al 3<|al 4<|al 14<|al 8<|al 7 an)<|sc (vQ<|si (bj aU hr.u (bo bp hr.u (ix hr.u (dv 6) di) di) di) (s1<|cj (i:=15) aQ.nd<|aL T.n6 ((xb T B).w) hr<|al 0<|al 3<|al 4<|al 14<|al 8<|al 7 an) s0)<|sc (cj (i:=16) aQ.nd<|aL T.qD (sX T) hr<|al 2<|al 3<|al 15 an)<|sc (si (bj aU hr.u (ix hr.u (dv 15) di)<|cz an) (s1<|sr<|cm eP hr.u (dv 16) dn) s0)<|sc (HQ (i:=17) (N:=["_law_row","_law_columns_here","_law_order_here"]) (src:=[none,some 2,some 3]) aQ.nd (jb (ae FI) ["_law_shelf","_law_moments","_law_columns_here","_law_order_here","_law_sieve_here","_law_cell","_law_xs","_law_moment","_law_fore","_law_hinder","_law_rows_here","_law_due","_law_turn","_law_found","_law_size_here","_law_page","_law_gaps","_law_places"] rfl rfl<|by trivial) (il<|ix hr.u (dv 15) di) (oX<|show(["_law_row","_law_columns_here","_law_order_here"]:List Str).Nodup by trivial) (aR rfl) aS (λ_ _ _ _ _=>nR) λ_ _ _ _ _=>(aL T.ke (ng T) hr<|al 1<|al 2<|al 0 an))<|sc (si (twd<|twor (bj gH hr.u (dv 16)<|bY<|ac (bY<|ac (ix hr.u (dv 17) di)<|ac ds an)<|ac (bY<|ac (ix hr.u (dv 17)<|x6 di)<|ac ds an) an)<|tw1<|cy<|tv<|cb cH T.av aq<|al 16<|ac (qx T.bu aW) an) (s1<|sr db) s0)<|s1<|sr<|cm aU hr.u (aL T.eX ((fM T B).w) hr<|al 0<|al 3<|al 4<|ac (ix hr.u (dv 16) di)<|ac (ix hr.u (dv 16) di)<|al 7 an)<|ix hr.u (dv 15) di),?_};refine !{c0,5,rfl,by decide,λxs lx JX hx xQ=>?_};have s1:=Sub.new (c:=.lst<|xs.map D.int) xQ;have hX:(S.set lx<|.lst<|xs.map D.int) lx=some (.lst<|xs.map D.int):=aa;generalize S.set lx (.lst<|xs.map D.int)=S1 at s1 hX⊢;have at_:∀k:Nat,k<5->∃x:Int,gE (xs.map D.int) ((k:Nat):Int)=some (.int x)/\0<=x:=λk hk=>mP (by lia) (by rw[zb];lia) hx;obtain⟨x0,e0,_⟩:=at_ 0 (by decide);obtain⟨x1,e1,_⟩:=at_ 1 (by decide);obtain⟨x2,e2,_⟩:=at_ 2 (by decide);obtain⟨x3,e3,_⟩:=at_ 3 (by decide);obtain⟨x4,e4,_⟩:=at_ 4 (by decide);have WI:=hb.sub s1;have hM:=WI.ml;have ml:(ce.map λx=>D.ref x.1).length=ce.length:=zb _;refine !{_,_,hX,e0,_,rfl,_,rfl,.inl {_,hM,by lia,?_}};rw[ml];obtain⟨k,ek⟩:=Int.eq_ofNat_of_zero_le<|show 0<=x0%((ce.length:Nat):Int) from zO _ (by lia);have hk:k<ce.length:=by have:=zL x0 (show(0:Int)<((ce.length:Nat):Int) by lia);lia
 rw[ek];obtain⟨x,ex⟩:=hb.at hk;have aM:gE (ce.map λx=>D.ref x.1) ((k:Nat):Int)=some (.ref x.1):=bG (by rw[zg,ex];rfl);have hc:=WI.cell ex;obtain⟨GV,h60⟩:=(WI.snap ex).rg;have VA:Ew x.2:=(WI.snap ex).key;refine !!!!{_,_,hM,aM,_,rfl,_,_,hX,e1,cs,ps,wy,_,_,_,rfl,hg,ho,hc,GV,VA,λf hf=>?_};refine !!!!{_,_,hM,aM,_,rfl,_,_,hX,e2,cs,ps,wy,_,_,_,rfl,hg,ho,hc,GV,VA,λg hh=>?_};obtain⟨A,hA⟩:=ED (d:=d) (wy:=wy) hg ho.pin GV VA;have hAl:A.length<=60:=by rw[hA.pm.length_eq];exact zD (ym _ _) h60
 refine !!!!!{_,_,hM,aM,cs,ps,wy,d,_,_,A,rfl,hg,ho,hd.1,hc,by lia,GV,VA,hA,λpr hpr=>?_};have s2:=s1.trans<|Sub.new (c:=.lst<|A.map ai) hpr;have xw:=(Sub.new (c:=.lst<|A.map ai) hpr) _ _ hX;have hP:(S1.set pr<|.lst<|A.map ai) pr=some (.lst<|A.map ai):=aa;generalize S1.set pr (.lst<|A.map ai)=S2 at s2 xw hP⊢;refine !!!!!{cs,ps,wy,pr,A,f,g,rfl,hg,ho,hP,hA.an,by lia,hf,hh,λpd RM=>?_};have s3:=s2.trans<|Sub.new (c:=.lst<|(A.filter<|ku cs ps wy f g).map ai) RM;have RN:=(Sub.new (c:=.lst<|(A.filter<|ku cs ps wy f g).map ai) RM) _ _ xw;have hP3:=(Sub.new (c:=.lst<|(A.filter<|ku cs ps wy f g).map ai) RM) _ _ hP;have hD:(S2.set pd<|.lst<|(A.filter<|ku cs ps wy f g).map ai) pd=some (.lst<|(A.filter<|ku cs ps wy f g).map ai):=aa;generalize S2.set pd (.lst<|(A.filter<|ku cs ps wy f g).map ai)=S3 at s3 RN hP3 hD⊢;have hq:Qs t S3 a cs ps wy d (.int (k:Nat)) x.2:={hg,ho,hd,(hb.sub s3).vw ex,VA,S_.sub s3};have GG:∀p,Rg cs (A.filter p)/\Ew (A.filter p):=λp=>{hA.an.rg.sub yo,λr hr=>hA.an.ky r (yh.mp hr).1};refine{λaB S'=>∃QO QP:Option D,aB=[some<|.ref a,some<|.ref lm,some<|.tup<|cs.map ay,some<|bU ps wy,some d,some<|.int c0,some<|.ref lx,some<|.int (k:Nat),some<|tE f,some<|tE g,some<|.ref pr,some<|.ref pd,QO,QP,none,none,none,none]/\Sub S3 S',?_,?_};refine{2,rfl,by decide,by decide,?_};refine{λi aB S'=>∃QO QP:Option D,aB=[some<|.ref a,some<|.ref lm,some<|.tup<|cs.map ay,some<|bU ps wy,some d,some<|.int c0,some<|.ref lx,some<|.int (k:Nat),some<|tE f,some<|tE g,some<|.ref pr,some<|.ref pd,QO,QP,none,none,none,none]/\Sub S3 S',{_,_,rfl,.refl _},λ_ _ _ _=>trivial,?_,?_};rintro i y aB S' hy ⟨QO,QP,rfl,sb⟩;refine !!!!!!⟨(hq.sub sb).st f g hf hh λA' p JH hp=>?_⟩;obtain rfl:=hA.one hg ho.pin JH;rw[<-hA.an.Z5 hg ho.pin hf hh];have NO:=sb.trans<|Sub.new (c:=.lst []) hp;refine !{_,_,_,_,rfl,Gs,.inl {rfl,_,aa},_,rfl,a_ !!⟨hU aa ((Sub.new hp) _ _<|sb _ _ hD) (gs (GG _).1 (GG _).2) !⟨a_ ?_⟩⟩};refine{_,rfl,{rfl,_,aa},p,_,rfl,rfl,aa,?_};rw[cF];exact{_,_,rfl,NO};rintro aB S' ⟨QO,QP,rfl,sb⟩;exact fo {_,_,rfl,sb};rintro aB S' ⟨QO,QP,rfl,sb⟩;obtain⟨y,ey⟩:=hb.at (show dl.length<ce.length by lia);have s4:=s3.trans sb;have QQ:=hb.sub s4;obtain⟨WJ,y60⟩:=(hb.snap ey).rg;have RP:Ew y.2:=(hb.snap ey).key;obtain⟨A2,QR⟩:=ED (d:=d) (wy:=wy) hg ho.pin WJ RP;have ad6:A2.length<=60:=by rw[QR.pm.length_eq];exact zD (ym _ _) y60
 have VB:∀p,Rg cs (A2.filter p)/\Ew (A2.filter p):=λp=>{QR.an.rg.sub yo,λr hr=>QR.an.ky r (yh.mp hr).1};refine !!!!!!!{_,_,QQ.ml,hb.end ey,cs,ps,wy,d,_,_,A2,rfl,hg,ho,hd.1,QQ.cell ey,by lia,WJ,RP,QR,λp2 eS=>?_};refine !{cs,ps,wy,p2,A2,f,none,rfl,hg,ho,aa,QR.an,by lia,hf,nofun,λpd2 aae=>?_};have QS:=(sb.trans<|Sub.new (c:=.lst<|A2.map ai) eS).trans<|Sub.new (c:=.lst<|(A2.filter<|ku cs ps wy f none).map ai) aae;have hD5:((S'.set p2<|.lst<|A2.map ai).set pd2<|.lst<|(A2.filter<|ku cs ps wy f none).map ai) pd2=some (.lst<|(A2.filter<|ku cs ps wy f none).map ai):=aa;generalize (S'.set p2<|.lst<|A2.map ai).set pd2 (.lst<|(A2.filter<|ku cs ps wy f none).map ai)=S5 at QS hD5⊢;have s5:=s3.trans QS;have hq5:Qs t S5 a cs ps wy d .au y.2:={hg,ho,hd,(hb.sub s5).vn ey,RP,S_.sub s5};refine !!!!⟨hq5.st f none hf nofun λA' p3 JH L3=>?_⟩;obtain rfl:=QR.one hg ho.pin JH;rw[<-QR.an.Z5 hg ho.pin hf (g:=none) nofun];refine{_,rfl,hU aa ((Sub.new L3) _ _ hD5) (gs (VB _).1 (VB _).2) !⟨a_ ?_⟩};have NO:=QS.trans<|Sub.new (c:=.lst<|(A2.filter<|ku cs ps wy f none).map ai) L3;generalize S5.set p3 (.lst<|(A2.filter<|ku cs ps wy f none).map ai)=S6 at NO⊢;refine !!!!{cs,ps,wy,pr,A,none,f,rfl,hg,ho,NO _ _ hP3,hA.an,by lia,nofun,hf,λWK aaf=>?_};have QT:=NO.trans<|Sub.new (c:=.lst<|(A.filter<|ku cs ps wy none f).map ai) aaf;have hD7:(S6.set WK<|.lst<|(A.filter<|ku cs ps wy none f).map ai) WK=some (.lst<|(A.filter<|ku cs ps wy none f).map ai):=aa;generalize S6.set WK (.lst<|(A.filter<|ku cs ps wy none f).map ai)=S7 at QT hD7⊢;refine !!!!!⟨(hq.sub QT).st none f nofun hf λA' p4 JH Me=>?_⟩;obtain rfl:=hA.one hg ho.pin JH;rw[<-hA.an.Z5 hg ho.pin (f:=none) nofun hf];refine{_,rfl,hU aa ((Sub.new Me) _ _ hD7) (gs (GG _).1 (GG _).2) !⟨a_ ?_⟩};have JI:=QT.trans<|Sub.new (c:=.lst<|(A.filter<|ku cs ps wy none f).map ai) Me;generalize S7.set p4 (.lst<|(A.filter<|ku cs ps wy none f).map ai)=S8 at JI⊢;have hX8:=JI _ _ RN;refine !{_,_,hX8,e4,x4,rfl,λn h1 h2=>?_};refine !!!!!!⟨(hq.sub JI).pg (f:=Z1) f h1 h2 hf λA' p JH hp=>?_⟩;obtain rfl:=hA.one hg ho.pin JH;have l0:=w6 (cs:=cs) (ps:=ps) (wy:=wy) (zT A.length) f;have l1:=w6 (cs:=cs) (ps:=ps) (wy:=wy) (zq A.length) f;refine{λaB RO=>∃(p:Addr)(b e c:Nat),aB=[some<|.ref a,some<|.ref lm,some<|.tup<|cs.map ay,some<|bU ps wy,some d,some<|.int c0,some<|.ref lx,some<|.int (k:Nat),some<|tE f,some<|tE g,some<|.ref pr,some<|.ref WK,QO,QP,some<|.int (n:Nat),some<|NK p b c,none,none]/\b<=e/\e<=A.length/\RO p=some (.lst<|(seg A b e).map ai)/\Sub S8 RO,?_,?_};refine !{_,_,(Sub.new hp) _ _ hX8,e3,by decide,_,rfl,bQ (λ_=>?_) λ_=>?_};refine !!!!!!⟨((hq.sub JI).sub<|.new hp).pg (f:=Z2) f h1 h2 hf λA' p5 JH GA=>?_⟩;obtain rfl:=hA.one hg ho.pin JH;exact fo {p5,_,_,_,rfl,Nat.sub_le _ _,l1,aa,(Sub.new hp).trans<|.new GA};exact fo {p,_,_,_,rfl,by show uk cs ps wy A 0 f<=min (uk cs ps wy A 0 f+n) A.length;lia,Nat.min_le_right _ _,aa,.new hp};rintro aB S9 ⟨p,b,e,c,rfl,JP,heA,WL,sb9⟩;have sl:=Mr JP heA;have mS:∀r∈seg A b e,r∈A:=λr hr=>List.mem_of_mem_drop<|List.mem_of_mem_take hr;have sg:Rg cs (seg A b e)/\Ew (seg A b e):={hA.an.rg.sub<|(List.take_sublist _ _).trans<|List.drop_sublist _ _,λr hr=>hA.an.ky r<|mS r hr};have n2:=cu;have fin:=(s3.trans JI).trans sb9;refine !!!{cs,ps,wy,p,seg A b e,b,c,rfl,hg,ho.pin,ho.len,WL,λr hr=>sg.1.1 r hr,λz=>?_,λr0 r1 q0 q1=>?_};refine !!{mH,λp5 GA=>eq_nil ((Sub.new GA) _ _ WL) aa (gs sg.1 sg.2) !⟨iH (by rw[z];rfl) !{S,fin.trans<|.new GA,q}⟩};have vF:0<(seg A b e).length:=(zd.mp q0).1;have mO:((seg A b e).map ai).isEmpty=false:=by cases h:seg A b e with|nil=>rw[h]at vF;cases vF|cons _ _=>rfl
 refine !!{mH,λp5 GA=>eq_nil ((Sub.new GA) _ _ WL) aa (gs sg.1 sg.2) !⟨bx mO ?_⟩};have sbA:=sb9.trans<|Sub.new (c:=.lst []) GA;have WM:=(Sub.new (c:=.lst []) GA) _ _ WL;generalize S9.set p5 (.lst [])=SA at sbA WM⊢;refine !!{_,WM,?_};refine comp_map (plF cs ps) WM (by show((seg A b e).map ai).length<=_;rw[zb];lia) (λz hz Q hQ=>?_) λp6 WN=>?_;obtain⟨r,jc,rfl⟩:=zi.mp hz;exact !!!{cs,ps,wy,r,rfl,hg,ho.pin,ho.len,sg.1.1 r jc,hQ};rw[show({(seg A b e).map ai,λS=>S p=some (.lst<|(seg A b e).map ai)}:nQ).xs=(seg A b e).map ai from rfl,show((seg A b e).map ai).map (plF cs ps)=(seg A b e).map λr=>jW (ps.map λp=>aj cs r.2 p.1) r.1 by rw[zy];rfl];have sbB:=sbA.trans<|Sub.new (c:=.lst<|(seg A b e).map λr=>jW (ps.map λp=>aj cs r.2 p.1) r.1) WN;have hpB:=(Sub.new (c:=.lst<|(seg A b e).map λr=>jW (ps.map λp=>aj cs r.2 p.1) r.1) WN) _ _ WM;have hlB:(SA.set p6<|.lst<|(seg A b e).map λr=>jW (ps.map λp=>aj cs r.2 p.1) r.1) p6=some (.lst<|(seg A b e).map λr=>jW (ps.map λp=>aj cs r.2 p.1) r.1):=aa;generalize SA.set p6 (.lst<|(seg A b e).map λr=>jW (ps.map λp=>aj cs r.2 p.1) r.1)=SB at sbB hpB hlB⊢;have a0:gE ((seg A b e).map λr=>jW (ps.map λp=>aj cs r.2 p.1) r.1) 0=some (jW (ps.map λp=>aj cs r0.2 p.1) r0.1):=bG (j:=0) (by rw[zg,q0];rfl);have a1:gE ((seg A b e).map λr=>jW (ps.map λp=>aj cs r.2 p.1) r.1) (-1)=some (jW (ps.map λp=>aj cs r1.2 p.1) r1.1):=by unfold gE Ds;rw[zb,if_neg<|by decide,if_pos<|by lia,show((-1:Int)+(((seg A b e).length:Nat):Int)).toNat=(seg A b e).length-1 by lia];show((seg A b e).map λr=>jW (ps.map λp=>aj cs r.2 p.1) r.1)[(seg A b e).length-1]?=_;rw[zg,q1];rfl
 have m0:=mS r0<|zx q0;have m1:=mS r1<|zx q1;have p0:Gp cs ps (Ex cs ps "ahead" r0):=sW hg ho.pin (hA.an.rg.1 r0 m0) (hA.an.ky r0 m0) (by trivial);have p1:Gp cs ps (Ex cs ps "behind" r1):=sW hg ho.pin (hA.an.rg.1 r1 m1) (hA.an.ky r1 m1) (by trivial);have lyg:Ly SB 64 (.tup [oJ<|Ex cs ps "ahead" r0,oJ<|Ex cs ps "behind" r1]):=(Ly.tup (n:=3) λx hx=>by simp only[zj,zM,or_false]at hx;rcases hx with rfl|rfl;exact JG p0;exact JG p1).le (by decide);rw[Eu<|by lia]at q0;rw[sl,Eu<|by lia]at q1;have c0':=(hA.an.at hg ho.pin q0).1;have c1':=(hA.an.at hg ho.pin q1).2;refine !!{_,_,hlB,a0,n2,_,rfl,_,rfl,_,_,hlB,a1,n2,n2,eq_self lyg !⟨a_ ?_⟩};refine !{_,_,_,_,rfl,aV,rfl,_,rfl,a_ ?_};refine !!!!!!!!⟨(hq.sub<|JI.trans sbB).st (some<|Ex cs ps "ahead" r0) (some<|Ex cs ps "behind" r1) (λg z=>by cases z;exact p0) (λg z=>by cases z;exact p1) λA' p7 JH hp7=>?_⟩;obtain rfl:=hA.one hg ho.pin JH;rw[show uk cs ps wy A 0 (some<|Ex cs ps "ahead" r0)=b from c0',show uk cs ps wy A A.length (some<|Ex cs ps "behind" r1)=e from c1'.trans (by lia),w5 JP heA];exact !!⟨hU aa ((Sub.new hp7) _ _ hpB) (gs sg.1 sg.2) {S,((s3.trans JI).trans sbB).trans<|.new hp7,q}⟩
theorem Sg.up:∀{n:Nat}{d:D},Sg cs n d->Sg cs (n+1) d|0,_,h=>h.elim|n+1,d,h=>by rcases h with h|⟨e,h1,h2⟩|⟨o,ds,h1,h2,h3,h4⟩;exact .inl h;exact .inr<|.inl ⟨e,h1,h2.up⟩;exact .inr<|.inr {o,ds,h1,h2,h3,λe he=>(h4 e he).up}
theorem NP:∀{n:Nat}{d:D},Sg cs n d->pC (n+1) d=pC n d|0,_,h=>h.elim|n+1,d,h=>by show((mV d).map<|pC<|n+1).sum+1=((mV d).map<|pC n).sum+1;rw[zS λf hf=>NP<|IW h f hf]
theorem NQ(h:Sg cs n d)(h2:pC n d<=40):∀k,Sg cs (n+k) d/\pC (n+k) d<=40|0=>⟨h,h2⟩|k+1=>by obtain⟨a,b⟩:=NQ h h2 k;exact{a.up,by show pC (n+k+1) d<=40;rw[NP a];exact b}
theorem QU{P:Program}{w:World}{K:Frag}{mg:Str->Option Value}{base:Heap}{k N:Nat}{f:Addr}{fd:FuncData}{ps:List Str}{sp:Nat->kC}(F:∀n,n<=N->bI P w K mg base (fN P w mg) k f fd ps (qz K<|sp n)):bI P w K mg base (fN P w mg) k f fd ps (qz K λds S R Z=>∃n,n<=N/\sp n ds S R Z):={by rintro vs H Q E ⟨ds,S,R,Z,a,b,⟨n,hn,c⟩,d⟩;exact(F n hn).len vs H Q E ⟨ds,S,R,Z,a,b,c,d⟩,by rintro A outer s H args us vs Q E hr he hb hv ⟨ds,S,R,Z,a,b,⟨n,hn,c⟩,d⟩;exact(F n hn).run A outer s H args us vs Q E hr he hb hv ⟨ds,S,R,Z,a,b,c,d⟩}
theorem VC(ns:List Int):(b_ ns (some 12)<|some 42).length<=30:=by unfold b_;rw[show HT.sIx ns.length 0 (some 12)=min 12 ns.length from HT.sIx_nat ..,show HT.sIx ns.length ns.length (some 42)=min 42 ns.length from HT.sIx_nat ..];exact zD (List.length_take_le _ _)<|by lia
inductive JJ (t:ib) (ds:List D) (S:aw) (R:KD) (Z:KX):Prop where
 |mk (ns:List Int) (h0:ds=[.j6<|ns.map D.int]) (h1:ns.length<=63) (h2:Tb t S) (h3:R (.bl true) S)
structure Alw(t:ib)(ds:List D)(S:aw)(R:KD)(Z:KX):Prop where
 of:Nz t.ao t.dS ds S R Z
theorem Mw(T:Txt w K mg t)(B:Bm mg base):Ok P w base T.Zu 20 (JJ t):=by
 have GB:Ok P w base T.iB 5 _:=QU (sp:=QB) (N:=3) λn hn=>(oF T n).mono (by lia);have sZ:Bb P w mg base T.dF 3 (Alw t):=(uY T).Lq λds S R Z h=>h.of;refine T.Zu.F.bS jH ?_;obtain⟨ns,e,PK,S_,q⟩;refine{_,(sc (cj (i:=1) jH.nd<|aL T.om (CG T) hr<|ac (aL T.fb (iI T) hr<|al 0<|ac di an) an)<|sc (cj (i:=2) jH.nd<|aL T.wd (Jl T) hr<|al 1<|ac (aL T.fb (iI T) hr<|al 0<|ac di an) an)<|sc (cj (i:=3) jH.nd<|aL T.iB GB hr<|al 1<|ac (aL T.gf (hG T) hr<|ac (aL T.fb (iI T) hr<|al 0<|ac di an)<|ac di an)<|ac (bo bp hr.u (aL T.fb (iI T) hr<|al 0<|ac di an) di) an)<|sc (sa (aL T.wk (JD T) hr<|al 1<|ac (P2 (dv 0) (o1 di)<|o1 di) an)<|gt (n:=3)<|gc (gn (i:=4) jH.nd)<|gc (gn (i:=5) jH.nd)<|gc (gn (i:=6) jH.nd) g0)<|sc (vQ<|DM (il<|P2 (dv 0) (o1 di)<|o1 di) (gn (i:=7) jH.nd)<|s1<|si (cy<|tv<|aL T.wm (Gz T B) hr<|al 4<|al 5<|al 1<|al 2<|al 3<|al 7 an) (s1<|sr db) s0)<|sc (si (bj gH hr.u (cf (((fM T B).w).mono<|by decide) hr T.eX.m T.eX.k T.Aj d3<|al 4<|al 2<|al 3 an)<|aL T.mB (oK T) hr<|al 1<|al 2<|al 3<|ac (ix hr.u (dv 5)<|x6 di) an) (s1<|sr db) s0)<|s1<|sr<|pV (cm eP hr.u (aL T.qD (sX T) hr<|al 1<|al 2<|ac (bY<|ac (cz an)<|ac di<|ac di an) an) dn)<|Fm<|cm aU hr.u (T9 (dv 4) T.ak T.dF.e (sZ.mono<|by decide) hr T.n8 d1)<|aL T.wj (A3 T) hr<|al 6 an),?_};refine !{ns,0,rfl,λc0=>{c0,rfl,λcs hcg=>?_}};have hg:=hcg.1;refine !!{ns,1,rfl,λc1=>{cs,c1,rfl,hg,λps wy ho=>?_}};refine !!{ns,2,rfl,λc2=>{c2,14,rfl,by decide,λxs lx JX hx xQ=>!{ns,3,rfl,λc3=>{by decide,?_}}}};obtain⟨m,em⟩:=Int.eq_ofNat_of_zero_le<|show 0<=c3%3 from zO _ (by decide);have hm:m<3:=by have:=zL c3 (show(0:Int)<3 by decide);lia
 refine{m+1,by lia,cs,lx,m,xs,rfl,by rw[em];rfl,hcg,aa,by lia,hx,λd ys hd hsz _ _=>?_};rw[cF];have hsq:Sq cs d:=by have h13:pC (m+1) d<=40:=zD hsz (by rcases m with _|_|_|m<;>first|decide|lia);obtain⟨a,b⟩:=NQ hd h13<|6-m;rw[show m+1+(6-m)=7 by lia]at a b;exact{a,by lia}
 have s1:=Sub.new (c:=.lst<|ys.map D.int) xQ;generalize S.set lx (.lst<|ys.map D.int)=S1 at s1⊢;refine !!!!⟨λp1 tw=>{cs,p1,b_ ns (some 12)<|some 42,rfl,hg,by rw[m7];exact aa,VC ns,λS3 a lk lm kn ce F dl rs hb=>?_}⟩;have s2:=s1.trans<|Sub.new (c:=.lst<|b_ (ns.map D.int) (some 12)<|some 42) tw;generalize S1.set p1 (.lst<|b_ (ns.map D.int) (some 12)<|some 42)=S2 at s2 hb;have s3:=s2.trans hb.st.Jv.sub;have tb3:=S_.sub s3;have hle:=hb.le;have xP:=hb.len;refine !{rfl,_,_,rfl,_,_,rfl,_,_,rfl,rfl,?_};refine{λaB S'=>∃o7:Option D,aB=[some<|.j6<|ns.map D.int,some<|.tup<|cs.map ay,some<|bU ps wy,some d,some<|.ref a,some<|.ref lm,some<|.ref lk,o7]/\Sub S3 S',?_,?_};refine !!!⟨λp2 eS=>{_,aa,?_}⟩;have QN:=Sub.new (c:=.lst<|b_ (ns.map D.int) (some 4)<|some 12) eS;have hl:(S3.set p2<|.lst<|b_ (ns.map D.int) (some 4)<|some 12) p2=some (.lst<|b_ (ns.map D.int) (some 4)<|some 12):=aa;generalize S3.set p2 (.lst<|b_ (ns.map D.int) (some 4)<|some 12)=S4 at QN hl⊢;rw[m7]at hl⊢;generalize b_ ns (some 4) (some 12)=ls at hl⊢;refine{λi aB S'=>∃o7:Option D,aB=[some<|.j6<|ns.map D.int,some<|.tup<|cs.map ay,some<|bU ps wy,some d,some<|.ref a,some<|.ref lm,some<|.ref lk,o7]/\Sub S4 S',!⟨.refl _⟩,λi aB S' ⟨_,_,sb⟩=>sb _ _ hl,?_,?_};rintro i x aB S' hx ⟨o7,rfl,sb⟩;have hx:(ls.map D.int)[i]?=some x:=hx;obtain⟨c,_,rfl⟩:=zi.mp<|zx hx;have RQ:=QN.trans sb;exact !!!!!!{S2,a,lk,lm,cs,ps,wy,d,c,kn,ce,F,dl,rs,rfl,hg,ho,hsq,hb.sub RQ,tb3.sub RQ,_,rfl,a_ !⟨sb⟩};rintro aB S' ⟨o7,rfl,sb⟩;exact fo !⟨QN.trans sb⟩;rintro aB S4 ⟨o7,rfl,RQ⟩;have QQ:=hb.sub RQ;obtain⟨y,ey⟩:=hb.at (show dl.length<ce.length by lia);obtain⟨WJ,y60⟩:=(hb.snap ey).rg;have RP:Ew y.2:=(hb.snap ey).key;have hq:Qs t S4 a cs ps wy d .au y.2:={hg,ho,hsq,QQ.vn ey,RP,tb3.sub RQ};refine !!!⟨hq.st none none nofun nofun λA p3 hA L3=>?_⟩;rw[show b_ (A.map ai) (some ((uk cs ps wy A 0 none:Nat):Int)) (some ((uk cs ps wy A A.length none:Nat):Int))=A.map ai from(w5 (zT _)<|zq _).trans (by unfold seg;rw[List.drop_zero,Nat.sub_zero,yz])];have hAl:A.length<=60:=by rw[hA.pm.length_eq];exact zD (ym _ _) y60
 have QS:=Sub.new (c:=.lst<|A.map ai) L3;have GA:(S4.set p3<|.lst<|A.map ai) p3=some (.lst<|A.map ai):=aa;generalize S4.set p3 (.lst<|A.map ai)=S5 at QS GA⊢;have hb5:=QQ.sub QS;refine !!!!!{_,_,hb5.ml,hb.end ey,cs,ps,wy,d,_,_,A,rfl,hg,ho,hsq.1,hb5.cell ey,by lia,WJ,RP,hA,λp4 Me=>?_};refine hU ((Sub.new Me) _ _ GA) aa (gs hA.an.rg hA.an.ky) !⟨a_ ?_⟩;have NO:=QS.trans<|Sub.new (c:=.lst<|A.map ai) Me;generalize S5.set p4 (.lst<|A.map ai)=S6 at NO⊢;refine !!{mH,λp5 GA=>{so,cs,ps,wy,p5,[],3,4,rfl,hg,ho.pin,ho.len,aa,nofun,λ_=>?_,nofun}};have QT:=NO.trans<|Sub.new (c:=.lst []) GA;generalize S6.set p5 (.lst [])=S7 at QT⊢;have WO:=QQ.sub QT;obtain⟨ld,lr,ra,hh,_,_⟩:=id WO.st.sh;have ZV:=WO.ri.len WO.st.sh;refine{_,rfl,iH rfl !{a,_,rfl,hh.ins,rfl,{a,F,cs,dl,rs,.au,rfl,WO.st.sh,by lia,sD,λi ss hi hp hs p6 WN=>?_,λh=>by cases h}}};cases hi;have JI:=QT.trans<|Sub.new (c:=.lst<|ee rs ((dl.length:Nat):Int) ss) WN;have hp8:(S7.set p6<|.lst<|ee rs ((dl.length:Nat):Int) ss) p6=some (.lst<|ee rs ((dl.length:Nat):Int) ss):=aa;generalize S7.set p6 (.lst<|ee rs ((dl.length:Nat):Int) ss)=S8 at JI hp8⊢;have hb8:=QQ.sub JI;refine !{cs,lk,kn,rfl,hb8.st.at 0 rfl,hb.ki,λs2 p9 eS vj hp9=>?_};rw[Jr hb.ri hb.st.sh hb.ki hp hs eS vj,<-kr eS]at hp8;refine hU ((Sub.new hp9) _ _ hp8) aa ?_ {S,((s3.trans RQ).trans JI).trans<|.new hp9,q};rw[kr eS];exact QD hb.ki eS
def JK(t:ib)(K:Frag):Sp:=λvs H Q _=>qz K (JJ t) vs H Q E0
theorem QV(T:Txt w K mg t)(B:Bm mg base):bI P w K mg base VZ 20 t.Nt t.Iw ["_law_script"] (JK t K):=bI.calm<|Mw T B
theorem JL{w:World}{K:Frag}{mg:Str->Option Value}{t:ib}(T:Txt w K mg t){H:Hp}{a:Addr}{ns:List Int}(hl:ns.length<=63)(hO:z_ t.ts H)(hS:jf K H a<|ns.map V.int):JK t K [.ref a] H (λv _=>v=.bl true) λ_ _ _=>False:=by
 have hR:MY K H a (ns.map V.int):=by rcases hS with (h|h)|h;rcases hO.all a with q|⟨o,xs,q⟩|⟨_,q⟩;rw[q]at h;cases h;rw[q]at h;cases h;rw[q]at h;cases h;exact .inl h;exact .inr h
 have mO:t.aH≠t.aP:=λe=>by have:=T.np;rw[e]at this;simp at this
 have tok:∀q,DF H q #[]:=λq=>{trivial,λ_ _ e=>by cases e};refine{[.j6<|ns.map D.int],λb=>if b=t.aP then some (.tab qK) else if b=t.aH then some (.tab qV) else none,λd _=>d=.bl true,λ_ _=>False,aI (HF hR<|DD ns) br,λb c e=>?_,{ns,rfl,hl,{if_pos rfl,(if_neg mO).trans<|if_pos rfl},rfl},λd S v H' e r _ _=>by subst e;exact r.bl,λ_ _ _ z=>z.elim};by_cases h1:b=t.aP;have e:=(if_pos h1).symm.trans e;cases e;rw[h1];exact{#[],hO.tab _ T.mx,tok _};by_cases h2:b=t.aH;have e:=(if_neg h1).symm.trans e;have e:=(if_pos h2).symm.trans e;cases e;rw[h2];exact{#[],hO.tab _ T.kF,tok _};have e:=(if_neg h1).symm.trans e;have e:=(if_neg h2).symm.trans e;cases e
theorem QW{P:Program}{w:World}{K:Frag}{mg:Str->Option Value}{fa:Addr}{ts:List Addr}(OZ:mg "law"= some (.ref fa))(T:∃t:ib,t.ts=ts/\Txt w K mg t):∃(fd:FuncData) (sp:Sp),(∀b∈ts,∃c,codeHdIn K c b=true)/\(∀(s:Shared) (u:Value),BindsTo s fd {[u],[]} [("_law_script",u)])/\(∀base:Heap,Bm mg base->K.In base->base.Ns mainGlobals mg->bI P w K mg base VZ 20 fa fd ["_law_script"] sp)/\∀(H:Hp) (a:Addr) (ns:List Int),ns.length<=63->z_ ts H->jf K H a (ns.map V.int)->sp [.ref a] H (λv _=>v=.bl true) λ_ _ _=>False:=by obtain⟨t,et,T⟩:=T;have e0:=OZ.symm.trans T.Zu.m;cases e0;subst et;exact{_,_,λb hb=>(T.ta b<|hb).elim (λe=>{_,e ▸ T.dH}) λe=>{_,e ▸ T.cX},T.bl,λbase B kb nb=>QV T B,λH a ns hl hO hS=>JL T hl hO hS}
end My
end Tactic
open Tactic
local macro_rules|`(command|universe $xs*)=>do return Lean.mkNullNode (← (xs[0]!.getId.toString.foldl (fun (h,n,k,l) c=>let n:=n*62+(if c.isDigit then c.toNat-48 else if c.isUpper then c.toNat-55 else c.toNat-61);if k=9 then (h+n-10*62^9,0,0,l.push (h+n-10*62^9)) else (h,n,k+1,l)) (0,0,0,(#[]:Array Nat))).2.2.2.mapM fun v=>`(command|theorem $(Lean.mkIdent (.mkSimple s!"tw{v}")):ident : True:=trivial))
namespace PySem.W.Fast
universe BouPkLMQ1yAFiEtl66xeJ8kuweO49HAiLN7GfuLLBzKyc6n5vlA47S94WKsSAQ3hL0LqQPAUeA4st8n1BnVHoTZXjXA3Y7h76ZMCAtOXJ8MUXXAhN0NenEltA9MIDmaVVJAJYYzJsxgJA55hz2nruqAAZ05qhZu7CcBieJSmXjA0dW5jHoPxAD28VIIistAqIDpp5sjnBXFd1uCoQkBBYyLZ55m6BEMRTSbKnTCOLMJozTi8AZfbIKa4pvARinl0b5BYER2uYlOA4AAzDvaNCz2GAt4h7Ppi5TDKmxlPiXmbAfxxlGSuRuKnUrA92UIuEJIgQmj553CFYOJNcZuhAzEf9SXYesA8BHUv2G5IAoEGg5U3ILHOMG8h8OdlBMCdkxwLA4ACModNR7PbDJagGDNokeCCnXjJy80iAGkqnADXGHANIJJHZX0XBC2tzPAWJbBjhs1fbie1CRolA0kYLAAi9QQoa8BNAtjzpHxMJFA7ocvd6khCAQ1fzkuqzYDRcQJounDKEapIoGE7AdB9Nwpe0FPnDRsXUsHqlHCPJG8C9djxCE8tpmzLi6AALayAJqDBAumc71SbeBCqHO6VBodUFCfJEL7julBF3yDBykdyC0bzEoYawTEDkPP5mJYLCQtJ8cJ41QAboBmg5ew3BkonLzDnMSAmhT7mC2PcAfVDRXoqxbAR8INrneWjATaj9qoYrgBeu2Erp4iCAxLiycyO4RDSgu7xqpXGB2v5qxpliCDpqcgCIT2PB8rrYyDa6QAibuMNinvzAhrO2Dnf2zCPji8SaY8ZAoZJDYjWn9AAYQoxjDoDAi0n1oGuw2AfWd3zaon1Cs1q4geV1fBh9HYRUiqVC3FMw9HIOQARnBIKftfdBRpnXxuErDARphCg2ughBSw8GqGoZvC0OEkiZWBYANv2EYdlmvAiE0kGmEbEDSy7BIm3pzC7gUSobxiHC3mC5drPgJDoKS7WnvtSECzOxUQaRiGs2I81s08RAZe91CqJuIFsV0TksbO4E01g7mMBLlArcEc9UN4uAyD4E0OvF3AcQBHdyOEuAXqdZFckOGAikSeJDWzuCT2bYOC29PBuC6tPz6m3AoJHpaJgl7ArvrVp5YFIAQyAEVpHPyAqiclGKPLrBSenqeEerwCk0gXRDEPxABKwbW4UxuAF3tK3DJQPBIOuQ57okMAvN43qg2xuBRbiWbkFxhBIYCuGW0VqBfas6HTggRAPuIjeGo0MA6QjTbJVE3BniAOKaMfSDHNUsRHNWkByZilYitwoDsyEFIWGuBFBANturA0pCAzehMnlnnAOSmbJdEMhDIs00NzBwSBdLQy1pcOrAKNHMf2stfAQfqKa3oeBAdzU1BzHkjCuDVyUX2tyDEQFnjN7CcEthgfxcORAECNHcpUG6BAopkFxK47fFAkENnoeogA9dIca6NqnAIuMn1NTCuAXXSzLz15yAfUTxeiRUaArvxgurMUQABU7foUX6yBKjVKIlHI1HFgL7fujLyCRDbHuTP4EDN0jgFGS2VA8lr4qWhZMB7cWJo3A4MCnlCDMFmBqANyN1q0GF7AT9fkhcp28ARHxmF8G8qB6oa6e3l3LAJ2mvJFgnpA29D4NUTa6A6ibAHPp9dBEt1If416TATaG8Yw2WCCcCA1qfmqJB76Y2SIRoMBe5wZzhRg0EdrYCKq8CjCXzHqCL8KLBRNh9An69UA9P0PubpJjAXSyPjaDHnAF5h2sYwN5BDMKaOI6RKBSuLMoHNPBBbBQlRHMykCnuno6MWt9B4UU8Ykf86AQO3RwQzMSAV901RBGXPBXayNi9tfnC4SUkFvGVTA5wHzYfBKCBYXld84E2mB2AfvSW9EjAP7l1n2mtVAzVgTanIDDBQGD8W6qdjAa5Oxv4e3EA3frOOCzTTBLykaZE1MlBhcoC1hUDPEWYzxBNUBUBHRNZUYVFaC8cnyKkO6eDEfi9bSQjtA94p4vA4lCD04g8nR5ceEYVPNNwxo1AOFREDiMHKBhRHwxieLVA1ch6sXAjFBb0px6Sci5A2sf1MByawCvAVfs225nBXqh4hVR2vAQ01r8fOPpAi9XYA58oBAxE9GRfpagFxTATUJr1vBWEKLtAuArA9ogG3l9aSBXYwSSjXbJA7tXsrBzZMA4SiSU6G33BSd91mLAILCepBl3MwgpArSDjAPiYDAMkkPMMdCwACcpexeCe6AtXTZ6DSLzAvPtrorw9KBO4g4adZgzCA6Ao6cIG2Alo3yYDXWbEoGtJjP4aPAWRogsQVVBC05SuW3AvKBRIUyzyLyhCCR59J1i05AbZrmiASbwBBaO6SsKOjDL4B39yp5pFFEprSovH5BFDaOhDArRFbxFLFqXnvB7Ecf66Fo8A783jUh63vDPJlZpbsQvAcdcEMoVY1DhwNufQak9C9k1Db8mf8AlqxYotUoEDVKQNk3hvAFtYbHFl8nMAyoU1wxieiAd1Ak3nsEgB9iZ3LJ7MiAmDdGKb5mbGSyAZhh11yC5wT24xUTZABfxQsnbDbAwZ18JEjDOD2fWDQoO3JCfihKdqMnIB513iZMeJZAI6fbhD3qhAS9SclLUbEAmJ79t7MWQAskhSa79IrARAdKNgnAwABerlbzSGEC5dAiE7ZRGA96dGluUcyCvzIt4963PA9j7FBvQnZB48KuMLRrjAKNXNkmPlDAQJcp06xfgAf8LRDOjXGBiFyXy0zRLAAcbkygHVCBOGBDYgkOQA3qQTJEptdAaFVnMRYLCAFV9Og6rm2AN4z0MgxPVAnZyM6IPIHC5brJo33lJALdpA8PHeQAIRy1XN2tGEnUghWF5wFC8xPSHBSaLAXqKnEBiMmAG32rP4gbBA8smNaCXFkD90K8H9Rf8EA6kNFarr7BNLIc6eg8WA90Ucz2d9GE0mMK4NeWJCM5UvFp4AqCGn0fddzruBv5XmejE7iCyRFSrvcgEDY8fAjcafKDVSl4INnuYAgbIEUZvRnCGOLqRmmAcBFopwvPmaEEbL3EaGze8CJq9xU2GemAgInJUTTY8CyKELLYwzqBz4XQ24p8qAFk4E2xcmkDgp501chF6BXQfSUv1oPAC6wyMwjJSA1jORRQf6EALzJ0QjpuWAoWM9b0trlAJj0tF0iCnAj5LYRKoPhIEW9oEmK22DiLvzTKXl5ARVu2GEd5rAtiNqzpYLhB7IaJkzXTfAZq3TTB1KLC8kPsaQT5TFZFLpvwcMrECL50Pay9aBgKDqU86GMBEzSKO3TELFB3A6eIUCuAQZwJR1LxABKqdd2KTMuBglnrk01iYKVm4ygeCSsA3e6cj9gJaAdc9Vdsu1QA1hsZuGdg8Ad4zXVTKaQB8Aq4e8iLiDcS2Id5U8MACNvYqo0j1De530pocaXCRdDQ4N9lfBdOuH5rSMCAAOuI7ReS3Bo1dWaYF2gBlmndv9PwZAvm0Jkq9DUAFACn4BOxnB4GSUywvH0BJMtwOvC5FBGNI4FOr1dBJgbyw6QtOCe9GIU4OM5BO09H92tydB3RrLAMux9AlCvYk9FGtALKLk7McpsABaOFCIPjBBUZn4pDY0pCSYw4qh52jAmYA13ljJwFL63JQkV7lBIu8Pg1r2vAGVFQExqPbAEsZqFnm7hJsEgYmuhXdBjoncbQabTA2qfbjWGDrCCMB3T6Gu7ArQmVXtfZxAaY8CzthiLA4JQLc5nghARpn2Y4jGJA0UiotlvPYA8mLWYyIGxBwCrnr45T3Dhr8MYHysMA7pXJmT4LTBsJ42mPMFkEmZHpvkWtDAJJhK5NbeQA2MoyGmBZADnhpzMmdr4CrW6K7zStiBba44FPj5aA8TdLiu8vBK9N8HcYX20APeJ6LfXBEJYNtZAHKY6BHhKybsB8LBQCENuBFQ1FIa8Qr8Zo3Buv3WlmDSyAFegRhtDTqBZSpEbvNkfBQmsvMwLJhA0JwlN4eSkBpSenmdZbPCXo2jvhUfzAyfZAEMTUwCGPcPKZdsIB1zgjImeUkDOjOLIrTTEA931qg0BVdCEX36avu9EBdGthfnNOLC7lMtCWN8jAlPufEQNvwB4AJG9AWbJBuXnPbVMUlARbZa7HA0jAppPNwJFGOBMZoQtQfSyBMciyzoXhYBNJInGfuWkA525Us9rgTB5TXGylaoFBo8K7m4sdIC33kFwlJ59DwP5eUtISeA0efbj2mALBGdvX6eH7eBXw71zI8HyA1kebseZjhDMiADIpYpABGnXPKhAmrCuvDxnkJ1jB2K5bQj5UWAfmYNWSeP5EsAi2hEHODAMO9bMTEahBGNQTWqFjmDRpqHGNP6eCPaizYC6QSAqdRe25QNmBdr1Qj6TLIBjJbkWh670AOkbZb4uZoBuFyEpjflKBErSz9XJTRAwQF5334j2AFOVZaPRQDApOMit8VJSC5x4P0718zBXzgxfEgjoAAEAb2ppCIAUnceWggWDCEI3vrh8rSAvUI3mlu0BCaD8frKlfwB6y3dvAiPRATlyE2MWj8DxbZjFCIzOACF5aYzNf8HxZbUwyg2uAq09qkKzuDC1cdX6IO5TAZRsQQo1xvAM1nfzumTNG93bETGRbRCH4CiLRwBgBR5n18cPDiBNtdCeqSkSAEG06eYJ0oAveRUgl7zdACG0zyGBfbEztCCzXNl4EcXX8TsYjwCRZvfs4KtjBHgLaNmBKAAnSQLHGPUZAzfxn4LpZ6AQeTh1eLIZBRrksPLeaaIPWRfkmKUnAPz855VthzBjUEdGvWnuAB8MQ4S43yCabXLQiQ8IC6s3n1PtM5ApuIXopB5hAcl9tPDZ3tA7sJ0Doa27AHTYhnKViDAOGbv2K6fdBxDGR1raaTEO2bBTbiy3Ag9ePAxroJDvJEn32fMAATBJYANebJALUbGi6V1nAFekELyVjlDDpn6oHR99AzZzdWRqg8Al9cktV8WKAgNDbS9KKIBQLHP6oCfXA3ygLvEzrpBFoQdgcBIFB9B49iGeWEAwQubYLsYVBWDKqJHgh3AidTZ4YMRyCj24cYynhsEjlVdWNpGdAuVkZTOOYDAj2TuGsTjlBWFRCMwlcFC5MlOYB43tAykofFsWmfAazUWOe43cAAGjP2Pfr0BmbCvgPtReCm6ek1v8ZQBsgMX1SvFGAoswH2OFqLBc5ZMuVsRPBViTYO0rXEA92pf15QhlDcoAPqZjGfGoiwfIdzACGLtpC52gNlBKaLt18TN0EqytiwP6OYABUnoqY0JtBbMni7aCFdDKXnXjAeADBEv6k9EtnJBxJuJ1nxlwAVYa5x9QV3B8PqavEqOqDmc3p1xYC4ASKm4ux5GNAESKkynUJCC5s5ZC7vKQARCEvu1NhgAedROFpN7zAVdr7vyyydBswx3FMBSMAkYcWXsqNgBFZTh66yjeB6mEUm5P4OF7xC4oRgcVAyxkTJ0zCwALPyQUrMzXBz7uwZnsUWB7e1YRx2f1ARdfu2EzteBGN6yFO00wAsb6hQPXkECVjhXTSUVyCdsnGxejFgAQ97EkXzMzAouI7ZEMBSAVjGnQlcvXAXtUF1qjhSCMegZMdelBEEs3aqxCYRAf92FWzVUjA9G5iS8kmAA2C6A0ezUPAtuIjO8d8IA0HphvmsanBrzN8c26BfAEnmpuVX7DC13PIpO8eAAZ0Iyqdgr1Bpn9s2RmbyADE540W5MOAbJUyQ4gfWA8tkZudrdOBIMSnxpNnrCDzsq6gL4FCGgAEyzlSEBLmZq398HyBy0geYmnbrAt39Ven8MsDPsib6GQxtAzKjxXmFy2CTbkcbBH2ICBxjEp1Yq3ABWPJVAhAMDy4k4eibQwBe7MoW4OWEA1b3VbBMRyFnXfNFQB9NBXI6KkzfALBOG1Al9xpQANaoUK5j8UAQRWcr3wx7HYiORgCwCTAqL2BareeeCL3BY2BKBSCqVrUDdbMGBw5xqsEKOJA7srjzysXYAZPyFGD4daBx4Tct6ZSxAC7naSLPzWBSt7oi0aYhDZZ7qmKJ1EBDJQe1VhtLE1rqlVO9z5CiVawmA8vMAiD8LTVxdWEBYJulEZLJAiMBudgkEZAHxQV9I5mFAq7ShDhuSoA3PGUXtSndLpI0aqyh5pA9H1P1funmDXaCcK437WDdlb1GuiooB7Ntu1rTjTBowm9S3baeA0gKtJNCvfC6BScn4WnwBS32JymJfFBMUfDM7DnQAv1z3LSTo7AUn3bgDSTiAgjatAjytAGAYgGTI0ViAPqRw65FcmBHubuOHPfuBTK0bTsL0UBX9KujO1WHA9bqagc1PWCSWfjAt9IfBhTeBipiFZAjeIBYxw4CAMtRY4JKXvC8kYO9RJCCBCzbmF3thzA1HKTvqbjCD69MJ7NUbbA1B55xemGUA4eCSzX42eADxM19qxgDB5zTiCX4T2AlHq6Im4c7CEkJmgXPyVK6eXXpiSeTB9IlGfu7jqAg4ckxwmAzBhrHNaY4uoAQNI3ivxWrADy0sStm8vCkPLXQyPdhDtDVOvuL2yEGJkv6O9ZbDNCtC98aDiFzeRURlBu0A3hXM4yLSmD5kYDJwQaPAuSmdTmUjeBtyDwrCb8BAGMSNmJMuhAB0O9V8qx0Aih1rrodGMCLO4MqPLejBhRXnCWg94GSxMWLpMCxB7aLjNxFp0FgJJIyBYocA1akk2Y4mDAq56RZZfYKALjW7DHKKfAb1Pl6lbzfC9s6cWKvvaBMJQmgIhSNBGHUWpSpOkCWql8TllcOBMYMe896CcAT2sgzQGdvA0Z26KBQqcCjNrFglrlHBx91m5wjGtCjcLaoXzJyAqP5iP45ANA0shQfpoJfCG6om3Bp35AJbT1nTdVsAH0F1QnUxQB51P2UPs2FDAI2Mxe2ZCBKDK5cuaBGAOy2cDSMk1CfFOrCIOVMAifFmDJTU4AbTojmMCErA8j8rJCqRNBJT6hbMsZ2AO8SOGF9fDDCk6ExI7gWASfozHzi0VCiyGabWtowDFHsAawMCwG6hObdipH7AmcrrMa8iNCyTmr3zhFGCgfZv2feogB2qO54QUBqBjLVLGq7QNCI2nCoICUvAliR9qryE1BNIVbtbui2A19PUQJWJ9EbU841ZZ01CjwpJrqUAsAoOuswR16pAYXqM0WXUFA7bD2RXtjdBgxq9yazoFAikEUuvodhAE8200Bu8LB48iuHklgaAA1EeZv1aqATVcZsERVoBVdYyIRI7AAXyS1R7P3lDuhKo7ZSeFCXHYN6FbMyAchE2yBdx2BgUUkauNraARIo4u4tRKCU4EkRgQR3A754C2rJDRBBXwvl2fZ3AXuL085PdGDFr9CfnyrgFch3iozu9oA2h671gpwdCKUcV9nrdNBef3VMRoOcDS4l9OkGvLCs8FK2ZTFaKOrCnWaKp9Asj2j1Fc0wB42qjxsz4IBoOVm6Nr9THNLAoT9JxnAJJ2t8wD5HBkC6c9Zhu5AOUT39BTPbBPYCpKsRkUAzmdQ0ldD8AbM96h9acFAVvThzxAxiAp999UWP7zA2EZiHyV6dAXZkbc2FntBay4q6yzdXAPrsyv4nh2ADA2RtL57oCXQol1TYiXAoa1dXvh0lA57KRZK5BICU577n4aT3DBs9AftGJPAmLJdQmv05A6z6XOrexJDwYMi2MrDLCsUQ8uCmASBmTRX6pCPPAlSf4SOhzXCggby7G1teANTQ9HJ4v4CcEivykFTyB7U41Nd4QcA6uwybxFE3AbXEn1vvALA7x3uam4G8A7OQDWgxOsCIEQ2lnr7yAh4CR0msfuBKzmGoRRzIAspsCR6OY3CpkpTaHRoOA2gk1uz3ZiAKYgu9JTNdDWqbROKpHKE0oqJp804hAC8t0fQ8qWBU6NwcTdJXCqMsCavwcqB5gfKAM6VHBD25RP6Z44C6uJc2VYzWD4jDp0tz9UCvaJmLCa6fACWO8dOFlgA8gNIEqQXsClVGMiT9OyB9trF092AOAOJXaB6UGKAbOsOWhA6oHHe50o1kh0
end PySem.W.Fast
open PySem PySem.W PyProof.Rows
set_option maxRecDepth 100000 in
set_option maxHeartbeats 0 in
theorem PySem.Challenge.cw_pageturns_k32_gaps_and_stretches_holds : PySem.Challenge.rw_pageturns_k32_gaps_and_stretches.Holds := by
 w_on;o_law;k_head;(case hw=>w_witness2)
 k_fill
 refine L2.Im (l:=PySem.Challenge.rw_pageturns_k32_gaps_and_stretches) (n:=63) (k:=20) (x := "_law_script") (CX:=L2.VZ) rfl (by decide) rfl ⟨rfl,by decide,by decide⟩ (fun w h Y=>PySem.W.km_in_of Y) (fun w h Y=>PySem.W.km_tabs_of Y) (fun w h Y=>L2.LD Y (by trivial)) ?tF fun _ _ _ _ z=>z
 intro w mg fa h KX G OZ
 refine My.QW OZ ?_
 refine' L2.gvc KX G "Shelf" ?a1 ?b1 ?c1 ?d1 ?e1 ?f1 ?g1 fun Mx ao Mz k_Shelf=>?z1
 (case a1|b1|c1|d1|e1|f1|g1=>k_is)
 refine' L2.afx KX G (l:=[17,18,19,20,21,22,23,24,25,26,29,30,31,32,33,34,35,41,42,43,44,45,46,47,48,49,50,51,57,58,59,60,61,62,63,65,66,67,69,75,76,77,78,79,80,81,82,83,84,88,90,91,92,93,94,95,96,97,98,99,100,101,102,103,104,105,106,107,108,109,110,111,112]) (top:=My.top) ?xF fun f0 g0 A0=>?zF
 case xF =>
  repeat' (refine' L2.af KX G _ (by decide) ?a ?b ?c ?d ?e ?_;(case a|b|c|d=>k_is);(case e=>first|exact L2.US fun _=>rfl|exact L2.ln2 fun _ _=>rfl|exact L2.Rx fun _ _ _=>rfl|exact L2.Wv fun _ _ _ _=>rfl|exact L2.Zd fun _ _ _ _ _=>rfl|exact L2.UT fun _ _ _ _ _ _=>rfl|exact L2.Zc rfl))
  exact L2.af0
 refine' L2.amx ao (l:=[0,1,2,3,4,5,6,7,8,13]) (q := "Shelf.") (cl:=My.bA) ?xMShelf fun Cd aak C6=>?zMShelf
 case xMShelf =>
  repeat' (refine' L2.am ao _ (by decide) ?a ?b ?c ?d ?f ?e ?_;(case a|b|c|d|f=>k_is);(case e=>first|exact L2.US fun _=>rfl|exact L2.ln2 fun _ _=>rfl|exact L2.Rx fun _ _ _=>rfl|exact L2.Wv fun _ _ _ _=>rfl|exact L2.Zd fun _ _ _ _ _=>rfl|exact L2.UT fun _ _ _ _ _ _=>rfl|exact L2.Zc rfl))
  exact L2.am0
 refine' L2.Za KX G "sorted_by_keys" (My.top 68) ["rows","way"] ?a2 ?b2 ?c2 ?d2 ?e2 fun d0 e0 B0 F0=>?z2
 (case a2|b2|c2|d2=>k_is)
 (case e2=>exact L2.ln2 fun _ _=>rfl)
 refine' L2.Za KX G "sorted_by_values" (My.top 70) ["columns","part","rows"] ?a3 ?b3 ?c3 ?d3 ?e3 fun d1 e1 B1 F1=>?z3
 (case a3|b3|c3|d3=>k_is)
 (case e3=>exact L2.Rx fun _ _ _=>rfl)
 refine' L2.fne KX G "page_on" (My.top 73) ["shelf","order","sieve","size","gap","moment"] #[.none,.none] ?a4 ?b4 ?c4 ?d4 ?e4 ?f4 fun d2 F2=>?z4
 (case a4|b4|c4|d4|e4=>k_is)
 (case f4=>intro s us t;revert us;exact L2.UT fun _ _ _ _ _ _=>.of_defaults rfl t rfl rfl rfl)
 refine' L2.fne KX G "page_back" (My.top 74) ["shelf","order","sieve","size","gap","moment"] #[.none,.none] ?a5 ?b5 ?c5 ?d5 ?e5 ?f5 fun d3 F3=>?z5
 (case a5|b5|c5|d5|e5=>k_is)
 (case f5=>intro s us t;revert us;exact L2.UT fun _ _ _ _ _ _=>.of_defaults rfl t rfl rfl rfl)
 refine' L2.Zn KX G "stretch" (My.top 85) ["shelf","order","sieve","fore","hinder","moment"] #[.none,.none,.none] ?a6 ?b6 ?c6 ?d6 ?e6 ?f6 ?g6 ?h6 fun d4 F4 C4 D4=>?z6
 (case a6|b6|c6|d6|e6=>k_is)
 (case f6=>intro s us t;revert us;exact L2.UT fun _ _ _ _ _ _=>.of_defaults rfl t rfl rfl rfl)
 (case g6=>intro s us t;revert us;exact L2.Zo fun _ _ _ _=>.of_defaults rfl t rfl rfl rfl)
 (case h6=>intro s us t;revert us;exact L2.Zp fun _ _ _=>.of_defaults rfl t rfl rfl rfl)
 refine' L2.Za KX G "law" (My.top 113) ["_law_script"] ?a7 ?b7 ?c7 ?d7 ?e7 fun d5 e5 B5 F5=>?z7
 (case a7|b7|c7|d7=>k_is)
 (case e7=>exact L2.US fun _=>rfl)
 refine' L2.fmd ao "worths_at" "Shelf.worths_at" ((L2.inClass My.bA 9)) ["self","key","moment"] ?a8 ?b8 ?c8 ?d8 ?e8 ?f8 ?g8 ?h8 fun d6 F6 D6=>?z8
 (case a8|b8|c8|d8|e8|f8=>k_is)
 (case g8=>intro s us t;revert us;exact L2.Rx fun _ _ _=>.of_defaults rfl t rfl rfl rfl)
 (case h8=>intro s us t;revert us;exact L2.Zg fun _ _=>.of_defaults rfl t rfl rfl rfl)
 refine' L2.fmd ao "all_at" "Shelf.all_at" ((L2.inClass My.bA 10)) ["self","moment"] ?a9 ?b9 ?c9 ?d9 ?e9 ?f9 ?g9 ?h9 fun d7 F7 D7=>?z9
 (case a9|b9|c9|d9|e9|f9=>k_is)
 (case g9=>intro s us t;revert us;exact L2.ln2 fun _ _=>.of_defaults rfl t rfl rfl rfl)
 (case h9=>intro s us t;revert us;exact L2.Ze fun _=>.of_defaults rfl t rfl rfl rfl)
 refine' L2.LN KX G "MOST_NAME_SIGNS" 8 ?a10 fun nq=>?z10
 (case a10=>k_is)
 refine' L2.LN KX G "MOST_KEY_SIGNS" 12 ?a11 fun oM=>?z11
 (case a11=>k_is)
 refine' L2.LN KX G "MOST_WORD_SIGNS" 40 ?a12 fun nr=>?z12
 (case a12=>k_is)
 refine' L2.LN KX G "MOST_COLUMNS" 8 ?a13 fun s9=>?z13
 (case a13=>k_is)
 refine' L2.LN KX G "MOST_PARTS_orders" 8 ?a14 fun kM=>?z14
 (case a14=>k_is)
 refine' L2.LN KX G "MOST_DEEP" 8 ?a15 fun A4=>?z15
 (case a15=>k_is)
 refine' L2.LN KX G "MOST_PARTS_sieves" 200 ?a16 fun kN=>?z16
 (case a16=>k_is)
 refine' L2.LN KX G "MOST_IN_A_TUPLE" 8 ?a17 fun nv=>?z17
 (case a17=>k_is)
 refine' L2.LN KX G "MOST_ROWS" 1000 ?a18 fun A5=>?z18
 (case a18=>k_is)
 refine' L2.UR KX G "KINDS" ?a19 ?b19 fun MA w_KINDS=>?z19
 (case a19|b19=>k_is)
 refine' L2.UR KX G "OTHER_WAY" ?a20 ?b20 fun A6 w_OTHER_WAY=>?z20
 (case a20|b20=>k_is)
 refine' L2.UR KX G "OTHER_END" ?a21 ?b21 fun A7 w_OTHER_END=>?z21
 (case a21|b21=>k_is)
 refine' L2.UR KX G "OTHER_SIDE" ?a22 ?b22 fun xk w_OTHER_SIDE=>?z22
 (case a22|b22=>k_is)
 refine' L2.UR KX G "LENGTHS" ?a23 ?b23 fun GC w_LENGTHS=>?z23
 (case a23|b23=>k_is)
 refine' L2.xr KX G "len" ?a24 fun VD=>?z24
 (case a24=>k_is)
 refine' L2.xr KX G "all" ?a25 fun VE=>?z25
 (case a25=>k_is)
 refine' L2.xr KX G "any" ?a26 fun VF=>?z26
 (case a26=>k_is)
 refine' L2.xr KX G "isinstance" ?a27 fun xl=>?z27
 (case a27=>k_is)
 refine' L2.xr KX G "range" ?a28 fun MB=>?z28
 (case a28=>k_is)
 refine' L2.xr KX G "int" ?a29 fun VG=>?z29
 (case a29=>k_is)
 refine' L2.xr KX G "str" ?a30 fun VH=>?z30
 (case a30=>k_is)
 refine' L2.xr KX G "bool" ?a31 fun QX=>?z31
 (case a31=>k_is)
 refine' L2.xr KX G "tuple" ?a32 fun MC=>?z32
 (case a32=>k_is)
 refine' L2.xr KX G "list" ?a33 fun QY=>?z33
 (case a33=>k_is)
 refine' L2.xr KX G "dict" ?a34 fun QZ=>?z34
 (case a34=>k_is)
 refine' L2.xr KX G "set" ?a35 fun VI=>?z35
 (case a35=>k_is)
 refine' L2.xr KX G "zip" ?a36 fun VJ=>?z36
 (case a36=>k_is)
 refine' L2.xr KX G "sorted" ?a37 fun JM=>?z37
 (case a37=>k_is)
 refine' L2.xr KX G "min" ?a38 fun VL=>?z38
 (case a38=>k_is)
 refine' L2.xr KX G "max" ?a39 fun VM=>?z39
 (case a39=>k_is)
 refine' L2.xr KX G "sum" ?a40 fun VN=>?z40
 (case a40=>k_is)
 refine' L2.xr KX G "reversed" ?a41 fun C7=>?z41
 (case a41=>k_is)
 refine' L2.LO KX G "BadColumns" ?a42 ?b42 fun xm dG=>?z42
 (case a42=>k_is)
 (case b42=>k_exc)
 refine' L2.LO KX G "BadRow" ?a43 ?b43 fun JN gO=>?z43
 (case a43=>k_is)
 (case b43=>k_exc)
 refine' L2.LO KX G "BadOrder" ?a44 ?b44 fun C8 dq=>?z44
 (case a44=>k_is)
 (case b44=>k_exc)
 refine' L2.LO KX G "BadSieve" ?a45 ?b45 fun C9 iu=>?z45
 (case a45=>k_is)
 (case b45=>k_exc)
 refine' L2.LO KX G "BadPlace" ?a46 ?b46 fun C_ dr=>?z46
 (case a46=>k_is)
 (case b46=>k_exc)
 refine' L2.LO KX G "BadSize" ?a47 ?b47 fun GF n_=>?z47
 (case a47=>k_is)
 (case b47=>k_exc)
 refine' L2.LO KX G "HasKey" ?a48 ?b48 fun JO rS=>?z48
 (case a48=>k_is)
 (case b48=>k_exc)
 refine' L2.LO KX G "NoKey" ?a49 ?b49 fun MD v8=>?z49
 (case a49=>k_is)
 (case b49=>k_exc)
 refine' L2.LO KX G "NoMoment" ?a50 ?b50 fun Dc lH=>?z50
 (case a50=>k_is)
 (case b50=>k_exc)
 refine' L2.Zb ao "columns" ?a51 fun qm=>?z51
 (case a51=>k_is)
 refine' L2.Zb ao "deeds" ?a52 fun uq=>?z52
 (case a52=>k_is)
 refine' L2.Zb ao "runs" ?a53 fun xn=>?z53
 (case a53=>k_is)
 refine' L2.gvm KX e0 ?a54 ?b54 ?c54 fun oN=>?z54
 (case a54=>k_is)
 (case b54=>rfl)
 (case c54=>first|rfl|decide|simp [codeHdIn])
 refine' L2.gvm KX e1 ?a55 ?b55 ?c55 fun lT=>?z55
 (case a55=>k_is)
 (case b55=>rfl)
 (case c55=>first|rfl|decide|simp [codeHdIn])
 exact⟨⟨_,_,_,_,_,_,_,_,_,_,_,_,_,_,_,_,_,_,_,_,_,_,_,_,_,_,_,_,_,_,_,_,_,_,_,_,_,_,_,_,_,_,_,_,_,_,_,_,_⟩,rfl,⟨A0,C6,F0,F1,F2,F3,F4,C4,D4,F5,F6,D6,F7,D7,nq,oM,nr,s9,kM,A4,kN,nv,A5,MA,fun H=>L2.MZ (xs:=[.str "number",.str "word"]) ⟨_,_,_,w_KINDS,rfl,rfl,(by rw[yg];show 2≤16777216;decide),.cons ⟨_,rfl⟩ (.cons ⟨_,rfl⟩ (.nil))⟩ (L2.vI ["number","word"]),A6,⟨by first|rfl|decide,_,_,_,w_OTHER_WAY,⟨rfl,rfl,rfl⟩,rfl,.cons ⟨rfl,⟨_,rfl⟩,⟨_,rfl⟩⟩ (.cons ⟨rfl,⟨_,rfl⟩,⟨_,rfl⟩⟩ (.nil)),by trivial⟩,A7,⟨by first|rfl|decide,_,_,_,w_OTHER_END,⟨rfl,rfl,rfl⟩,rfl,.cons ⟨rfl,⟨_,rfl⟩,⟨_,rfl⟩⟩ (.cons ⟨rfl,⟨_,rfl⟩,⟨_,rfl⟩⟩ (.nil)),by trivial⟩,xk,⟨by first|rfl|decide,_,_,_,w_OTHER_SIDE,⟨rfl,rfl,rfl⟩,rfl,.cons ⟨rfl,⟨_,rfl⟩,⟨_,rfl⟩⟩ (.cons ⟨rfl,⟨_,rfl⟩,⟨_,rfl⟩⟩ (.nil)),by trivial⟩,GC,⟨by first|rfl|decide,_,_,_,w_LENGTHS,⟨rfl,rfl,rfl⟩,rfl,.cons ⟨rfl,⟨_,rfl⟩,⟨_,rfl⟩⟩ (.cons ⟨rfl,⟨_,rfl⟩,⟨_,rfl⟩⟩ (.cons ⟨rfl,⟨_,rfl⟩,⟨_,rfl⟩⟩ (.cons ⟨rfl,⟨_,rfl⟩,⟨_,rfl⟩⟩ (.cons ⟨rfl,⟨_,rfl⟩,⟨_,rfl⟩⟩ (.cons ⟨rfl,⟨_,rfl⟩,⟨_,rfl⟩⟩ (.cons ⟨rfl,⟨_,rfl⟩,⟨_,rfl⟩⟩ (.cons ⟨rfl,⟨_,rfl⟩,⟨_,rfl⟩⟩ (.cons ⟨rfl,⟨_,rfl⟩,⟨_,rfl⟩⟩ (.nil))))))))),by trivial⟩,VD,VE,VF,xl,MB,VG,VH,QX,MC,QY,QZ,VI,VJ,JM,VL,VM,VN,C7,xm,dG,JN,gO,C8,dq,C9,iu,C_,dr,GF,n_,JO,rS,MD,v8,Dc,lH,Mx,ao,⟨Mz,(C6 0 (by decide)).e.at_,(C6 0 (by decide)).e.fn,k_Shelf⟩,qm,uq,xn,e0,oN,by simp,e1,lT,by simp,by simp,by simp,fun s v=>B5 s [v] rfl⟩⟩
