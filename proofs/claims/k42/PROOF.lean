import PyProof.Rows.All
import Wide.All
import OpenK.AllK
import Wide.FinOn
import Lean
import PyProof.EqAt
import PyProof.EqKinds
import PyProof.TupleCall
import PyProof.NsDelKeeps
import KE.KIsBytes
import PyProof.Rows.SetFrom
import KE.KDictOf
import PyProof.AttrMissSeq
import PyProof.WalksMore
import PyProof.ZipIter
import PyProof.StrBlock2
import PyProof.StrBlockI
import PyProof.Rows.StrJoin2
import PyProof.Rows.CountFlat
import PyProof.Rows.Range3
import PyProof.SumWalkG
import PyProof.Rows.ListMulArg
import PyProof.FactsAll.tuple
import PyProof.EnumFor
import PyProof.EnumMake
import KE.KDictLaws
import KE.KDictSum
import KE.KRevIter
import PyProof.Rows.SortStr
import PyProof.Rows.SortWalk
import PyProof.AutoListH
import PyProof.StrLawsReplace
import PyProof.Rows.SortShellK
import KE.KLam
import KE.KSortKey
import KE.KNestM
import PyProof.EnumStmt
import PyProof.ListMulRoad
import PySem.Challenge.RW_pageturns_k42_walks_refused
set_option compiler.extract_closed false
set_option hygiene false in
local macro_rules|`(tactic|obtain $p:rcasesPatMed)=>`(tactic|(rintro _ _ _ _ _ _ _ S R Z hr ($p:rcasesPatMed);subst e))
local macro_rules|`(tactic| trivial)=>`(tactic| decide +kernel)
set_option Elab.async false
set_option linter.all false
set_option maxRecDepth 100000
set_option genInjectivity false
set_option genSizeOfSpec false
namespace Tactic
theorem qQQ(h:True:=by rfl):True:=h
def qQJ:Lean.Syntax:=qQQ._auto_1
theorem qQX(h:True:=by decide):True:=h
def qQZ:Lean.Syntax:=qQX._auto_1
theorem qQK(h:True:=by intro _;rfl):True:=h
def qQ0:Lean.Syntax:=qQK._auto_1
theorem qQ1(h:True:=by with_unfolding_all rfl):True:=h
def qQ2:Lean.Syntax:=qQ1._auto_1
theorem qQ3(h:True:=by exact⟨rfl,rfl,rfl,rfl⟩):True:=h
def qQ4:Lean.Syntax:=qQ3._auto_1
theorem qQ5(h:True:=by first|exact .inl rfl|exact .inr rfl|assumption):True:=h
def qQ6:Lean.Syntax:=qQ5._auto_1
theorem qQ7(h:True:=by first|exact .inl rfl|exact .inr rfl):True:=h
def qQ8:Lean.Syntax:=qQ7._auto_1
theorem qQ9(h:True:=by intro _ _ _ _ _;exact{Or.inl rfl,rfl}):True:=h
def qJQ:Lean.Syntax:=qQ9._auto_1
theorem qJJ(h:True:=by first|decide|omega):True:=h
def qJX:Lean.Syntax:=qJJ._auto_1
theorem qJZ(h:True:=by first|exact Or.inl rfl|exact Or.inr rfl):True:=h
def qJK:Lean.Syntax:=qJZ._auto_1
theorem qJ0(h:True:=by intro _ _ _ _ _;rfl):True:=h
def qJ1:Lean.Syntax:=qJ0._auto_1
theorem qJ2(h:True:=by trivial):True:=h
def qJ3:Lean.Syntax:=qJ2._auto_1
local macro_rules|`({$a:term})=>`(⟨$a⟩)|`({$a:term,$b:term,*})=>`(⟨$a,$b,*⟩)
local macro_rules|`(!$t)=>do{let mut t:=t;let mut n:=1;for _ in [0:20] do{if let `(!$u):=t then{t:=u;n:=n+1}};let xs←(match t with|`(⟨$x,*⟩)=>pure x.getElems|`({$x:term,$y:term,*})=>pure (#[x]++y.getElems)|_=>Lean.Macro.throwUnsupported);let mut a:=xs;for _ in [0:n] do{a:=#[←`(_),←`(rfl)]++a};`(⟨$a,*⟩)}
open PySem.W (instObj methodObj hideAll hideAll_get of_hideAll Frag lookIn plainGet hasDictIn findIn handedIn plainGet_of isFn plainOver takerIn makesIn emptyDict looks_findIn specialIn keepIn mroIn kitOne kia_one kitx_list cellsFrom_some fnOf codeIn codeRec_of excIn Looks KitX kitAny callWith_K callWith_K0 methodCall_KW envX kla_fn codeHdIn tabObj codeHd_of_K nsIn mg_of)
theorem za:type_of%@PySem.Heap.get?_push_of_some:=@PySem.Heap.get?_push_of_some
theorem zb:type_of%@PySem.wpAny_bind:=@PySem.wpAny_bind
theorem zc:type_of%@List.length_map:=@List.length_map
theorem zd:type_of%@Bool.false_ne_true:=@Bool.false_ne_true
theorem ze:type_of%@List.getElem?_eq_getElem:=@List.getElem?_eq_getElem
theorem zf:type_of%@List.mem_cons:=@List.mem_cons
theorem zg:type_of%@List.getElem?_eq_some_iff:=@List.getElem?_eq_some_iff
theorem zh:type_of%@List.mem_cons_of_mem:=@List.mem_cons_of_mem
theorem zi:type_of%@of_decide_eq_true:=@of_decide_eq_true
theorem zj:type_of%@List.mem_map:=@List.mem_map
theorem zk:type_of%@PySem.Heap.get?_push_size:=@PySem.Heap.get?_push_size
theorem zl:type_of%@Nat.lt_of_lt_of_le:=@Nat.lt_of_lt_of_le
theorem zm:type_of%@List.size_toArray:=@List.size_toArray
theorem zo:type_of%@Nat.le_refl:=@Nat.le_refl
theorem zp:type_of%@List.mem_cons_self:=@List.mem_cons_self
theorem zq:type_of%@decide_eq_false:=@decide_eq_false
theorem zr:type_of%@List.getElem?_map:=@List.getElem?_map
theorem zt:type_of%@PySem.Heap.lt_size:=@PySem.Heap.lt_size
theorem zu:type_of%@List.mem_singleton:=@List.mem_singleton
theorem zw:type_of%@PySem.wpAny_pure:=@PySem.wpAny_pure
theorem zx:type_of%@decide_eq_true:=@decide_eq_true
theorem zy:type_of%@Nat.ne_of_lt:=@Nat.ne_of_lt
theorem zA:type_of%@List.length_append:=@List.length_append
theorem zB:type_of%@List.map_map:=@List.map_map
theorem zC:type_of%@List.mem_append_right:=@List.mem_append_right
theorem zD:type_of%@List.not_mem_nil:=@List.not_mem_nil
theorem zE:type_of%@List.getD_eq_getElem?_getD:=@List.getD_eq_getElem?_getD
theorem zG:type_of%@List.length_cons:=@List.length_cons
theorem zH:type_of%@List.map_append:=@List.map_append
theorem zI:type_of%@List.mem_of_getElem?:=@List.mem_of_getElem?
theorem zJ:type_of%@List.map_cons:=@List.map_cons
theorem zK:type_of%@PySem.F.plainAttrs_list:=@PySem.F.plainAttrs_list
theorem zL:type_of%@Nat.le_trans:=@Nat.le_trans
theorem zM:type_of%@of_decide_eq_false:=@of_decide_eq_false
theorem zN:type_of%@List.lookup_cons:=@List.lookup_cons
theorem zO:type_of%@PySem.F.slot_list_append:=@PySem.F.slot_list_append
theorem zP:type_of%@PySem.F.type_list_append:=@PySem.F.type_list_append
theorem zQ:type_of%@Bool.and_eq_true:=@Bool.and_eq_true
theorem zR:type_of%@List.mem_append:=@List.mem_append
theorem zS:type_of%@List.mem_append_left:=@List.mem_append_left
theorem zT:type_of%@List.mem_range:=@List.mem_range
theorem zU:type_of%@Option.some.inj:=@Option.some.inj
theorem zV:type_of%@Bool.true_and:=@Bool.true_and
theorem zW:type_of%@Bool.false_and:=@Bool.false_and
theorem zX:type_of%@List.map_congr_left:=@List.map_congr_left
theorem zY:type_of%@PySem.sizeLine_eq:=@PySem.sizeLine_eq
theorem zZ:type_of%@Nat.zero_le:=@Nat.zero_le
theorem z0:type_of%@List.find?_cons:=@List.find?_cons
theorem ya:type_of%@PySem.Heap.size_push:=@PySem.Heap.size_push
theorem yb:type_of%@Int.emod_lt_of_pos:=@Int.emod_lt_of_pos
theorem yc:type_of%@PySem.wpAny_field:=@PySem.wpAny_field
theorem yd:type_of%@Int.emod_nonneg:=@Int.emod_nonneg
theorem ye:type_of%@List.all_eq_true:=@List.all_eq_true
theorem yf:type_of%@List.length_replicate:=@List.length_replicate
theorem yg:type_of%@PySem.mem_of_lookup:=@PySem.mem_of_lookup
theorem yh:type_of%@List.length_take:=@List.length_take
theorem yi:type_of%@List.mem_filter:=@List.mem_filter
theorem yj:type_of%@PySem.wpAny_mono:=@PySem.wpAny_mono
theorem yk:type_of%@Nat.ne_of_gt:=@Nat.ne_of_gt
theorem ym:type_of%@List.append_nil:=@List.append_nil
theorem yn:type_of%@List.nodup_cons:=@List.nodup_cons
theorem yo:type_of%@PySem.Heap.get?_update_other:=@PySem.Heap.get?_update_other
theorem yp:type_of%@Array.length_toList:=@Array.length_toList
theorem yq:type_of%@PySem.wpAny_truthy_bool:=@PySem.wpAny_truthy_bool
theorem yr:type_of%@decide_eq_true_eq:=@decide_eq_true_eq
theorem yt:type_of%@PySem.Heap.get?_update_self:=@PySem.Heap.get?_update_self
theorem yu:type_of%@PySem.F.slot_dict_get:=@PySem.F.slot_dict_get
theorem yw:type_of%@PySem.Obj.data_mapFields:=@PySem.Obj.data_mapFields
theorem yx:type_of%@Nat.lt_irrefl:=@Nat.lt_irrefl
theorem yy:type_of%@PySem.Heap.SameBut.update:=@PySem.Heap.SameBut.update
theorem yz:type_of%@List.length_reverse:=@List.length_reverse
theorem yA:type_of%@List.filter_sublist:=@List.filter_sublist
theorem yB:type_of%@Bool.eq_iff_iff:=@Bool.eq_iff_iff
theorem yC:type_of%@PySem.Calls.spliced_cons:=@PySem.Calls.spliced_cons
theorem yD:type_of%@PySem.wpAny_Call_Name_kw:=@PySem.wpAny_Call_Name_kw
theorem yE:type_of%@decide_eq_decide:=@decide_eq_decide
theorem yF:type_of%@PySem.wpAny_newObj_type:=@PySem.wpAny_newObj_type
theorem yG:type_of%@List.foldl_cons:=@List.foldl_cons
theorem yH:type_of%@Bool.or_eq_true:=@Bool.or_eq_true
theorem yI:type_of%@PySem.codeAny_builtin:=@PySem.codeAny_builtin
theorem yJ:type_of%@PySem.wpAny_holding:=@PySem.wpAny_holding
theorem yK:type_of%@PySem.wpAny_call_entry:=@PySem.wpAny_call_entry
theorem yL:type_of%@Sum.inr.inj:=@Sum.inr.inj
theorem yM:type_of%@Nat.le_of_lt:=@Nat.le_of_lt
theorem yN:type_of%@PySem.codeAny_mono:=@PySem.codeAny_mono
theorem yO:type_of%@List.any_cons:=@List.any_cons
theorem yP:type_of%@Bool.false_or:=@Bool.false_or
theorem yQ:type_of%@PySem.wpAny_setField:=@PySem.wpAny_setField
theorem yR:type_of%@Nat.succ.inj:=@Nat.succ.inj
theorem yS:type_of%@Nat.le_succ:=@Nat.le_succ
theorem yT:type_of%@PySem.wpAny_of_eq:=@PySem.wpAny_of_eq
namespace L2
open PySem PySem.Spec PyProof.Rows
abbrev Key:=Sum Int Str
def keyIs:Key->Value->Bool|.inl k,v=>Value.isInt k v|.inr x,v=>Value.isStrOf x v
def Xq(w:World):Key->Int|.inl k=>hashInt k|.inr x=>hashStr w x
theorem bb:∀{k:Key}{v:Value},keyIs k v=true->(∃i t,k=Sum.inl i/\v=Value.int i t)\/(∃x t,k=Sum.inr x/\v=Value.str x t)|.inl i,v,h=>(by obtain⟨t,e⟩:=Value.isInt_shape (k:=i) (v:=v) h;exact .inl ⟨i,t,rfl,e⟩)|.inr x,v,h=>by obtain⟨t,e⟩:=Value.isStrOf_shape (x:=x) (v:=v) h;exact .inr ⟨x,t,rfl,e⟩
theorem D0(i:Int)(t:Tok):keyIs (.inl i) (.int i t)=true:=by simp[keyIs,Value.isInt]
theorem D1(x:Str)(t:Tok):keyIs (.inr x) (.str x t)=true:=by simp[keyIs,Value.isStrOf]
theorem NS(a b:Int):decide ((Sum.inl a:Key)=Sum.inl b)=(a==b):=by by_cases e:a=b;subst e;simp;have h:¬(Sum.inl a:Key)=Sum.inl b:=λq=>e<|Sum.inl.inj q;rw[zq h];exact(beq_eq_false_iff_ne.mpr e).symm
theorem NT(a b:Str):decide ((Sum.inr a:Key)=Sum.inr b)=decide (a=b):=by by_cases e:a=b;subst e;simp;have h:¬(Sum.inr a:Key)=Sum.inr b:=λq=>e<|yL q;rw[zq h,zq e]
theorem NU(a:Int)(b:Str):decide ((Sum.inl a:Key)=Sum.inr b)=false:=zq λq=>nomatch q
theorem NV(a:Str)(b:Int):decide ((Sum.inr a:Key)=Sum.inl b)=false:=zq λq=>nomatch q
def aE(prog:Program)(w:World):PySem.KeyKind prog w Key where
 is:=keyIs
 hash:=Xq w
 inj:=λv a b ha hb=>by
  rcases bb ha with⟨i,t,rfl,rfl⟩|⟨x,t,rfl,rfl⟩
  ·rcases bb hb with⟨j,u,rfl,e⟩|⟨y,u,rfl,e⟩
   ·injection e with e1 _;rw[e1]
   ·exact nomatch e
  ·rcases bb hb with⟨j,u,rfl,e⟩|⟨y,u,rfl,e⟩
   ·exact nomatch e
   ·injection e with e1 _;rw[e1]
 byValue:=λk v h=>by
  rcases bb h with⟨i,t,rfl,rfl⟩|⟨x,t,rfl,rfl⟩<;>rfl
 pyHash:=λhv h=>by
  rcases bb hv with⟨i,t,rfl,rfl⟩|⟨x,t,rfl,rfl⟩
  ·exact wpAny_pyHash_int h
  ·exact wpAny_pyHash_str h
 eqBool:=λhu hv h=>by
  rcases bb hu with⟨i,t,rfl,rfl⟩|⟨x,t,rfl,rfl⟩
  ·rcases bb hv with⟨j,u,rfl,rfl⟩|⟨y,u,rfl,rfl⟩
   ·rw[NS]at h;exact wpAny_eqBool_int h
   ·rw[NU]at h;exact SeqAt.EqAt.int_str i t y u _ _ _ _ h
  ·rcases bb hv with⟨j,u,rfl,rfl⟩|⟨y,u,rfl,rfl⟩
   ·rw[NV]at h;exact SeqAt.EqAt.str_int x t j u _ _ _ _ h
   ·rw[NT]at h;exact wpAny_eqBool_str h
 «strs»:=λk x t v h=>by
  rcases bb h with⟨i,u,rfl,e⟩|⟨y,u,rfl,e⟩
  ·exact nomatch e
  ·injection e with e1 _
   subst e1
   cases v<;>rfl
theorem wN(prog:Program)(w:World)(i:Int)(t:Tok):(aE prog w).is (.inl i) (.int i t)=true:=D0 i t
theorem jc(prog:Program)(w:World)(x:Str)(t:Tok):(aE prog w).is (.inr x) (.str x t)=true:=D1 x t
set_option genInjectivity true in
set_option genSizeOfSpec true in
inductive V where
 |ao|bl (b:Bool)|int (i:Int)|str (x:Str)|Cv (b:Array UInt8)|NW (b:UInt64)|ref (a:Addr)|ty (n:String)
 deriving DecidableEq
def RelV:V->Value->Prop|.ao,u=>u=Value.none|.bl b,u=>u=Value.bool b|.int i,u=>∃t,u=Value.int i t|.str x,u=>∃t,u=Value.str x t|.Cv b,u=>∃t,u=Value.bytes b t|.NW b,u=>∃t,u=Value.float b t|.ref a,u=>u=Value.ref a|.ty n,u=>u=Value.type n
abbrev Vals:List V->List Value->Prop:=Paired RelV
theorem Vals.length{xs:List V}{us:List Value}(r:Vals xs us):xs.length=us.length:=Paired.length r
theorem Vals.get:∀{xs:List V}{us:List Value}{i:Nat}{x:V},Vals xs us->xs[i]?=some x->∃u,us[i]?=some u/\RelV x u|_,_,_,_,.nil,e=>by simp at e|_,_,0,_,.cons r _,e=>by simp at e;subst e;exact{_,rfl,r}|_,_,i+1,x,.cons _ t,e=>by obtain⟨u,h1,h2⟩:=Vals.get (i:=i) (x:=x) t (by simpa using e);exact{u,by simpa using h1,h2}
theorem Vals.set(r:RelV x u):∀{xs:List V}{us:List Value}(i:Nat),Vals xs us->Vals (xs.set i x) (us.set i u)|_,_,_,.nil=>.nil|_,_,0,.cons _ t=>.cons r t|_,_,i+1,.cons q t=>.cons q<|Vals.set r i t
theorem Vals.append:∀{xs ys:List V}{us ws:List Value},Vals xs us->Vals ys ws->Vals (xs++ys) (us++ws)|_,_,_,_,.nil,s=>s|_,_,_,_,.cons r t,s=>.cons r<|Vals.append t s
theorem Vals.take:∀{xs:List V}{us:List Value}(n:Nat),Vals xs us->Vals (xs.take n) (us.take n)|_,_,0,_=>.nil|_,_,_+1,.nil=>.nil|_,_,n+1,.cons r t=>.cons r<|Vals.take n t
theorem Vals.drop:∀{xs:List V}{us:List Value}(n:Nat),Vals xs us->Vals (xs.drop n) (us.drop n)|_,_,0,r=>r|_,_,_+1,.nil=>.nil|_,_,n+1,.cons _ t=>Vals.drop n t
def fY:Option V->Option Value->Prop|some v,some u=>RelV v u|none,none=>True|_,_=>False
def KV{κ:Type} : List (κ×V)->List (κ×Value)->Prop:=Paired λ(p:κ×V)(q:κ×Value)=>p.1=q.1/\RelV p.2 q.2
def kV:Key->V|.inl i=>.int i|.inr x=>.str x
set_option genInjectivity true in
set_option genSizeOfSpec true in
inductive HO where
  |lst (xs:List V)
  |tup (xs:List V)
  |dK (kvs:List<|Key×V)|dT (kvs:List<|List Key×V)
  |set (S:Int->Bool) (n:Nat)
  |ins (C dx:Addr) (fs:List<|Str×V)
  |own (x:Addr)
  |xd (fs:List<|Str×V)
  |met (f x:Addr)
  |Wj (lo hi:Int)
  |k7 (o:Obj) (u:HO)
  |pQ (ps:Array Value)
  |ext (φ:Heap->Prop)
abbrev Hp:=Addr->Option HO
noncomputable def upd(H:Hp)(a:Addr)(o:HO):Hp:=λb=>if b=a then some o else H b
theorem aC{H:Hp}{a:Addr}{o:HO} : upd H a o a=some o:=by unfold upd;rw[if_pos rfl]
theorem ar{H:Hp}{a b:Addr}{o:HO}(h:b≠a):upd H a o b=H b:=by unfold upd;rw[if_neg h]
theorem ax{H:Hp}{a b:Addr}{o:HO}(h:H a=some o)(h':H b=none):a≠b:=by intro e;subst e;rw[h]at h';cases h'
def gz(h:Heap)(a:Addr)(items:Array Value):Prop:=∃o,h.get? a=some o/\o.cls=.type "tuple"/\o.dict=none/\∃n,o.data=.seq items n
theorem gz.tup(x:gz h a items):IsTup h a items:=by obtain⟨o,e,c,_,n,d⟩:=x;exact⟨o,e,c,n,d⟩
theorem gz.lt(x:gz h a items):a<h.objs.size:=x.tup.lt
theorem gz.new(h:Heap)(items:Array Value):gz (h.push {cls:=.type "tuple",data:=.seq items}) h.objs.size items:={_,zk _ rfl,rfl,rfl,_,rfl}
section
variable(P:Program)(w:World)
def aV(H:Hp)(h:Heap)(a:Addr):HO->Prop|.lst xs=>xs.length<=sizeLine/\∃(az:List Value) (n:Nat),Vals xs az/\h.get? a=some {cls:=.type "list",data:=.seq az.toArray n}|.tup xs=>xs.length<=sizeLine/\∃az:List Value,Vals xs az/\gz h a az.toArray|.dK kvs=>kvs.length<=sizeLine/\(a==sysModules)=false/\∃vs,KV kvs vs/\h.DictOf (aE P w) a vs|.dT _=>False|.set S n=>h.SetOf (intKind P w) a S n|.ins C dx fs=>H dx=some (.own a)/\fs.length<=1000/\dx≠a/\h.get? a=some (instObj C dx)/\∃mA,h.Ns1 dx mA/\(∀f,fY (fs.lookup f)<|mA f)/\PySem.Within mA (fs.map (·.1))|.own _=>∃o,h.get? a=some o|.xd fs=>∃mA,h.Ns1 a mA/\∀f,fY (fs.lookup f) (mA f)|.Wj lo hi=>∃t u v,h.get? a=some {cls:=.type "range",data:=.fields #[.int lo t,.int hi u,.int 1 v]}|.k7 o u=>h.get? a=some o/\aV H h a u|.pQ ps=>h.get? a=some {cls:=.none,data:=.fields ps}|.met f x=>h.get? a=some (methodObj (.ref f)<|.ref x)|.ext φ=>φ h/\(∃o,h.get? a=some o)/\∀h1 h2:Heap,φ h1->(∀o,h1.get? a=some o->h2.get? a=some o)->φ h2
def kr(H:Hp)(h:Heap):Prop:=∀a o,H a=some o->aV P w H h a o
end
section
variable{P:Program}{w:World}{H H':Hp}{h h':Heap}{a:Addr}{o:HO}
theorem aV.lt(x:aV P w H h a o):a<h.objs.size:=by cases o with|lst xs=>(obtain⟨_,_,_,_,e⟩:=x;exact zt e)|tup xs=>(obtain⟨_,_,_,p⟩:=x;exact p.lt)|dK kvs=>(obtain⟨_,_,_,_,o,_,_,e,_⟩:=x;exact zt e)|dT kvs=>exact False.elim x|set S n=>(obtain⟨o,_,_,_,e,_⟩:=x;exact zt e)|ins C dx fs=>(obtain⟨_,_,_,e,_⟩:=x;exact zt e)|own y=>(obtain⟨_,e⟩:=x;exact zt e)|xd fs=>(obtain⟨_,⟨_,_,_,e,_⟩,_⟩:=x;exact zt e)|Wj lo hi=>(obtain⟨_,_,_,e⟩:=x;exact zt e)|k7 ob u=>(obtain⟨e,_⟩:=x;exact zt e)|pQ ps=>exact zt (show h.get? a=some _ from x)|met f y=>exact zt (show h.get? a=some _ from x)|ext φ=>obtain⟨_,⟨_,e⟩,_⟩:=x;exact zt e
theorem aV.lR(x:aV P w H h a o)(k:∀b u,(b=a\/H b=some (.own a))->h.get? b=some u->h'.get? b=some u) (ho:∀b,H b=some (.own a)->H' b=some (.own a)) (ht:∀b xs,H b=some (.tup xs)->H' b=some (.tup xs)):aV P w H' h' a o:=by induction o with|lst xs=>(obtain⟨z,az,n,r,e⟩:=x;exact{z,az,n,r,k _ _ (.inl rfl) e})|tup xs=>(obtain⟨z,az,r,ob,e,c⟩:=x;exact{z,az,r,ob,k _ _ (.inl rfl) e,c})|dK kvs=>(obtain⟨z,y,vs,r,ob,es,ep,e,c⟩:=x;exact{z,y,vs,r,ob,es,ep,k _ _ (.inl rfl) e,c})|dT kvs=>exact False.elim x|set S n=>(obtain⟨ob,es,ep,t,e,c⟩:=x;exact{ob,es,ep,t,k _ _ (.inl rfl) e,c})|ins C dx fs=>(obtain⟨d,z,ne,e,mA,⟨od,es,ep,e2,c⟩,r⟩:=x;exact{ho _ d,z,ne,k _ _ (.inl rfl) e,mA,{od,es,ep,k _ _ (.inr d) e2,c},r})|own y=>(obtain⟨ob,e⟩:=x;exact{ob,k _ _ (.inl rfl) e})|xd fs=>(obtain⟨mA,⟨od,es,ep,e,c⟩,r⟩:=x;exact{mA,{od,es,ep,k _ _ (.inl rfl) e,c},r})|Wj lo hi=>(obtain⟨t,u,v,e⟩:=x;exact{t,u,v,k _ _ (.inl rfl) e})|k7 ob u ih=>(obtain⟨e,q⟩:=x;exact{k _ _ (.inl rfl) e,ih q})|pQ ps=>have e:h.get? a=some {cls:=.none,data:=.fields ps}:=x;show h'.get? a=some {cls:=.none,data:=.fields ps};exact k a _ (.inl rfl) e|met f y=>have e:h.get? a=some (methodObj (.ref f)<|.ref y):=x;show h'.get? a=some (methodObj (.ref f)<|.ref y);exact k a _ (.inl rfl) e|ext φ=>obtain⟨p,⟨o,e⟩,st⟩:=x;exact{st _ _ p λo q=>k _ _ (.inl rfl) q,{o,k _ _ (.inl rfl) e},st}
theorem kr.lt(x:kr P w H h)(e:H a=some o):a<h.objs.size:=(x a o e).lt
theorem kr.fresh(x:kr P w H h)(e:h.objs.size<=a):H a=none:=by cases q:H a with|none=>rfl|some u=>exact absurd (zl (x.lt q) e)<|yx _
theorem kr.kept(x:kr P w H h)(k:∀b u,h.get? b=some u->h'.get? b=some u):kr P w H h':=λa o e=>(x a o e).lR (λb u _ q=>k b u q) (λ_ q=>q) λ_ _ q=>q
theorem kr.laid(x:kr P w H h)(k:∀b u,h.get? b=some u->h'.get? b=some u)(hp:h.objs.size<=a)(new:aV P w (upd H a o) h' a o):kr P w (upd H a o) h':=λb u e=>by have hn:=x.fresh hp;by_cases hb:b=a;subst hb;rw[aC]at e;cases e;exact new;rw[ar hb]at e;exact(x b u e).lR (λc v _ q=>k c v q) (λc q=>by rw[ar<|ax q hn];exact q) λc xs q=>by rw[ar<|ax q hn];exact q
end
def Rd(H:Hp)(a:Addr)(u:HO):Prop:=H a=some u\/∃o,H a=some (.k7 o u)
theorem Rd.of(h:H a=some u):Rd H a u:=.inl h
theorem Rd.ok{P:Program}{w:World}{H:Hp}{h:Heap}{a:Addr}{u:HO}(r:Rd H a u)(x:kr P w H h):aV P w H h a u:=by rcases r with r|⟨o,r⟩;exact x a u r;obtain⟨_,q⟩:=x a _ r;exact q
def Sh:Option HO->Prop|some (.lst _)=>True|some (.dK _)=>True|some (.dT _)=>True|some (.set _ _)=>True|some (.ins _ _ _)=>True|some (.ext _)=>True|_=>False
section
variable{P:Program}{w:World}{H:Hp}{h h':Heap}{x e:Addr}{o':HO}
theorem kr.write(ok:kr P w H h)(mu:Sh<|H x)(he:e=x\/H e=some (.own x))(k:∀b u,b≠e->h.get? b=some u->h'.get? b=some u)(Rp:∃u,h'.get? e=some u) (new:aV P w (upd H x o') h' x o'):kr P w (upd H x o') h':=λb u q=>by
 have Si:∀c y,H c=some (.own y)->c≠x:=λc y r z=>by subst z;rw[r]at mu;exact mu
 have Xr:∀c xs,H c=some (.tup xs)->c≠x:=λc xs r z=>by subst z;rw[r]at mu;exact mu
 by_cases hb:b=x;subst hb;rw[aC]at q;cases q;exact new;rw[ar hb]at q;by_cases NX:b=e;have q':H b=some (.own x):=by rcases he with z|z;exact absurd (NX.trans z) hb;rw[NX];exact z
 rw[q]at q';cases q';obtain⟨v,hv⟩:=Rp;exact{v,by rw[NX];exact hv};refine(ok b u q).lR (λc v hc r=>k c v ?_ r) (λc r=>by rw[ar<|Si c b r];exact r) λc xs r=>by rw[ar<|Xr c xs r];exact r
 rcases hc with rfl|hc;exact NX;rintro rfl;rcases he with z|z;exact Si c b hc z;rw[hc]at z;cases z;exact hb rfl
end
structure Un(fs ex:List Addr)(H H':Hp)(h h':Heap):Prop where
 keep:∀b o,h.get? b=some o->H b=none->b∉fs->b∉ex->h'.get? b=some o
 slot:∀b o,h.get? b=some o->H b=none->b∈fs->b∉ex->∃sl,h'.get? b=some {o with slots:=sl}
 free:∀b o,h.get? b=some o->H b=none->b∉ex->H' b=none
 there:∀b o,h.get? b=some o->b∉ex->∃o',h'.get? b=some o'
 fZ:∀b xs,H b=some (.tup xs)->H' b=some (.tup xs)
 fG:∀b o u,H b=some (.k7 o u)->H' b=some (.k7 o u)
 fH:∀b ps,H b=some (.pQ ps)->∃more,H' b=some (.pQ<|ps++more)
section
variable{fs ex:List Addr}{H H1:Hp}{h h1 h':Heap}{a x e:Addr}{o:HO}
theorem Un.any(u:Un fs ex H H1 h h1){b:Addr}{ob:Obj}(q:h.get? b=some ob)(n:H b=none)(hx:b∉ex):∃sl,h1.get? b=some {ob with slots:=sl}:=by by_cases hb:b∈fs;exact u.slot b ob q n hb hx;exact{ob.slots,u.keep b ob q n hb hx}
theorem Un.kept(k:∀b u,h.get? b=some u->h'.get? b=some u):Un fs ex H H h h':={λb ob q _ _ _=>k b ob q,λb ob q _ _ _=>{ob.slots,k b ob q},λ_ _ _ n _=>n,λb ob q _=>{ob,k b ob q},λ_ _ q=>q,λ_ _ _ q=>q,λ_ ps q=>{#[],by rw[q];simp}}
theorem Un.refl:Un fs ex H H h h:=Un.kept λ_ _ q=>q
theorem Un.laid(k:∀b u,h.get? b=some u->h'.get? b=some u)(hp:h.objs.size<=a)(hn:H a=none):Un fs ex H (upd H a o) h h' where
 keep:=λb u q _ _ _=>k b u q
 slot:=λb u q _ _ _=>{u.slots,k b u q}
 free:=λb u q n _=>by rw[ar<|zy<|zl (zt q) hp];exact n
 there:=λb u q _=>{u,k b u q}
 fZ:=λb xs q=>by rw[ar<|ax q hn];exact q
 fG:=λb u xs q=>by rw[ar<|ax q hn];exact q
 fH:=λb ps q=>{#[],by rw[ar<|ax q hn,q];simp}
theorem Un.write(mu:Sh<|H x)(he:e=x\/H e=some (.own x))(k:∀b u,b≠e->h.get? b=some u->h'.get? b=some u)(Rp:∃u,h'.get? e=some u):Un fs ex H (upd H x o) h h':=by
 have hx:∀b,H b=none->b≠x:=λb n z=>by subst z;rw[n]at mu;exact mu
 have hb:∀b,H b=none->b≠e:=λb n z=>by subst z;rcases he with r|r;exact hx b n r;rw[n]at r;cases r
 have hm:∀b u,H b=some u->¬Sh (some u)->b≠x:=λb u q nm z=>by subst z;rw[q]at mu;exact nm mu
 refine⟨λb u q n _ _=>k b u (hb b n) q,λb u q n _ _=>{u.slots,k b u (hb b n) q},λb u q n _=>by rw[ar<|hx b n];exact n,λb u q _=>?_,
  λb xs q=>by rw[ar<|hm b _ q λz=>z];exact q,λb u xs q=>by rw[ar<|hm b _ q λz=>z];exact q,λb ps q=>{#[],by rw[ar<|hm b _ q λz=>z,q];simp}⟩
 by_cases NX:b=e;subst NX;exact Rp;exact{u,k b u NX q}
end
noncomputable def Wl(h:Heap)(H:Hp):List Addr:=(List.range h.objs.size).filter λa=>(H a).isSome
noncomputable def sM(h:Heap)(H:Hp):Heap:=hideAll h<|Wl h H
theorem D2(h:Heap)(H:Hp):(sM h H).objs.size=h.objs.size:=PySem.W.hideAll_size _ _
theorem FX(e:h.get? b=some o)(n:H b=none):(sM h H).get? b=some o:=hideAll_get _ e λhm=>by have q:(H b).isSome=true:=(yi.mp hm).2;rw[n]at q;simp at q
theorem JR(e:(sM h H).get? b=some o):h.get? b=some o/\H b=none:=by have e':h.get? b=some o:=of_hideAll (Wl h H) e;refine{e',?_};cases q:H b with|none=>rfl|some x=>have hm:b∈Wl h H:=yi.mpr {zT.mpr<|zt e',by simp[q]};have z:(sM h H).get? b=none:=PySem.W.hideAll_none (Wl h H) hm;rw[z]at e;cases e
noncomputable def JS(g h:Heap)(L:Addr):List (Addr×Obj):=(List.range h.objs.size).filterMap λa=>if a=L\/(g.get? a).isSome=true then none else (h.get? a).map λo=>(a,o)
noncomputable def rest(g h:Heap)(L d:Addr):List (Addr×Obj):=(JS g h L).filter λp=>decide<|p.1≠d
structure Mod(K:Frag)(mg:Str->Option Value)(base:Heap):Prop where
 MA:K.In base
 glob:base.Ns mainGlobals mg
 blt:∃mb,base.Ns builtinsNs mb/\∀x:Str,x≠"__name__"->mb x=bootBuiltins x
 nolimit:base.NoLimit
structure Cx where
 prog:Program
 w:World
 K:Frag
 mg:Str->Option Value
 base:Heap
 A:Around
 N:List Str
 cZ:Shared
 uO:Hp
 env:Env
 outer:List Env
 stack:List Env
 ex:List Addr
 fn:Str->Bool
 calm:Bool
 pn:List (Addr×Obj)
 xe:Value->Shared->Prop
def k9(l:List Env):List Addr:=l.filterMap (·.frame)
noncomputable abbrev Cx.fs(X:Cx):List Addr:=k9 X.outer
def NY(sc:Scope)(x:Str):Prop:=sc.names.lookup x=some .local\/sc.names.lookup x=some .cell\/sc.names.lookup x=some .free
def Loc(sc:Scope)(x:Str):Prop:=sc.names.lookup x=some .local\/sc.names.lookup x=some .cell
def Look(env:Env)(h:Heap)(m:Str->Option Value)(x:Str)(u:Value):Prop:=(env.kindOf x=some .local/\m x=some u)\/((env.kindOf x=some .cell\/env.kindOf x=some .free)/\∃c,env.cells.lookup x=some c/\h.IsCell c (some u))
structure Cx.Ok(X:Cx):Prop where
 mod:Mod X.K X.mg X.base
 kind:X.env.scope.kind=.function
 glob:X.env.globals=mainGlobals
 blt:X.env.builtins=builtinsNs
 above:X.cZ.heap.objs.size<=X.env.locals
 inj:∀x y c,X.env.cells.lookup x=some c->X.env.cells.lookup y=some c->x=y
 has:∀x,(X.env.kindOf x=some .cell\/X.env.kindOf x=some .free)->∃c,X.env.cells.lookup x=some c
 MB:∀x c,X.fn x=true->X.env.cells.lookup x=some c->X.cZ.heap.objs.size<=c
 hd:X.calm=true->X.A.handled=none
 frames:X.A.frames=some X.stack
 NZ:X.stack=X.outer\/(X.stack=X.env::X.outer/\X.env.frame=some X.env.locals)
 Sj:∀b∈X.ex,b≠X.env.locals/\∀x c,X.env.cells.lookup x=some c->c≠b
 bs:∀b o,X.base.get? b=some o->X.cZ.heap.get? b=some o/\X.uO b=none
 AE:X.base.objs.size<=X.cZ.heap.objs.size
 wO:∀b o,X.base.get? b=some o->b∉X.ex
 AF:∀b∈X.ex,b∉X.fs
 i6:X.cZ.heap.FunFrames X.base X.outer
 D5:∀b∈X.fs,X.uO b=none
structure Inv(X:Cx)(pins:List (Addr×Obj))(σ:List (Option V))(H:Hp)(s:Shared):Prop where
 ok:X.Ok
 os:s.os=X.cZ.os
 bare:AllBare s.gens
 base:Un X.fs X.ex X.uO H X.cZ.heap s.heap
 loc:∃m,s.heap.Ns X.env.locals m/\∀(i:Nat)(x:Str)(v:V),X.N[i]?=some x->σ[i]?=some (some v)->NY X.env.scope x->∃u,RelV v u/\Look X.env s.heap m x u
 cell:∀x c,X.env.cells.lookup x=some c->∃v,s.heap.IsCell c v
 free:H X.env.locals=none
 c8:∀x c,X.env.cells.lookup x=some c->H c=none
 pin:∀p∈X.pn++pins,s.heap.get? p.1=some p.2/\H p.1=none/\p.1≠X.env.locals/\p.1∉X.fs/\∀v,p.2.data≠.cell v
 aG:kr X.prog X.w H s.heap
 len:σ.length=X.N.length
section
variable{X:Cx}{pins:List (Addr×Obj)}{σ:List (Option V)}{H H':Hp}{s:Shared}{h':Heap}
theorem Cx.Ok.D6(ok:X.Ok)(e:X.base.get? b=some o):b∉X.fs:=λhb=>by have:=(ok.i6.mem hb).1;rw[e]at this;cases this
theorem Inv.bs(I:Inv X pins σ H s):∀b o,X.base.get? b=some o->s.heap.get? b=some o/\H b=none:=λb o e=>{I.base.keep b o (I.ok.bs b o e).1 (I.ok.bs b o e).2 (I.ok.D6 e)<|I.ok.wO b o e,I.base.free b o (I.ok.bs b o e).1 (I.ok.bs b o e).2<|I.ok.wO b o e}
theorem Inv.bk(I:Inv X pins σ H s):∀b o,X.base.get? b=some o->s.heap.get? b=some o:=λb o e=>(I.bs b o e).1
theorem Inv.mod(I:Inv X pins σ H s):Mod X.K X.mg X.base:=I.ok.mod
theorem Inv.ku(I:Inv X pins σ H s):X.K.In s.heap:=I.ok.mod.MA.keeps I.bk
theorem Inv.nolimit(I:Inv X pins σ H s):s.heap.NoLimit:=I.ok.mod.nolimit.keeps I.bk
theorem Inv.fr(I:Inv X pins σ H s):∃m,Fr X.base X.env.locals s.heap m :=
 let ⟨m,hn,_⟩:=I.loc
 ⟨m,hn,I.bk,zL I.ok.AE I.ok.above⟩
theorem Inv.lt(I:Inv X pins σ H s):X.env.locals<s.heap.objs.size:=by obtain⟨_,hn,_⟩:=I.loc;exact hn.lt
theorem Inv.sz(I:Inv X pins σ H s):X.cZ.heap.objs.size<=s.heap.objs.size:=zL I.ok.above<|yM I.lt
theorem Inv.Sk(I:Inv X pins σ H s)(h:s.heap.objs.size<=a):a∉X.fs:=λhb=>by obtain⟨_,o,ho,_⟩:=I.ok.i6.mem hb;exact absurd (zl (zt ho)<|zL I.sz h)<|yx _
theorem Inv.JT(I:Inv X pins σ H s):∀x c,X.env.cells.lookup x=some c->c≠X.env.locals:=λx c e z=>by obtain⟨v,o,ho,hd⟩:=I.cell x c e;obtain⟨m,⟨o',es,ep,AG,AH,_⟩,_⟩:=I.loc;rw[z,AG]at ho;cases ho;rw[AH]at hd;cases hd
theorem Inv.i6(I:Inv X pins σ H s):s.heap.FunFrames X.base X.outer:=by
 have all:∀(l:List Env),(∀b∈k9 l,b∈X.fs)->X.cZ.heap.FunFrames X.base l->s.heap.FunFrames X.base l:=by intro l;induction l with|nil=>intro _ _;trivial|cons env r ih=>intro hs hl;obtain⟨hk,⟨L,o,hf,hn,ho,hd⟩,hr⟩:=hl;have hL:L∈X.fs:=hs L (by unfold k9;rw[List.filterMap_cons,hf];exact zp);obtain⟨sl,e⟩:=I.base.slot L o ho (I.ok.D5 L hL) hL λz=>I.ok.AF L z hL;exact{hk,{L,_,hf,hn,e,hd},ih (λb hb=>hs b<|by unfold k9;rw[List.filterMap_cons,hf];exact zh _ hb) hr}
 exact all X.outer (λ_ hb=>hb) I.ok.i6
theorem Inv.stack(I:Inv X pins σ H s):s.heap.FunFrames X.base X.stack:=by rcases I.ok.NZ with e|⟨e,hf⟩;rw[e];exact I.i6;rw[e];obtain⟨m,hn,_⟩:=I.loc;refine .cons (by rw[I.ok.kind];decide) hf hn ?_ I.i6;exact Heap.get?_none_of_le<|zL I.ok.AE I.ok.above
theorem Inv.mZ(I:Inv X pins σ H s):∀b∈k9 X.stack,b∈X.env.locals::X.fs:=λb hb=>by rcases I.ok.NZ with e|⟨e,hf⟩;rw[e]at hb;exact zh _ hb;rw[e]at hb;unfold k9 at hb;rw[List.filterMap_cons,hf]at hb;exact hb
theorem Inv.pR(I:Inv X pins σ H s):∀b∈k9 X.stack,H b=none:=λb hb=>by rcases zf.mp (I.mZ b hb) with e|hb;rw[e];exact I.free;obtain⟨_,o,ho,_⟩:=I.ok.i6.mem hb;exact I.base.free b o ho (I.ok.D5 b hb) λz=>I.ok.AF b z hb
theorem Inv.step{g':Array GenState}{t':Nat}{d':Drawn}{ch:List Addr}(I:Inv X pins σ H s) (JF:∀b∈ch,(b∈X.ex\/X.cZ.heap.objs.size<=b)/\b≠X.env.locals/\(∀x c,X.env.cells.lookup x=some c->c≠b)/\∀p∈X.pn++pins,p.1≠b) (keep:∀b o,b≠X.env.locals->b∉X.fs->b∉ch->s.heap.get? b=some o->H b=none->h'.get? b=some o) (slot:∀b o,b≠X.env.locals->b∈X.fs->b∉ch->s.heap.get? b=some o->H b=none->∃sl,h'.get? b=some {o with slots:=sl}) (free:∀b o,b∉ch->s.heap.get? b=some o->H b=none->H' b=none) (there:∀b o,b∉ch->s.heap.get? b=some o->∃o',h'.get? b=some o') (fZ:∀b xs,H b=some (.tup xs)->H' b=some (.tup xs)) (fG:∀b o u,H b=some (.k7 o u)->H' b=some (.k7 o u)) (fH:∀b ps,H b=some (.pQ ps)->∃more,H' b=some (.pQ<|ps++more)) (ns:∀m,s.heap.Ns X.env.locals m->h'.Ns X.env.locals m) (aG:kr X.prog X.w H' h') (hg:AllBare g'): Inv X pins σ H' {s with heap:=h',gens:=g',drawn:=d',toks:=t'}:=by
 have neL:∀b o,X.cZ.heap.get? b=some o->b≠X.env.locals:=λb o e=>zy<|zl (zt e) I.ok.above;have Wm:∀b o,X.cZ.heap.get? b=some o->b∉X.ex->b∉ch:=λb o e hx hb=>by rcases (JF b hb).1 with z|z;exact hx z;exact absurd (zl (zt e) z)<|yx _
 have cellK:∀x c,X.env.cells.lookup x=some c->∀v,s.heap.IsCell c v->h'.IsCell c v:=by rintro x c e v ⟨o,ho,hd⟩;have Sl:c∉ch:=λz=>(JF c z).2.2.1 x c e rfl;by_cases hc:c∈X.fs;obtain⟨sl,q⟩:=slot c o (I.JT x c e) hc Sl ho<|I.c8 x c e;exact{_,q,hd};exact{o,keep c o (I.JT x c e) hc Sl ho<|I.c8 x c e,hd}
 refine{I.ok,I.os,hg,{λb o e n hb hx=>?_,λb o e n hb hx=>?_,λb o e n hx=>?_,λb o e hx=>?_,λb xs e=>fZ b xs<|I.base.fZ b xs e,λb o xs e=>fG b o xs<|I.base.fG b o xs e,λb ps e=>?_},?_,λx c e=>?_,?_,λx c e=>?_,λp hp=>?_,aG,I.len};exact keep b o (neL b o e) hb (Wm b o e hx) (I.base.keep b o e n hb hx)<|I.base.free b o e n hx;obtain⟨sl,e1⟩:=I.base.slot b o e n hb hx;obtain⟨sl',e2⟩:=slot b _ (neL b o e) hb (Wm b o e hx) e1<|I.base.free b o e n hx;exact⟨sl',e2⟩;obtain⟨o',e1⟩:=I.base.there b o e hx;exact free b o' (Wm b o e hx) e1<|I.base.free b o e n hx;obtain⟨o',e1⟩:=I.base.there b o e hx;exact there b o' (Wm b o e hx) e1;obtain⟨m1,e1⟩:=I.base.fH b ps e;obtain⟨m2,e2⟩:=fH b _ e1;exact{m1++m2,by rw[e2,Array.append_assoc]};obtain⟨m,hn,hl⟩:=I.loc;refine{m,ns m hn,λi x v e1 e2 e3=>?_};obtain⟨u,r,l⟩:=hl i x v e1 e2 e3;refine{u,r,?_};rcases l with l|⟨k,c,e,z⟩;exact .inl l;exact .inr {k,c,e,cellK x c e _ z};obtain⟨v,z⟩:=I.cell x c e;exact{v,cellK x c e v z};obtain⟨m,⟨o,_,_,ho,_⟩,_⟩:=I.loc;exact free _ o (λz=>(JF _ z).2.1 rfl) ho I.free;obtain⟨v,o,ho,hd⟩:=I.cell x c e;exact free c o (λz=>(JF c z).2.2.1 x c e rfl) ho<|I.c8 x c e;obtain⟨e,n,ne,nf,d⟩:=I.pin p hp;have Sl:p.1∉ch:=λz=>(JF p.1 z).2.2.2 p hp rfl;exact{keep p.1 p.2 ne nf Sl e n,free p.1 p.2 Sl e n,ne,nf,d}
theorem Inv.un{t':Nat}(I:Inv X pins σ H s)(u:Un X.fs [] H H' s.heap h')(aG:kr X.prog X.w H' h'):Inv X pins σ H' {s with heap:=h',toks:=t'}:=by obtain⟨m,⟨o,es,ep,ho,r⟩,_⟩:=id I.loc;obtain⟨sl,hL⟩:=u.any ho I.free (by simp);exact I.step (g':=s.gens) (d':=s.drawn) (ch:=[]) (λ_ z=>nomatch z) (λb o _ hb _ e n=>u.keep b o e n hb<|by simp) (λb o _ hb _ e n=>u.slot b o e n hb<|by simp) (λb o _ e n=>u.free b o e n<|by simp) (λb o _ e=>u.there b o e<|by simp) u.fZ u.fG u.fH (λm' hm=>by obtain⟨o',Wn,Xs,AG,r'⟩:=hm;rw[ho]at AG;cases AG;exact{_,Wn,Xs,hL,r'}) aG I.bare
theorem Inv.call{g':Array GenState}{t':Nat}{d':Drawn}{ch:List Addr}(I:Inv X pins σ H s)(u:Un (k9 X.stack) ch H H' s.heap h')(aG:kr X.prog X.w H' h')(hg:AllBare g') (JF:∀b∈ch,(b∈X.ex\/X.cZ.heap.objs.size<=b)/\b≠X.env.locals/\(∀x c,X.env.cells.lookup x=some c->c≠b)/\∀p∈X.pn++pins,p.1≠b): Inv X pins σ H' {s with heap:=h',gens:=g',drawn:=d',toks:=t'}:=by obtain⟨m,⟨o,es,ep,ho,r⟩,_⟩:=id I.loc;obtain⟨sl,hL⟩:=u.any ho I.free λz=>(JF _ z).2.1 rfl;exact I.step (ch:=ch) JF (λb o hL hb hc e n=>u.keep b o e n (λz=>(zf.mp<|I.mZ b z).elim hL hb) hc) (λb o _ _ hc e n=>u.any e n hc) (λb o hc e n=>u.free b o e n hc) (λb o hc e=>u.there b o e hc) u.fZ u.fG u.fH (λm' hm=>by obtain⟨o',Wn,Xs,AG,r'⟩:=hm;rw[ho]at AG;cases AG;exact{_,Wn,Xs,hL,r'}) aG hg
theorem Inv.turned{t':Nat}{it:Addr}(I:Inv X pins σ H s)(k:∀b o,b≠it->s.heap.get? b=some o->h'.get? b=some o)(hn:H it=none)(hL:it≠X.env.locals) (h1:it∈X.ex\/X.cZ.heap.objs.size<=it) (h2:∀x c,X.env.cells.lookup x=some c->c≠it) (h3:∀p∈X.pn++pins,p.1≠it):Inv X pins σ H {s with heap:=h',toks:=t'}:=by
 have N1:∀b u,H b=some u->b≠it:=λb u e z=>by rw[z,hn]at e;cases e
 refine I.step (g':=s.gens) (d':=s.drawn) (ch:=[it]) (λb hb=>?_) (λb o _ _ hc e _=>k b o (λz=>hc<|by simp[z]) e) (λb o _ _ hc e _=>{o.slots,k b o (λz=>hc<|by simp[z]) e}) (λ_ _ _ _ n=>n) (λb o hc e=>{o,k b o (λz=>hc<|by simp[z]) e}) (λ_ _ e=>e) (λ_ _ _ e=>e) (λb ps e=>{#[],by rw[e];simp}) (λm hm=>?_) (λb u e=>?_) I.bare;have e:b=it:=by simpa using hb
 subst e;exact⟨h1,hL,h2,h3⟩;obtain⟨o,es,ep,ho,r⟩:=hm;exact{o,es,ep,k _ o (Ne.symm hL) ho,r};refine(I.aG b u e).lR (λc v hc q=>k c v ?_ q) (λ_ q=>q) λ_ _ q=>q;rcases hc with z|z;rw[z];exact N1 b u e;exact N1 c _ z
theorem Inv.tok(I:Inv X pins σ H s)(t:Nat):Inv X pins σ H {s with toks:=t}:=I.un (h':=s.heap) (t':=t) Un.refl I.aG
theorem Inv.kept(I:Inv X pins σ H s)(k:∀b u,s.heap.get? b=some u->h'.get? b=some u):Inv X pins σ H {s with heap:=h',toks:=t'}:=I.un (Un.kept k)<|I.aG.kept k
theorem Inv.laid{a:Addr}{o:HO}{t':Nat}(I:Inv X pins σ H s)(k:∀b u,s.heap.get? b=some u->h'.get? b=some u)(hp:s.heap.objs.size<=a)(new:aV X.prog X.w (upd H a o) h' a o): Inv X pins σ (upd H a o) {s with heap:=h',toks:=t'}:=I.un (Un.laid k hp<|I.aG.fresh hp)<|I.aG.laid k hp new
theorem Inv.write(I:Inv X pins σ H s)(mu:Sh<|H x)(he:e=x\/H e=some (.own x))(k:∀b u,b≠e->s.heap.get? b=some u->h'.get? b=some u)(Rp:∃u,h'.get? e=some u) (new:aV X.prog X.w (upd H x o) h' x o):Inv X pins σ (upd H x o) {s with heap:=h',toks:=t'}:=I.un (Un.write mu he k Rp)<|I.aG.write mu he k Rp new
theorem Inv.weak(I:Inv X pins σ H s)(hl:av.length=σ.length)(w:∀(i:Nat) v,av[i]?=some (some v)->σ[i]?=some (some v)):Inv X pins av H s:={I.ok,I.os,I.bare,I.base,by obtain⟨m,hn,hl'⟩:=I.loc;exact{m,hn,λi x v e1 e2 e3=>hl' i x v e1 (w i v e2) e3},I.cell,I.free,I.c8,I.pin,I.aG,hl.trans I.len}
theorem Inv.lS(I:Inv X pins σ H s)(h:∀p∈pins',s.heap.get? p.1=some p.2/\H p.1=none/\p.1≠X.env.locals/\p.1∉X.fs/\∀v,p.2.data≠.cell v):Inv X pins' σ H s:={I.ok,I.os,I.bare,I.base,I.loc,I.cell,I.free,I.c8,λp hp=>(zR.mp hp).elim (λz=>I.pin p<|zS _ z)<|h p,I.aG,I.len}
theorem qj{N:List Str}(hN:N.Nodup){i j:Nat}{x:Str}(a:N[i]?=some x)(b:N[j]?=some x):i=j:=by obtain⟨h1,e1⟩:=zg.mp a;obtain⟨h2,e2⟩:=zg.mp b;exact(List.getElem_inj hN).mp<|e1.trans e2.symm
theorem tP{M:Model}{A:Around}{E:Value->Shared->Prop}{i:Nat}{x:Str}{v:V}{u:Value}{Q:Unit->Shared->Prop}(I:Inv X pins σ H s)(hN:X.N.Nodup)(hi:X.N[i]?=some x)(hx:Loc X.env.scope x)(r:RelV v u) (h:∀s',Inv X pins (σ.set i<|some v) H s'->(∃a,Heap.SameBut a s.heap s'.heap/\(a=X.env.locals\/X.env.cells.lookup x=some a))->Q () s') (hf:autoParam (X.fn x=true\/X.env.scope.names.lookup x=some .local) qQ6):wpAny M A (storeName X.env x u) Q E s:=by
 obtain⟨m,hn,hl⟩:=id I.loc;have FY:(X.env.scope.kind==.class||(X.env.scope.kind==.module&&X.env.locals != X.env.globals))=false:=by rw[I.ok.kind];rfl
 have JU:i<σ.length:=by rw[I.len];exact(zg.mp hi).1
 have JT:=I.JT;have tracked:∀{a:Addr}{h':Heap},(∃o,s.heap.get? a=some o/\H a=none)->Heap.SameBut a s.heap h'->kr X.prog X.w H h':=λ{a h'} ha hs b ob e=>by obtain⟨_,_,MC⟩:=ha;refine(I.aG b ob e).lR (λc w' hc q=>(hs.2 c ?_).trans q) (λ_ q=>q) λ_ _ q=>q;rintro rfl;rcases hc with rfl|hc;rw[MC]at e;cases e;rw[MC]at hc;cases hc
 rcases hx with hk|hk;refine wpAny_storeName_local hk hn (λh' JG hs=>?_) FY;obtain⟨oL,_,_,FL,_⟩:=id hn;refine h _ {I.ok,I.os,I.bare,{λb o e n hb hx=>?_,λb o e n hb hx=>?_,I.base.free,λb o e hx=>?_,I.base.fZ,I.base.fG,I.base.fH},{_,JG,λj y v' e1 e2 e3=>?_},λy c e=>?_,I.free,I.c8,λp hp=>?_,tracked ⟨oL,FL,I.free⟩ hs,by simpa using I.len} {_,hs,.inl rfl};exact(hs.2 b<|zy<|zl (zt e) I.ok.above).trans<|I.base.keep b o e n hb hx;obtain⟨sl,e1⟩:=I.base.slot b o e n hb hx;exact{sl,(hs.2 b<|zy<|zl (zt e) I.ok.above).trans e1};obtain⟨o',e1⟩:=I.base.there b o e hx;exact{o',(hs.2 b<|zy<|zl (zt e) I.ok.above).trans e1};by_cases hj:j=i;subst hj;rw[hi]at e1;cases e1;rw[List.getElem?_set_self JU]at e2;cases e2;exact{u,r,.inl {hk,by simp}};rw[List.getElem?_set_ne<|Ne.symm hj]at e2;obtain⟨u',r',q⟩:=hl j y v' e1 e2 e3;refine{u',r',?_};rcases q with⟨k,e⟩|⟨k,c,e,z⟩;refine .inl {k,?_};have:y≠x:=λe=>hj<|qj hN e1<|e ▸ hi;simp[this,e];exact .inr {k,c,e,z.sameBut hs<|JT y c e};obtain⟨w',z⟩:=I.cell y c e;exact{w',z.sameBut hs<|JT y c e};obtain⟨e,n,ne,nf,d⟩:=I.pin p hp;exact{(hs.2 p.1 ne).trans e,n,ne,nf,d};have Xt:X.fn x=true:=by rcases hf with z|z;exact z;rw[z]at hk;cases hk
 obtain⟨c,hc⟩:=I.ok.has x<|.inl hk;obtain⟨w',z⟩:=I.cell x c hc;refine wpAny_storeName_cell I.ok.kind hk hc z λh' N2 hs=>?_;obtain⟨oc,Wo,Xu⟩:=id z;refine h {s with heap:=h'} {I.ok,I.os,I.bare,{λb o e n hb hx=>?_,λb o e n hb hx=>?_,I.base.free,λb o e hx=>?_,I.base.fZ,I.base.fG,I.base.fH},{m,hn.sameBut hs<|Ne.symm<|JT x c hc,λj y v' e1 e2 e3=>?_},λy c' e=>?_,I.free,I.c8,λp hp=>?_,tracked {oc,Wo,I.c8 x c hc} hs,by simpa using I.len} {c,hs,.inr hc};exact(hs.2 b<|zy<|zl (zt e)<|I.ok.MB x c Xt hc).trans<|I.base.keep b o e n hb hx;obtain⟨sl,e1⟩:=I.base.slot b o e n hb hx;exact{sl,(hs.2 b<|zy<|zl (zt e)<|I.ok.MB x c Xt hc).trans e1};obtain⟨o',e1⟩:=I.base.there b o e hx;exact{o',(hs.2 b<|zy<|zl (zt e)<|I.ok.MB x c Xt hc).trans e1};by_cases hj:j=i;subst hj;rw[hi]at e1;cases e1;rw[List.getElem?_set_self JU]at e2;cases e2;exact{u,r,.inr {.inl hk,c,hc,N2}};rw[List.getElem?_set_ne<|Ne.symm hj]at e2;obtain⟨u',r',q⟩:=hl j y v' e1 e2 e3;refine{u',r',?_};rcases q with q|⟨k,c',e,z'⟩;exact .inl q;refine .inr {k,c',e,z'.sameBut hs ?_};rintro rfl;exact hj<|qj hN e1<|I.ok.inj _ _ _ e hc ▸ hi;by_cases hcc:c'=c;subst hcc;exact{_,N2};obtain⟨w2,z2⟩:=I.cell y c' e;exact{w2,z2.sameBut hs hcc};obtain⟨e,n,ne,nf,d⟩:=I.pin p hp;refine{(hs.2 p.1 ?_).trans e,n,ne,nf,d};intro q;rw[q,Wo]at e;have q':oc=p.2:=zU e;exact d w'<|by rw[<-q'];exact Xu
theorem lT(I:Inv X pins σ H s)(hN:X.N.Nodup)(hi:X.N[i]?=some x)(hx:Loc X.env.scope x)(r:RelV v u) (h:∀s',Inv X pins (σ.set i<|some v) H s'->Q () s') (hf:autoParam (X.fn x=true\/X.env.scope.names.lookup x=some .local) qQ6):wpAny M A (storeName X.env x u) Q E s:=tP I hN hi hx r (λs' I' _=>h s' I') hf
theorem Inv.FZ(I:Inv X pins σ H s)(ho:s'.os=s.os)(u:Un (k9 X.stack) ch H H' s.heap s'.heap)(aG:kr X.prog X.w H' s'.heap)(hg:AllBare s'.gens) (JF:∀b∈ch,(b∈X.ex\/X.cZ.heap.objs.size<=b)/\b≠X.env.locals/\(∀x c,X.env.cells.lookup x=some c->c≠b)/\∀p∈X.pn++pins,p.1≠b):Inv X pins σ H' s':=by obtain⟨h',g',d',t',o'⟩:=s';have e:o'=s.os:=ho;subst e;exact I.call (g':=g') (t':=t') (d':=d') u aG hg JF
end
abbrev XK:=Value->Option Addr->Hp->Prop
abbrev St:=List<|Option V
abbrev VK:=V->Hp->Prop
abbrev TE:=St->Hp->VK->Prop
abbrev TT:=St->Hp->(Bool->Hp->Prop)->Prop
abbrev TA:=St->Hp->(List V->Hp->Prop)->Prop
structure Ends where
 nx:St->Hp->Prop
 rt:VK
 bk:St->Hp->Prop:=λ_ _=>False
 ct:St->Hp->Prop:=λ_ _=>False
abbrev TS:=Ends->St->Hp->Prop
def EP(X:Cx)(pins:List<|Addr×Obj)(σ:St)(Q:VK)(u:Value)(s':Shared):Prop:=∃v H',Inv X pins σ H' s'/\RelV v u/\Q v H'
def TP(X:Cx)(pins:List<|Addr×Obj)(σ:St)(Q:Bool->Hp->Prop)(b:Bool)(s':Shared):Prop:=∃H',Inv X pins σ H' s'/\Q b H'
def AP(X:Cx)(pins:List<|Addr×Obj)(σ:St)(Q:List V->Hp->Prop)(us:List Value)(s':Shared):Prop:=∃vs H',Inv X pins σ H' s'/\Vals vs us/\Q vs H'
def SP(X:Cx)(pins:List<|Addr×Obj)(D:Ends)(f:Flow)(s':Shared):Prop:=match f with|.next=>∃av H',Inv X pins av H' s'/\D.nx av H'|.brk=>∃av H',Inv X pins av H' s'/\D.bk av H'|.cont=>∃av H',Inv X pins av H' s'/\D.ct av H'|.ret u=>∃v av H',Inv X pins av H' s'/\RelV v u/\D.rt v H'
def PE(X:Cx)(e:Expr)(t:TE):Prop:=∀(pins:List (Addr×Obj))(s:Shared)(σ:St)(H:Hp)(Q:VK),Inv X pins σ H s->t σ H Q->wpAny (model X.prog X.w) X.A (eval e X.env) (EP X pins σ Q) X.xe s
def PT(X:Cx)(e:Expr)(t:TT):Prop:=∀(pins:List (Addr×Obj))(s:Shared)(σ:St)(H:Hp)(Q:Bool->Hp->Prop),Inv X pins σ H s->t σ H Q->wpAny (model X.prog X.w) X.A (isTrue e X.env<|eval e X.env) (TP X pins σ Q) X.xe s
def PW(X:Cx)(e:Expr)(t:TT):Prop:=∀(whole:Sem Value)(pins:List (Addr×Obj))(s:Shared)(σ:St)(H:Hp)(Q:Bool->Hp->Prop),Inv X pins σ H s->t σ H Q->wpAny (model X.prog X.w) X.A (isTrue e X.env whole) (TP X pins σ Q) X.xe s
theorem PW.pt{t:TT}(h:PW X e t):PT X e t:=h _
def PA(X:Cx)(es:List Expr)(t:TA):Prop:=∀(pos:Pos)(pins:List (Addr×Obj))(s:Shared)(σ:St)(H:Hp)(Q:List V->Hp->Prop),Inv X pins σ H s->t σ H Q->wpAny (model X.prog X.w) X.A (spliced<|backTo pos<|starEach es X.env) (AP X pins σ Q) X.xe s
def PS(X:Cx)(st:Stmt)(t:TS):Prop:=∀(pins:List (Addr×Obj))(s:Shared)(σ:St)(H:Hp)(D:Ends),Inv X pins σ H s->t D σ H->wpAny (model X.prog X.w) X.A (exec st X.env) (SP X pins D) X.xe s
def AI(X:Cx)(st:List Stmt)(t:TS):Prop:=∀(pins:List (Addr×Obj))(s:Shared)(σ:St)(H:Hp)(D:Ends),Inv X pins σ H s->t D σ H->wpAny (model X.prog X.w) X.A (execs st X.env) (SP X pins D) X.xe s
theorem aX{t:Sem α}(h:wpAny M A t Q E s)(hQ:∀a s,Q a s->Q' a s):wpAny M A t Q' E s:=yj h hQ λ_ _ x=>x
section
variable{X:Cx}
def Xv(i:Nat):TE:=λσ H Q=>∃v,σ[i]?=some (some v)/\Q v H
def tC(v:V):TE:=λ_ H Q=>Q v H
theorem N3(hN:X.N[i]?=some x)(hv:NY X.env.scope x)(hd:autoParam ((x==("__debug__": Str))=false) qQZ)(pT:autoParam ((x==("__classdict__": Str))=false) qQZ):PE X (.Name x pos) (Xv i):=by intro pins s σ H Q I h;obtain⟨v,e,h⟩:=h;obtain⟨m,hn,hl⟩:=I.loc;obtain⟨u,r,l⟩:=hl i x v hN e hv;have fin:EP X pins σ Q u s:=⟨v,H,I,r,h⟩;rcases l with⟨hk,hm⟩|⟨hk,c,hc,Cw⟩;exact wpAny_Name (wpAny_loadName_local I.ok.kind hk hn hm fin) hd;rcases hk with hk|hk;exact wpAny_Name (wpAny_loadName_cell I.ok.kind hk hc Cw fin) hd;exact wpAny_Name (wpAny_loadName_free I.ok.kind hk hc Cw fin pT) hd
theorem N4:PE X (.Constant (.int i) j pos) (tC<|.int i):=λ_ _ _ H _ I h=>wpAny_Constant_int {.int i,H,I.tok _,{_,rfl},h}
theorem MD:PE X (.Constant (.bool b) j pos) (tC<|.bl b):=λ_ _ _ H _ I h=>Constant_bool {.bl b,H,I,rfl,h}
theorem N5:PE X (.Constant .none j pos) (tC .ao):=λ_ _ _ H _ I h=>Constant_none {.ao,H,I,rfl,h}
theorem N6:PE X (.Constant (.str x) j pos) (tC<|.str x):=λ_ _ _ H _ I h=>Calls.Constant_str {.str x,H,I.tok _,{_,rfl},h}
def Gl(X:Cx)(x:Str):Prop:=X.env.kindOf x=some .globalImplicit
theorem ic(I:Inv X pins σ H s)(hg:Gl X x)(hm:X.mg x=some u)(h:Q u s) (hd:autoParam ((x==("__debug__": Str))=false) qQZ):wpAny (model X.prog X.w) X.A (eval (.Name x pos) X.env) Q E s:=Calls.Name_function_global I.ok.kind hg (Calls.loadGlobal_global (by rw[I.ok.glob];exact I.mod.glob.keeps I.bk) hm h) hd
theorem gA(I:Inv X pins σ H s)(hg:Gl X x)(hm:X.mg x=none)(hv:bootBuiltins x=some u)(h:Q u s) (hn:autoParam (x≠"__name__") qQZ) (hd:autoParam ((x==("__debug__": Str))=false) qQZ):wpAny (model X.prog X.w) X.A (eval (.Name x pos) X.env) Q E s:=by obtain⟨mb,h1,h2⟩:=I.mod.blt;exact Calls.Name_function_global I.ok.kind hg (Calls.loadGlobal_builtin (by rw[I.ok.glob];exact I.mod.glob.keeps I.bk) hm (by rw[I.ok.blt];exact h1.keeps I.bk) ((h2 x hn).trans hv) h) hd
theorem Cy(hg:Gl X x)(hm:X.mg x=some u)(r:RelV v u)(hd:autoParam ((x==("__debug__": Str))=false) qQZ):PE X (.Name x pos) (tC v):=λ_ _ _ H _ I h=>ic I hg hm ⟨v,H,I,r,h⟩ hd
theorem JV(hg:Gl X x)(hm:X.mg x=none)(hv:bootBuiltins x=some u)(r:RelV v u)(hn:autoParam (x≠"__name__") qQZ)(hd:autoParam ((x==("__debug__": Str))=false) qQZ):PE X (.Name x pos) (tC v):=λ_ _ _ H _ I h=>gA I hg hm hv ⟨v,H,I,r,h⟩ hn hd
variable{a b:Expr}{ta tb:TE}{pos:Pos}
def tB(t:TE):TT:=λσ H Q=>t σ H λx H1=>∃c,x=.bl c/\Q c H1
theorem N7{t:TE}(h:PE X e t)(he:autoParam (∀whole,isTrue e X.env whole=(do let v <-whole;standAt e.pos;holding [v] (truthy v))) qQ0):PT X e (tB t):=by intro pins s σ H Q I hw;refine isTrue_plain (aX (h pins s σ H _ I hw) λv s1 ⟨x,H1,I1,r1,q1⟩=>?_)<|he _;obtain⟨d,rfl,q⟩:=q1;cases r1;exact yq ⟨H1,I1,q⟩
variable{tA Wq:TT}{rest:List Expr}
def Xw(t u:TT):TT:=λσ H Q=>t σ H λc H1=>if c=true then u σ H1 Q else Q false H1
def tOr(t u:TT):TT:=λσ H Q=>t σ H λc H1=>if c=true then Q true H1 else u σ H1 Q
def Xx(t:TT):TT:=λσ H Q=>t σ H λc H1=>Q (!c) H1
theorem pw_and1(ha:PT X a tA):PW X (.BoolOp .And [a] pos) tA:=by intro wh pins s σ H Q I h;refine isTrue_and<|aX (ha pins s σ H Q I h) λc s1 e=>?_;cases c with|true=>exact isTrue_and_nil e|false=>exact e
theorem pw_or1(ha:PT X a tA):PW X (.BoolOp .Or [a] pos) tA:=by intro wh pins s σ H Q I h;refine isTrue_or<|aX (ha pins s σ H Q I h) λc s1 e=>?_;cases c with|false=>exact isTrue_or_nil e|true=>exact e
theorem pw_and(ha:PT X a tA)(hb:PW X (.BoolOp .And (b::rest) pos) Wq):PW X (.BoolOp .And (a::b::rest) pos) (Xw tA Wq):=by intro wh pins s σ H Q I h;refine isTrue_and<|aX (ha pins s σ H _ I h) λc s1 ⟨H1,I1,q1⟩=>?_;cases c with|true=>exact hb wh pins s1 σ H1 Q I1 q1|false=>exact⟨H1,I1,q1⟩
theorem pw_or(ha:PT X a tA)(hb:PW X (.BoolOp .Or (b::rest) pos) Wq):PW X (.BoolOp .Or (a::b::rest) pos) (tOr tA Wq):=by intro wh pins s σ H Q I h;refine isTrue_or<|aX (ha pins s σ H _ I h) λc s1 ⟨H1,I1,q1⟩=>?_;cases c with|true=>exact⟨H1,I1,q1⟩|false=>exact hb wh pins s1 σ H1 Q I1 q1
theorem N8(ha:PT X a tA):PT X (.UnaryOp .Not a pos) (Xx tA):=by intro pins s σ H Q I h;exact isTrue_not<|ha pins s σ H (λc H1=>Q (!c) H1) I h
def Sm(ta tb:TE):TE:=λσ H Q=>ta σ H λx H1=>∃c,x=.bl c/\if c=true then tb σ H1 Q else Q (.bl false) H1
def Xy(ta tb:TE):TE:=λσ H Q=>ta σ H λx H1=>∃c,x=.bl c/\if c=true then Q (.bl true) H1 else tb σ H1 Q
def Sn(ta:TE):TE:=λσ H Q=>ta σ H λx H1=>∃c,x=.bl c/\Q (.bl<|!c) H1
theorem N9{t:TE}(h:PE X a t):PE X (.BoolOp op [a] pos) t:=λpins s σ H Q I hw=>BoolOp_one<|h pins s σ H Q I hw
theorem N_(ha:PE X a ta)(hb:PE X (.BoolOp .And (b::rest) pos) tb):PE X (.BoolOp .And (a::b::rest) pos) (Sm ta tb):=by intro pins s σ H Q I h;refine BoolOp_and<|aX (ha pins s σ H _ I h) λv s1 ⟨x,H1,I1,r1,q1⟩=>?_;obtain⟨c,rfl,q1⟩:=q1;cases r1;refine yq ?_;cases c with|true=>exact hb pins s1 σ H1 Q I1 q1|false=>exact{.bl false,H1,I1,rfl,q1}
theorem So(ha:PE X a ta)(hb:PE X (.BoolOp .Or (b::rest) pos) tb):PE X (.BoolOp .Or (a::b::rest) pos) (Xy ta tb):=by intro pins s σ H Q I h;refine BoolOp_or<|aX (ha pins s σ H _ I h) λv s1 ⟨x,H1,I1,r1,q1⟩=>?_;obtain⟨c,rfl,q1⟩:=q1;cases r1;refine yq ?_;cases c with|false=>exact hb pins s1 σ H1 Q I1 q1|true=>exact{.bl true,H1,I1,rfl,q1}
theorem Oa(ha:PE X a ta):PE X (.UnaryOp .Not a pos) (Sn ta):=by intro pins s σ H Q I h;refine UnaryOp_<|aX (ha pins s σ H _ I h) λv s1 ⟨x,H1,I1,r1,q1⟩=>?_;obtain⟨c,rfl,q1⟩:=q1;cases r1;exact not_of<|yq {.bl<|!c,H1,I1,rfl,q1}
def tIf(t:TT)(ta tb:TE):TE:=λσ H Q=>t σ H λc H1=>if c=true then ta σ H1 Q else tb σ H1 Q
theorem F8(hc:PT X c tA)(ha:PE X a ta)(hb:PE X b tb):PE X (.IfExp c a b pos) (tIf tA ta tb):=by intro pins s σ H Q I h;refine wpAny_IfExp<|aX (hc pins s σ H _ I h) λd s1 ⟨H1,I1,q1⟩=>?_;cases d with|true=>exact ha pins s1 σ H1 Q I1 q1|false=>exact hb pins s1 σ H1 Q I1 q1
end
def jd(K:Frag)(H:Hp)(a:Addr)(xs:List V):Prop:=Rd H a (.lst xs)\/∃(o:Obj)(az:Array Value)(n:Nat),K.lookup a=some o/\o.cls=.type "list"/\o.dict=none/\o.data=.seq az n/\az.size<=sizeLine/\Vals xs az.toList
def gM(K:Frag)(H:Hp)(a:Addr)(xs:List V):Prop:=Rd H a (.tup xs)\/∃(o:Obj)(az:Array Value)(n:Nat),K.lookup a=some o/\o.cls=.type "tuple"/\o.data=.seq az n/\az.size<=sizeLine/\Vals xs az.toList
noncomputable def Xz:Value->Option V|.none=>some .ao|.bool b=>some (.bl b)|.int i _=>some (.int i)|.str x _=>some (.str x)|.bytes b _=>some (.Cv b)|.float b _=>some (.NW b)|.ref a=>some (.ref a)|.type n=>some (.ty n)|_=>none
theorem RelV.abs(r:RelV x u):Xz u=some x:=by cases x with|ao=>(cases r;rfl)|bl _=>(cases r;rfl)|int _=>(obtain⟨t,rfl⟩:=r;rfl)|str _=>(obtain⟨t,rfl⟩:=r;rfl)|Cv _=>(obtain⟨t,rfl⟩:=r;rfl)|NW _=>(obtain⟨t,rfl⟩:=r;rfl)|ref _=>(cases r;rfl)|ty _=>cases r;rfl
theorem RelV.inj(r:RelV x u)(q:RelV y u):x=y:=zU<|r.abs.symm.trans q.abs
theorem Vals.inj:∀{xs ys:List V}{us:List Value},Vals xs us->Vals ys us->xs=ys|_,_,_,.nil,.nil=>rfl|_,_,_,.cons r t,.cons r' t'=>by rw[r.inj r',Vals.inj t t']
section
variable{X:Cx}{pins:List (Addr×Obj)}{σ:St}{H:Hp}{s:Shared}{a:Addr}{xs ys:List V}
theorem jd.of{K:Frag}(h:H a=some (.lst xs)):jd K H a xs:=.inl<|.inl h
theorem gM.of{K:Frag}(h:H a=some (.tup xs)):gM K H a xs:=.inl<|.inl h
theorem Inv.list(I:Inv X pins σ H s)(h:jd X.K H a xs):∃az:List Value,Vals xs az/\PlainL s.heap a az.toArray/\xs.length<=sizeLine:=by rcases h with h|⟨o,az,n,hk,hc,hd,hs,hz,r⟩;obtain⟨z,az,n,r,e⟩:=h.ok I.aG;exact{az,r,{_,n,e,rfl,rfl,rfl},z};refine{az.toList,r,{o,n,I.ku a o hk,hc,hd,by simpa using hs},?_};have e:=r.length;simp only[yp]at e;lia
theorem Inv.tuple(I:Inv X pins σ H s)(h:gM X.K H a xs):∃az:List Value,Vals xs az/\IsTup s.heap a az.toArray/\xs.length<=sizeLine:=by rcases h with h|⟨o,az,n,hk,hc,hs,hz,r⟩;obtain⟨z,az,r,p⟩:=h.ok I.aG;exact⟨az,r,p.tup,z⟩;refine{az.toList,r,{o,I.ku a o hk,hc,n,by simpa using hs},?_};have e:=r.length;simp only[yp]at e;lia
theorem Inv.wQ(I:Inv X pins σ H s)(h:jd X.K H a xs)(h':jd X.K H a ys):xs=ys:=by
 obtain⟨az,r,⟨o,n,e,_,_,d⟩,_⟩:=I.list h;obtain⟨its',r',⟨o',n',e',_,_,d'⟩,_⟩:=I.list h';rw[e]at e';cases e';rw[d]at d';injection d' with d1 _;have:az=its':=by simpa using congrArg Array.toList d1
 subst this;exact r.inj r'
theorem Inv.m6(I:Inv X pins σ H s)(h:gM X.K H a xs)(h':gM X.K H a ys):xs=ys:=by
 obtain⟨az,r,⟨o,e,_,n,d⟩,_⟩:=I.tuple h;obtain⟨its',r',⟨o',e',_,n',d'⟩,_⟩:=I.tuple h';rw[e]at e';cases e';rw[d]at d';injection d' with d1 _;have:az=its':=by simpa using congrArg Array.toList d1
 subst this;exact r.inj r'
end
noncomputable abbrev Cx.acz(X:Cx)(E:Value->Shared->Prop):Cx:={X with xe:=E}
section
variable{X:Cx}{st:Stmt}{rest:List Stmt}{t u:TS}{e:Expr}{te:TE}{pos:Pos}
def Sr:TS:=λD σ H=>D.nx σ H
def XB(t u:TS):TS:=λD σ H=>t {D with nx:=u D} σ H
theorem Cz:AI X [] Sr:=λ_ _ σ H _ I h=>wpAny_execs_nil ⟨σ,H,I,h⟩
theorem F9(h1:PS X st t)(h2:AI X rest u):AI X (st::rest) (XB t u):=by intro pins s σ H D I h;refine wpAny_execs_cons<|aX (h1 pins s σ H {D with nx:=u D} I h) λf s1 q=>?_;cases f with|next=>(obtain⟨av,H',I',q⟩:=q;exact h2 pins s1 av H' D I' q)|ret v=>exact q|brk=>exact q|cont=>exact q
theorem JW(h1:PS X st t):AI X [st] t:=by intro pins s σ H D I h;refine wpAny_execs_cons<|aX (h1 pins s σ H D I h) λf s1 q=>?_;cases f with|next=>exact wpAny_execs_nil q|ret v=>exact q|brk=>exact q|cont=>exact q
theorem Inv.quiet(I:Inv X pins σ H s):interactive X.env=false:=by simp[interactive,I.ok.kind]
def Ss(te:TE):TS:=λD σ H=>te σ H λ_ H1=>D.nx σ H1
theorem JX(he:PE X e te)(hs:autoParam (swapsWith e none pos.line X.env=pure false) qQJ):PS X (.Expr e pos) (Ss te):=by intro pins s σ H D I h;exact wpAny_Expr_any (aX (he pins s σ H _ I h) <| by rintro v s1 ⟨x,H1,I1,r1,q1⟩;exact⟨σ,H1,I1,q1⟩) I.quiet hs
def XD(te:TE):TS:=λD σ H=>te σ H D.rt
theorem Ob(he:PE X e te):PS X (.Return (some e) pos) (XD te):=by intro pins s σ H D I h;exact wpAny_Return_some<|aX (he pins s σ H _ I h) <| by rintro v s1 ⟨x,H1,I1,r1,q1⟩;exact⟨x,σ,H1,I1,r1,q1⟩
def XF(c:TT)(t u:TS):TS:=λD σ H=>c σ H λb H1=>if b=true then t D σ H1 else u D σ H1
theorem Su(hc:PT X c tc)(ha:AI X a t)(hb:AI X b u):PS X (.If c a b pos) (XF tc t u):=by intro pins s σ H D I h;refine wpAny_If<|aX (hc pins s σ H _ I h) λd s1 ⟨H1,I1,q1⟩=>?_;cases d with|true=>exact ha pins s1 σ H1 D I1 q1|false=>exact hb pins s1 σ H1 D I1 q1
end
abbrev TG:=V->St->Hp->(St->Hp->Prop)->Prop
abbrev ME:=List V->St->Hp->(St->Hp->Prop)->Prop
def PG(X:Cx)(target:Expr)(t:TG):Prop:=∀(pins:List (Addr×Obj))(s:Shared)(σ:St)(H:Hp)(v:V)(u:Value)(Q:St->Hp->Prop),Inv X pins σ H s->RelV v u->t v σ H Q->wpAny (model X.prog X.w) X.A (assign target X.env u) (λ_ s'=>∃av H',Inv X pins av H' s'/\Q av H') X.xe s
def MF(X:Cx)(ts:List Expr)(t:ME):Prop:=∀(pins:List (Addr×Obj))(s:Shared)(σ:St)(H:Hp)(vs:List V)(us:List Value)(Q:St->Hp->Prop),Inv X pins σ H s->Vals vs us->t vs σ H Q->wpAny (model X.prog X.w) X.A (assignInOrder ((assignEach ts X.env).map (·.2)) us) (λ_ s'=>∃av H',Inv X pins av H' s'/\Q av H') X.xe s
abbrev Oc:=V->V->V->Hp->(Hp->Prop)->Prop
def Sv(X:Cx)(t:Oc):Prop:=∀(pins:List (Addr×Obj))(s:Shared)(σ:St)(H:Hp)(o i v:V)(ov iv u:Value)(Q:Hp->Prop),Inv X pins σ H s->RelV o ov->RelV i iv->RelV v u->t o i v H Q->wpAny (model X.prog X.w) X.A (setItem ov iv u) (λ_ s'=>∃H',Inv X pins σ H' s'/\Q H') X.xe s
abbrev XG:=V->V->Hp->VK->Prop
def PIp(X:Cx)(op:Operator)(t:XG):Prop:=∀(pins:List (Addr×Obj))(s:Shared)(σ:St)(H:Hp)(x y:V)(v u:Value)(Q:VK),Inv X pins σ H s->RelV x v->RelV y u->t x y H Q->wpAny (model X.prog X.w) X.A (inplaceOp op v u) (EP X pins σ Q) X.xe s
section
variable{X:Cx}{pos:Pos}
def iP(i:Nat):TG:=λv σ H Q=>Q (σ.set i<|some v) H
theorem pU(hN:X.N.Nodup)(hi:X.N[i]?=some x)(hx:Loc X.env.scope x)(hf:autoParam (X.fn x=true\/X.env.scope.names.lookup x=some .local) qQ6):PG X (.Name x pos) (iP i):=by intro pins s σ H v u Q I r h;exact wpAny_assign_Name<|lT I hN hi hx r (λs' I'=>{_,H,I',h}) hf
def JY:ME:=λvs σ H Q=>vs=[]/\Q σ H
def qk(t:TG)(u:ME):ME:=λvs σ H Q=>∃v r,vs=v::r/\t v σ H λav H'=>u r av H' Q
theorem CA:MF X [] JY:=by intro pins s σ H vs us Q I r h;obtain⟨e,h⟩:=h;subst e;cases r;exact assignInOrder_nil ⟨σ,H,I,h⟩
theorem ql{t:TG}(h1:PG X e t)(h2:MF X es u) (hs:autoParam ((assignEach (e::es) X.env).map (·.2)=assign e X.env::(assignEach es X.env).map (·.2)) qQJ):MF X (e::es) (qk t u):=by intro pins s σ H vs us Q I r h;obtain⟨v,vr,e1,h⟩:=h;subst e1;cases r with|cons r rr=>rw[hs];refine assignInOrder_cons<|aX (h1 pins s σ H _ _ _ I r h) λ_ s1 ⟨uP,H1,I1,q1⟩=>?_;exact h2 pins s1 uP H1 _ _ Q I1 rr q1
def JZ(K:Frag)(n:Nat)(t:ME):TG:=λv σ H Q=>∃a xs,v=.ref a/\gM K H a xs/\xs.length=n/\t xs σ H Q
theorem F_{t:ME}(hc:X.calm=true)(h:MF X es t) (hn:autoParam ((assignEach es X.env).length=n) qQJ) (om:autoParam ((assignEach es X.env).findIdx? (·.1)=none) qQJ):PG X (.Tuple es k pos) (JZ X.K n t):=by intro pins s σ H v u Q I r hw;obtain⟨a,xs,e1,hq,hl,hw⟩:=hw;subst e1;cases r;obtain⟨az,rv,ht,hz⟩:=I.tuple hq;refine assign_Tuple_tuple (I.ok.hd hc) ht (by simp[hn,<-hl,rv.length]) om λh' hx=>?_;have I1:Inv X pins σ H {s with heap:=h'}:=I.kept (t':=s.toks) λb o e=>hx b o (zy<|zt e) e;exact h pins _ σ H xs _ Q I1 (by simpa using rv) hw
def XH(to ti:TE)(t:Oc):TG:=λv σ H Q=>to σ H λo H1=>ti σ H1 λi H2=>t o i v H2 λH3=>Q σ H3
theorem Od{t:Oc}(ho:PE X o to)(hi:PE X i ti)(hs:Sv X t)
  (ha:autoParam (∀v,assign (.Subscript o i pos) X.env v=(do
   let ov <-holding [v] (eval o X.env)
   let iv <-holding [v,ov] (eval i X.env)
   standAt pos
   holding [v,ov,iv] (setItem ov iv v)
   release [v,ov,iv] [])) qQ0):PG X (.Subscript o i pos) (XH to ti t):=by
 intro pins s σ H v u Q I r h
 rw[ha]
 refine zb<|yJ<|aX (ho pins s σ H _ I h) λov s1 ⟨x,H1,I1,r1,q1⟩=>?_
 refine zb<|yJ<|aX (hi pins s1 σ H1 _ I1 q1) λiv s2 ⟨y,H2,I2,r2,q2⟩=>?_
 refine zb<|wpAny_standAt<|zb<|yJ<|aX (hs pins s2 σ H2 x y v ov iv u _ I2 r1 r2 r q2) λ_ s3 ⟨H3,I3,q3⟩=>?_
 exact wpAny_release ⟨σ,H3,I3,q3⟩
def Oe(te:TE)(g:TG):TS:=λD σ H=>te σ H λx H1=>g x σ H1 D.nx
theorem Ga(he:PE X e te)(hg:PG X tg g)(hs:autoParam (swapsWithSole [tg] e pos.line X.env=pure false) qQJ)(hw:autoParam (swappedStores [tg] e X.env=pure none) qQJ) (h1:autoParam ((assignEach [tg] X.env).map (·.2)=[assign tg X.env]) qQJ):PS X (.Assign [tg] e pos) (Oe te g):=by intro pins s σ H D I h;refine wpAny_Assign_stores (aX (he pins s σ H _ I h) λv s1 ⟨x,H1,I1,r1,q1⟩=>?_) hs hw;rw[h1];exact aX (hg pins s1 σ H1 x v _ I1 r1 q1) λ_ s2 q=>q
theorem Of(hN:X.N.Nodup)(hi:X.N[i]?=some x)(hx:Loc X.env.scope x)(he:PE X e te)(hs:autoParam (swapsWith e (some<|.Name x pos') pos.line X.env=pure false) qQJ)(hf:autoParam (X.fn x=true\/X.env.scope.names.lookup x=some .local) qQ6): PS X (.Assign [.Name x pos'] e pos) (Oe te<|iP i):=by intro pins s σ H D I h;refine wpAny_Assign_Name (aX (he pins s σ H _ I h) λv s1 ⟨y,H1,I1,r1,q1⟩=>?_) hs;exact lT I1 hN hi hx r1 (λs2 I2=>{_,H1,I2,q1}) hf
def XI(i:Nat)(te:TE)(ti:XG):TS:=λD σ H=>∃x,σ[i]?=some (some x)/\te σ H λy H1=>ti x y H1 λz H2=>D.nx (σ.set i<|some z) H2
theorem Oh(hN:X.N.Nodup)(hi:X.N[i]?=some x)(hx:Loc X.env.scope x)(he:PE X e te)(ho:PIp X op ti)(hf:autoParam (X.fn x=true\/X.env.scope.names.lookup x=some .local) qQ6): PS X (.AugAssign (.Name x pos') op e pos) (XI i te ti):=by
 intro pins s σ H D I h;obtain⟨v,e1,h⟩:=h;obtain⟨m,hn,hl⟩:=I.loc;have vis:NY X.env.scope x:=by rcases hx with k|k;exact .inl k;exact .inr<|.inl k
 obtain⟨u,r,l⟩:=hl i x v hi e1 vis;refine wpAny_AugAssign_Name ?_;have go:wpAny (model X.prog X.w) X.A (eval e X.env) (λw bM=>wpAny (model X.prog X.w) X.A (inplaceOp op u w) (λr AJ=>wpAny (model X.prog X.w) X.A (storeName X.env x r) (λ_=>SP X pins D .next) X.xe AJ) X.xe bM) X.xe s:=by refine aX (he pins s σ H _ I h) λw s1 ⟨y,H1,I1,r1,q1⟩=>?_;refine aX (ho pins s1 σ H1 v y u w _ I1 r r1 q1) λz s2 ⟨zv,H2,I2,r2,q2⟩=>?_;exact lT I2 hN hi hx r2 (λs3 I3=>{_,H2,I3,q2}) hf
 rcases l with⟨hk,hm⟩|⟨hk,c,hc,Cw⟩;exact wpAny_loadName_local I.ok.kind hk hn hm go;rcases hk with hk|hk;exact wpAny_loadName_cell I.ok.kind hk hc Cw go;rcases hx with k|k;have:X.env.scope.names.lookup x=some .free:=hk;rw[k]at this;cases this;have:X.env.scope.names.lookup x=some .free:=hk;rw[k]at this;cases this
def ipI(f:Int->Int->Int):XG:=λx y H Q=>∃i j,x=.int i/\y=.int j/\Q (.int<|f i j) H
theorem Oi:PIp X .Add (ipI λi j=>i+j):=by intro pins s σ H x y v u Q I r1 r2 h;obtain⟨i,j,e1,e2,q⟩:=h;subst e1;subst e2;obtain⟨t,rfl⟩:=r1;obtain⟨t',rfl⟩:=r2;exact iadd_int {.int _,H,I.tok _,{_,rfl},q}
def Oj(c:TT)(tb:TS):TS:=λD σ H=>∃W:Nat->St->Hp->Prop,(∃m,W m σ H)/\∀m σ H,W m σ H->c σ H λb H1=>if b=true then ∃N:St->Hp->Prop,(∀av H',N av H'->∃m',m'<m/\W m' av H')/\tb {D with nx:=N,ct:=N,bk:=D.nx} σ H1 else D.nx σ H1
theorem Gb(hp:PassesOwn (model X.prog X.w) X.A X.env X.xe)(hc:PT X c tc)(hb:AI X body tb):PS X (.While c body [] pos) (Oj tc tb):=by intro pins s σ H D I h;obtain⟨W,⟨m0,w0⟩,turn⟩:=h;refine wpAny_While<|codeAny_whileLoop (λn s'=>∃av H',Inv X pins av H' s'/\W n av H') ?_ m0 ⟨σ,H,I,w0⟩;rintro n s1 ⟨uP,H1,I1,w1⟩;refine wpAny_passesOwn hp<|aX (hc pins s1 uP H1 _ I1<|turn n uP H1 w1) λb s2 ⟨H2,I2,q2⟩=>?_;cases b with|true=>(obtain⟨N,hN,q2⟩:=q2;rw[if_pos rfl];refine wpAny_passesOwn hp<|aX (hb pins s2 uP H2 _ I2 q2) λf s3 q3=>?_;cases f with|next=>(obtain⟨i7,H3,I3,n3⟩:=q3;obtain⟨m',hm,w3⟩:=hN i7 H3 n3;exact⟨m',hm,i7,H3,I3,w3⟩)|cont=>(obtain⟨i7,H3,I3,n3⟩:=q3;obtain⟨m',hm,w3⟩:=hN i7 H3 n3;exact⟨m',hm,i7,H3,I3,w3⟩)|brk=>exact q3|ret v=>exact q3)|false=>rw[if_neg zd];exact wpAny_execs_nil ⟨uP,H2,I2,q2⟩
end
structure It where
 go:Nat->Hp->Prop
 Sw:Nat->Hp->V->Hp->Prop
 stop:Nat->Hp->Prop
def sN(X:Cx)(pins:List<|Addr×Obj)(H:Hp)(b:Addr):Prop:=H b=none/\b≠X.env.locals/\b∉X.fs/\(b∈X.ex\/X.cZ.heap.objs.size<=b)/\(∀x c,X.env.cells.lookup x=some c->c≠b)/\∀p∈X.pn++pins,p.1≠b
theorem Inv.pe(I:Inv X pins σ H s)(hb:s.heap.objs.size<=b)(hn:H' b=none):sN X pins H' b:=by refine{hn,yk<|zl I.lt hb,I.Sk hb,.inr<|zL I.sz hb,λx c e z=>?_,λp hp z=>?_};obtain⟨v,q⟩:=I.cell x c e;exact absurd (zl q.lt<|by rw[z];exact hb)<|yx _;exact absurd (zl (zt (I.pin p hp).1)<|by rw[z];exact hb)<|yx _
structure Turn(P:Program)(w:World)(K:Frag)(tg:Expr)(J:It)(fp:List Addr)(it:Addr)(tn:Nat->Heap->Prop):Prop where
 mem:it∈fp
 obj:∀i h,tn i h->∀b∈fp,∃o,h.get? b=some o/\∀v,o.data≠.cell v
 keep:∀i h h',tn i h->(∀b∈fp,∀o,h.get? b=some o->h'.get? b=some o)->tn i h'
 item:∀(X:Cx),X.prog=P->X.w=w->X.K=K->X.calm=true->∀(i:Nat)(pins:List (Addr×Obj))(s:Shared)(σ:St)(H:Hp)(E:Value->Shared->Prop),Inv X pins σ H s->(∀b∈fp,sN X pins H b)->tn i s.heap->J.go i H ->
  wpAny (model P w) X.A (pyNext<|.ref it) (λr s1=>∃u,r=some u /\
   wpAny (model P w) X.A (letOwnedTupleGo tg (.ref it) u) (λ_ s2=>∃x H',Inv X pins σ H' s2/\RelV x u/\J.Sw i H x H'/\tn (i+1) s2.heap/\∀b∈fp,H' b=none) E s1) E s
 done:∀(X:Cx),X.prog=P->X.w=w->X.K=K->X.calm=true->∀(i:Nat)(pins:List (Addr×Obj))(s:Shared)(σ:St)(H:Hp)(E:Value->Shared->Prop),Inv X pins σ H s->(∀b∈fp,sN X pins H b)->tn i s.heap->J.stop i H ->
  wpAny (model P w) X.A (pyNext<|.ref it) (λr s1=>r=none/\Inv X pins σ H s1) E s
 self:∀(A:Around)(i:Nat)(s:Shared)(Q:Value->Shared->Prop)(E:Value->Shared->Prop),tn i s.heap->Q (.ref it) s->wpAny (model P w) A (pyIter<|.ref it) Q E s
abbrev TI:=St->Hp->(It->Hp->Prop)->Prop
def XJ(X:Cx)(pins:List<|Addr×Obj)(σ:St)(tg:Expr)(R:It->Hp->Prop)(Wr:Value)(s2:Shared):Prop:=∃(it:Addr)(fp:List Addr)(tn:Nat->Heap->Prop)(J:It)(H':Hp),Wr=.ref it/\Inv X pins σ H' s2/\Turn X.prog X.w X.K tg J fp it tn/\tn 0 s2.heap/\(∀b∈fp,sN X pins H' b)/\R J H'
def PI(X:Cx)(tg iter:Expr)(wi:TI):Prop:=∀(pins:List (Addr×Obj))(s:Shared)(σ:St)(H:Hp)(R:It->Hp->Prop),Inv X pins σ H s->wi σ H R->wpAny (model X.prog X.w) X.A (eval iter X.env) (λv s1=>wpAny (model X.prog X.w) X.A (pyIter v) (XJ X pins σ tg R) X.xe s1) X.xe s
theorem tQ(ho:s.heap.get? it=some o)(hc:o.cls=.type n)(hd:o.data=.fields vs) (hn:["enumerate","zip","dict_itemiterator","dict_reverseitemiterator","odict_iterator","itertools.zip_longest","itertools.pairwise"].contains n=false) (hQ:Q () s):wpAny M A (letOwnedTupleGo tg (.ref it) u) Q E s:=by
 unfold letOwnedTupleGo
 cases tg<;>first
  |exact zw hQ
  | (cases u<;>first
    |exact zw hQ
    | (refine zb (wpAny_load ho ?_)
       rw[hc,hd]
       show wpAny M A (if (["enumerate","zip","dict_itemiterator","dict_reverseitemiterator","odict_iterator","itertools.zip_longest","itertools.pairwise"].contains n&&vs[0]?==some (rawInt _))=true then _ else _) Q E s
       rw[if_neg<|by intro h;rw[hn,zW]at h;cases h]
       exact zw hQ))
def Itl(K:Frag)(a:Addr):It:={λi H=>∃xs x,jd K H a xs/\xs[i]?=some x,λi H x H'=>H'=H/\∀xs,jd K H a xs->xs[i]?=some x,λi H=>∃xs,jd K H a xs/\xs.length<=i}
def Itt(K:Frag)(a:Addr):It:={λi H=>∃xs x,gM K H a xs/\xs[i]?=some x,λi H x H'=>H'=H/\∀xs,gM K H a xs->xs[i]?=some x,λi H=>∃xs,gM K H a xs/\xs.length<=i}
noncomputable def Ws(lo:Int)(n:Nat):It:={λi _=>i<n,λi H x H'=>H'=H/\x=.int (lo+i),λi _=>n<=i}
theorem D7{P:Program}{w:World}{K:Frag}{tg:Expr}(a it:Addr):Turn P w K tg (Itl K a) [it] it (λi h=>h.IsListIter it a i) where
 mem:=by simp
 obj:=λi h st b hb=>by
  have e:b=it:=by simpa using hb
  subst e
  obtain⟨o,e,c,d⟩:=st
  exact{o,e,λv z=>by rw[d]at z;cases z}
 keep:=λi h h' st k=>st.at λo e=>k it (by simp) o e
 item:=by
  intro X hP hw hK hc i pins s σ H E I hf st hg
  subst hP hw hK
  obtain⟨xs,x,hq,hx⟩:=hg
  obtain⟨az,rv,p,hz⟩:=I.list hq
  obtain⟨u,hu,ru⟩:=rv.get hx
  obtain⟨f0,f1,f2,f3,f4,f5⟩:=hf it<|by simp
  refine wpAny_pyNext_list_item st p.isList (x:=u) (by simpa using hu) λh' eW sb=>?_
  have I1:Inv X pins σ H {s with heap:=h'}:=I.turned (t':=s.toks) (λb o hb e=>(sb.2 b hb).trans e) f0 f1 f3 f4 f5
  obtain⟨o,e,c,d⟩:=id eW
  exact{u,rfl,tQ (s:={s with heap:=h'}) e c d (by decide) {x,H,I1,ru,{rfl,λys hy=>by rw[I.wQ hy hq];exact hx},eW,λb hb=>(hf b hb).1}}
 done:=by
  intro X hP hw hK hc i pins s σ H E I hf st hg
  subst hP hw hK
  obtain⟨xs,hq,hx⟩:=hg
  obtain⟨az,rv,p,hz⟩:=I.list hq
  obtain⟨f0,f1,f2,f3,f4,f5⟩:=hf it<|by simp
  have hl:=rv.length
  exact wpAny_pyNext_list_end (I.ok.hd hc) st p.isList (by simp;lia) λh' eb=>{rfl,I.turned (t':=s.toks) (λb o hb e=>eb b o hb e) f0 f1 f3 f4 f5}
 self:=λ_ _ _ _ _ st h=>wpAny_pyIter_listiter st h
theorem AK{P:Program}{w:World}{K:Frag}{tg:Expr}(a it:Addr):Turn P w K tg (Itt K a) [it] it (λi h=>h.IsTupleIter it a i) where
 mem:=by simp
 obj:=λi h st b hb=>by
  have e:b=it:=by simpa using hb
  subst e
  obtain⟨o,e,c,d⟩:=st
  exact{o,e,λv z=>by rw[d]at z;cases z}
 keep:=λi h h' st k=>st.at λo e=>k it (by simp) o e
 item:=by
  intro X hP hw hK hc i pins s σ H E I hf st hg
  subst hP hw hK
  obtain⟨xs,x,hq,hx⟩:=hg
  obtain⟨az,rv,p,hz⟩:=I.tuple hq
  obtain⟨u,hu,ru⟩:=rv.get hx
  obtain⟨f0,f1,f2,f3,f4,f5⟩:=hf it<|by simp
  refine wpAny_pyNext_tuple_item st (show s.heap.IsTuple a az.toArray from p) (x:=u) (by simpa using hu) λh' eW sb=>?_
  have I1:Inv X pins σ H {s with heap:=h'}:=I.turned (t':=s.toks) (λb o hb e=>(sb.2 b hb).trans e) f0 f1 f3 f4 f5
  obtain⟨o,e,c,d⟩:=id eW
  exact{u,rfl,tQ (s:={s with heap:=h'}) e c d (by decide) {x,H,I1,ru,{rfl,λys hy=>by rw[I.m6 hy hq];exact hx},eW,λb hb=>(hf b hb).1}}
 done:=by
  intro X hP hw hK hc i pins s σ H E I hf st hg
  subst hP hw hK
  obtain⟨xs,hq,hx⟩:=hg
  obtain⟨az,rv,p,hz⟩:=I.tuple hq
  obtain⟨f0,f1,f2,f3,f4,f5⟩:=hf it<|by simp
  have hl:=rv.length
  exact wpAny_pyNext_tuple_end (I.ok.hd hc) st (show s.heap.IsTuple a az.toArray from p) (by simp;lia) λh' eb=>{rfl,I.turned (t':=s.toks) (λb o hb e=>eb b o hb e) f0 f1 f3 f4 f5}
 self:=λ_ _ _ _ _ st h=>wpAny_pyIter_tupleiter st h
theorem AL{P:Program}{w:World}{K:Frag}{tg:Expr}(it:Addr)(lo:Int)(n:Nat):Turn P w K tg (Ws lo n) [it] it (λi h=>IsRangeIter h it (lo+(i:Nat)*1) ((n:Int)-(i:Nat)) 1) where
 mem:=by simp
 obj:=λi h st b hb=>by
  have e:b=it:=by simpa using hb
  subst e
  exact⟨_,st,λv z=>by
   have z':Data.fields _=Data.cell v:=z
   cases z'⟩
 keep:=λi h h' st k=>k it (by simp) _ st
 item:=by
  intro X hP hw hK hc i pins s σ H E I hf st hg
  subst hP hw hK
  obtain⟨f0,f1,f2,f3,f4,f5⟩:=hf it<|by simp
  have W:=Walks.range (prog:=X.prog) (w:=X.w) (I.ok.hd hc) it lo 1 n
  refine W.item i s _ _ hg st λv h' tk hv eW kk=>?_
  obtain⟨t,rfl⟩:=hv
  have I1:Inv X pins σ H {s with heap:=h',toks:=tk}:=I.turned (λb o hb e=>kk b o (by simpa using hb) e) f0 f1 f3 f4 f5
  refine{_,rfl,tQ (s:={s with heap:=h',toks:=tk}) (n:="range_iterator") eW rfl rfl (by decide) {.int<|lo+i,H,I1,{t,?_},⟨rfl,rfl⟩,eW,λb hb=>(hf b hb).1}}
  rw[Int.mul_one]
 done:=by
  intro X hP hw hK hc i pins s σ H E I hf st hg
  subst hP hw hK
  obtain⟨f0,f1,f2,f3,f4,f5⟩:=hf it<|by simp
  exact wpAny_pyNext_range_end (I.ok.hd hc) st (by have:n<=i:=hg;lia) λh' eb=>{rfl,I.turned (t':=s.toks) (λb o hb e=>eb b o hb e) f0 f1 f3 f4 f5}
 self:=λ_ _ _ _ _ st h=>wpAny_pyIter_rangeiter st h
section
variable{X:Cx}{tg:Expr}
def Sy(K:Frag)(tl:TE):TI:=λσ H R=>tl σ H λx H1=>∃a,x=.ref a/\(∃xs,jd K H1 a xs)/\R (Itl K a) H1
def XM(K:Frag)(tl:TE):TI:=λσ H R=>tl σ H λx H1=>∃a,x=.ref a/\(∃xs,gM K H1 a xs)/\R (Itt K a) H1
theorem J1{l:Expr}{tl:TE}(hl:PE X l tl):PI X tg l (Sy X.K tl):=by
 intro pins s σ H R I h;refine aX (hl pins s σ H _ I h) λv s1 ⟨x,H1,I1,r1,q1⟩=>?_;obtain⟨a,e,⟨xs,hq⟩,q⟩:=q1;subst e;cases r1;obtain⟨az,rv,p,hz⟩:=I1.list hq;refine wpAny_pyIter_list p.isList ?_;refine{s1.heap.objs.size,[s1.heap.objs.size],_,_,H1,rfl,I1.kept (t':=s1.toks) λb o e=>za _ e,D7 a _,{_,zk _ rfl,rfl,rfl},λb hb=>?_,q};have e:b=s1.heap.objs.size:=by simpa using hb
 subst e;exact I1.pe (zo _)<|I1.aG.fresh<|zo _
theorem Ol{l:Expr}{tl:TE}(hl:PE X l tl):PI X tg l (XM X.K tl):=by
 intro pins s σ H R I h;refine aX (hl pins s σ H _ I h) λv s1 ⟨x,H1,I1,r1,q1⟩=>?_;obtain⟨a,e,⟨xs,hq⟩,q⟩:=q1;subst e;cases r1;obtain⟨az,rv,p,hz⟩:=I1.tuple hq;refine wpAny_pyIter_tuple (show s1.heap.IsTuple a az.toArray from p) ?_;refine{s1.heap.objs.size,[s1.heap.objs.size],_,_,H1,rfl,I1.kept (t':=s1.toks) λb o e=>za _ e,AK a _,{_,zk _ rfl,rfl,rfl},λb hb=>?_,q};have e:b=s1.heap.objs.size:=by simpa using hb
 subst e;exact I1.pe (zo _)<|I1.aG.fresh<|zo _
theorem Ge{pins:List<|Addr×Obj}{σ:St}{H:Hp}{s:Shared}{R:It->Hp->Prop}{E:Value->Shared->Prop}{lo hi:Int}{t u v:Tok}{tk:Nat}(I:Inv X pins σ H s)(h1:-(2^62)<=lo)(h2:lo<2^62)(h3:-(2^62)<=hi)(h4:hi<2^62) (q:R (Ws lo (hi-lo).toNat) H):wpAny (model X.prog X.w) X.A (pyIter<|.ref s.heap.objs.size) (XJ X pins σ tg R) E {s with heap:=s.heap.push {cls:=.type "range",data:=.fields #[.int lo t,.int hi u,.int 1 v]},toks:=tk}:=by
 refine wpAny_pyIter_range (IsRange.new ..) (small_one h1 h2 h3 h4) ?_;have I1:Inv X pins σ H {s with heap:=s.heap.push {cls:=.type "range",data:=.fields #[.int lo t,.int hi u,.int 1 v]},toks:=tk}:=I.kept λb o e=>za _ e;refine{(s.heap.push {cls:=.type "range",data:=.fields #[.int lo t,.int hi u,.int 1 v]}).objs.size,[(s.heap.push {cls:=.type "range",data:=.fields #[.int lo t,.int hi u,.int 1 v]}).objs.size],_,_,H,rfl,I1.kept (t':=tk) λb o e=>za _ e,AL _ lo (hi-lo).toNat,?_,λb hb=>?_,q};have e1:lo+((0:Nat):Int)*1=lo:=by simp
 have e2:(((hi-lo).toNat:Nat):Int)-((0:Nat):Int)=Builtin.Range.rangeSize lo hi 1:=by rw[rangeSize_one];split<;>lia
 show IsRangeIter _ _ (lo+((0:Nat):Int)*1) ((((hi-lo).toNat:Nat):Int)-((0:Nat):Int)) 1;rw[e1,e2];exact zk _ rfl;have e:b=(s.heap.push {cls:=.type "range",data:=.fields #[.int lo t,.int hi u,.int 1 v]}).objs.size:=by simpa using hb
 subst e;exact I1.pe (zo _)<|I1.aG.fresh<|zo _
def Sz(ta:TA):TI:=λσ H R=>ta σ H λvs H1=>∃j:Int,vs=[.int j]/\-(2^62)<=j/\j<2^62/\R (Ws 0 j.toNat) H1
theorem D8{a:Expr}{ta:TA}{p pos:Pos}(hg:Gl X "range")(hm:X.mg "range"= none)(ha:PA X [a] ta)(hs:autoParam (starEach [a] X.env=[(false,eval a X.env)]) qQJ):PI X tg (.Call (.Name "range" p) [a] [] pos) (Sz ta):=by intro pins s σ H R I h;refine Call_<|gA I hg hm boot_range<|PyProof.Rows.callWith_type1 (aX (ha pos pins s σ H _ I h) λus s1 ⟨vs,H1,I1,r1,q1⟩=>?_) hs rfl;obtain⟨j,e,q1,q2,q⟩:=q1;subst e;cases r1 with|cons r rr=>cases rr;obtain⟨t,rfl⟩:=r;exact call_range_1<|Ge I1 (by lia) (by lia) q1 q2<|by simpa using q
def XN(wi:TI)(g:TG)(tb:TS):TS:=λD σ H=>wi σ H λJ H1=>∃W:Nat->Nat->St->Hp->Prop,(∃m,W 0 m σ H1)/\∀i m σ H,W i m σ H->(J.stop i H/\D.nx σ H)\/(J.go i H/\∃N:St->Hp->Prop,(∀av H',N av H'->∃m',m'<m/\W (i+1) m' av H')/\∀x H',J.Sw i H x H'->g x σ H' λCB H2=>tb {D with nx:=N,ct:=N,bk:=D.nx} CB H2)
noncomputable def qm(fp:List Addr)(h:Heap):List (Addr×Obj):=fp.filterMap λb=>(h.get? b).map λo=>(b,o)
theorem ie(hb:b∈fp)(e:h.get? b=some o):(b,o)∈qm fp h:=List.mem_filterMap.mpr {b,hb,by rw[e];rfl}
theorem D9(hp:p∈qm fp h):p.1∈fp/\h.get? p.1=some p.2:=by obtain⟨b,hb,e⟩:=List.mem_filterMap.mp hp;cases q:h.get? b with|none=>(rw[q]at e;cases e)|some o=>rw[q]at e;have e':(b,o)=p:=zU e;subst e';exact⟨hb,q⟩
theorem Inv.pinned(I:Inv X pins σ H s)(hf:∀b∈fp,sN X pins H b)(ho:∀b∈fp,∃o,s.heap.get? b=some o/\∀v,o.data≠.cell v):Inv X (pins++qm fp s.heap) σ H s:=I.lS λp hp=>(zR.mp hp).elim (λz=>I.pin p<|zC _ z) λz=>by obtain⟨hb,e⟩:=D9 z;obtain⟨f0,f1,f2,_⟩:=hf p.1 hb;obtain⟨o,e',d⟩:=ho p.1 hb;rw[e]at e';cases e';exact⟨e,f0,f1,f2,d⟩
theorem Inv.qo(I:Inv X (pins++pl) σ H s):Inv X pins σ H s:=I.lS λp hp=>I.pin p<|zC _<|zS _ hp
theorem Om(hp:PassesOwn (model X.prog X.w) X.A X.env X.xe)(hc:X.calm=true)(hi:PI X tg iter wi)(hg:PG X tg g)(hb:AI X body tb) (hs:autoParam (∀x,foldedSetIterable iter X.env x=pure x) qQ0):PS X (.For tg iter body [] pos) (XN wi g tb):=by intro pins s σ H D I h;refine wpAny_For (aX (hi pins s σ H _ I h) λv s1 h1=>aX h1 λWr s2 h2=>?_) hs;obtain⟨it,fp,tn,J,H2,e,I2,T,AM,f2,W,⟨m0,w0⟩,turn⟩:=h2;subst e;have Oo:∀{H':Hp},(∀b∈fp,H' b=none)->∀b∈fp,sN X pins H' b:=λhn b hb=>{hn b hb,(f2 b hb).2};refine codeAny_forLoop_any (λn s'=>∃i av H',Inv X pins av H' s'/\tn i s'.heap/\(∀b∈fp,H' b=none)/\W i n av H') ?_ m0 {0,σ,H2,I2,AM,λb hb=>(f2 b hb).1,w0};rintro n s3 ⟨i,i7,H3,I3,Gf,SM,w3⟩;rcases turn i n i7 H3 w3 with⟨stop,qn⟩|⟨go,N,hN,step⟩;refine wpAny_passesOwn hp<|aX (T.done X rfl rfl rfl hc i pins s3 i7 H3 X.xe I3 (Oo SM) Gf stop) λr s4 ⟨hr,I4⟩=>?_;subst hr;exact wpAny_execs_nil ⟨i7,H3,I4,qn⟩;{refine wpAny_passesOwn hp<|aX (T.item X rfl rfl rfl hc i pins s3 i7 H3 X.xe I3 (Oo SM) Gf go) λr s4 ⟨u,hr,h4⟩=>?_;subst hr;refine wpAny_passesOwn hp<|aX h4 λ_ s5 ⟨x,H5,I5,r5,y5,D_,fr5⟩=>?_;have XO:=I5.pinned (Oo fr5)<|T.obj _ _ D_;refine wpAny_passesOwn hp<|aX (hg _ s5 i7 H5 x u _ XO r5<|step x H5 y5) λ_ s6 ⟨SN,H6,I6,q6⟩=>?_;refine wpAny_passesOwn hp<|aX (hb _ s6 SN H6 _ I6 q6) λf s7 q7=>?_;have again:∀{Gg:St}{H7:Hp},Inv X (pins++qm fp s5.heap) Gg H7 s7->N Gg H7->∃m,m<n/\∃i av H',Inv X pins av H' s7/\tn i s7.heap/\(∀b∈fp,H' b=none)/\W i m av H':=λ{Gg H7} I7 n7=>(by obtain⟨m',hm,w7⟩:=hN Gg H7 n7;refine{m',hm,i+1,Gg,H7,I7.qo,T.keep _ _ _ D_ λb hb o e=>(I7.pin (b,o)<|zC _<|zC _<|ie hb e).1,λb hb=>?_,w7};obtain⟨o,e,d⟩:=T.obj _ _ D_ b hb;exact(I7.pin (b,o)<|zC _<|zC _<|ie hb e).2.1);cases f with|next=>(obtain⟨Gg,H7,I7,n7⟩:=q7;exact again I7 n7)|cont=>(obtain⟨Gg,H7,I7,n7⟩:=q7;exact again I7 n7)|brk=>(obtain⟨Gg,H7,I7,q7⟩:=q7;exact⟨Gg,H7,I7.qo,q7⟩)|ret v=>obtain⟨x7,Gg,H7,I7,r7,q7⟩:=q7;exact⟨x7,Gg,H7,I7.qo,r7,q7⟩}
end
abbrev R2:=V->V->Hp->VK->Prop
def gN(X:Cx)(f:Value->Value->Sem Value)(r:R2):Prop:=∀(pins:List (Addr×Obj))(s:Shared)(σ:St)(H:Hp)(x y:V)(v u:Value)(Q:VK),Inv X pins σ H s->RelV x v->RelV y u->r x y H Q->wpAny (model X.prog X.w) X.A (f v u) (EP X pins σ Q) X.xe s
def XQ(X:Cx)(f:Value->Sem Value)(r:V->Hp->VK->Prop):Prop:=∀(pins:List (Addr×Obj))(s:Shared)(σ:St)(H:Hp)(x:V)(v:Value)(Q:VK),Inv X pins σ H s->RelV x v->r x H Q->wpAny (model X.prog X.w) X.A (f v) (EP X pins σ Q) X.xe s
def dy(X:Cx)(f:Value)(r:List V->Hp->VK->Prop):Prop:=∀(pins:List (Addr×Obj))(s:Shared)(σ:St)(H:Hp)(xs:List V)(us:List Value)(Q:VK),Inv X pins σ H s->Vals xs us->r xs H Q->wpAny (model X.prog X.w) X.A (call f us) (EP X pins σ Q) X.xe s
def Rr(r:R2)(ta tb:TE):TE:=λσ H Q=>ta σ H λx H1=>tb σ H1 λy H2=>r x y H2 Q
def tUn(r:V->Hp->VK->Prop)(ta:TE):TE:=λσ H Q=>ta σ H λx H1=>r x H1 Q
def rI(C:Int->Int->Prop)(g:Int->Int->V):R2:=λx y H Q=>∃i j,x=.int i/\y=.int j/\C i j/\Q (g i j) H
def J2(g:Int->Int->V):R2:=λx y H Q=>∃i j,x=.int i/\y=.int j/\Q (g i j) H
def rU(g:Int->V):V->Hp->VK->Prop:=λx H Q=>∃i,x=.int i/\Q (g i) H
section
variable{X:Cx}{a b:Expr}{ta tb:TE}{pos:Pos}
theorem Oq(ha:PE X a ta)(hb:PE X b tb){pins:List<|Addr×Obj}{s:Shared}{σ:St}{H:Hp}{R:V->V->Hp->Prop}(I:Inv X pins σ H s) (h:ta σ H λx H1=>tb σ H1 λy H2=>R x y H2) {Q:Value->Shared->Prop}{f:Value->Value->Sem Value} (hf:∀v u s2 x y H2,Inv X pins σ H2 s2->RelV x v->RelV y u->R x y H2->wpAny (model X.prog X.w) X.A (f v u) Q X.xe s2): wpAny (model X.prog X.w) X.A (eval a X.env) (λv aU=>wpAny (model X.prog X.w) X.A (eval b X.env) (λu bM=>wpAny (model X.prog X.w) X.A (f v u) Q X.xe bM) X.xe aU) X.xe s:=by refine aX (ha pins s σ H _ I h) λv s1 ⟨x,H1,I1,r1,q1⟩=>?_;refine aX (hb pins s1 σ H1 _ I1 q1) λu s2 ⟨y,H2,I2,r2,q2⟩=>?_;exact hf v u s2 x y H2 I2 r1 r2 q2
theorem SO{op:Operator}{r:R2}(ho:gN X (binaryOp op) r)(ha:PE X a ta)(hb:PE X b tb):PE X (.BinOp a op b pos) (Rr r ta tb):=by intro pins s σ H Q I h;exact wpAny_BinOp<|Oq ha hb I h λv u s2 x y H2 I2 rx ry q=>ho pins s2 σ H2 x y v u Q I2 rx ry q
theorem SQ(ho:XQ X (unaryOp op) r)(ha:PE X a ta):PE X (.UnaryOp op a pos) (tUn r ta):=by intro pins s σ H Q I h;exact UnaryOp_<|aX (ha pins s σ H _ I h) <| by rintro v s1 ⟨x,H1,I1,r1,q1⟩;exact ho pins s1 σ H1 x v Q I1 r1 q1
theorem Wt{f:Value->Value->Sem Value}{C:Int->Int->Prop}{g:Int->Int->Int} (rule:∀(i j:Int)(t u:Tok)(s:Shared)(Q:Value->Shared->Prop)(E:Value->Shared->Prop),C i j->Q (.int (g i j) s.toks) {s with toks:=s.toks+1}->wpAny (model X.prog X.w) X.A (f (.int i t)<|.int j u) Q E s): gN X f (rI C λi j=>.int<|g i j):=by intro pins s σ H x y v u Q I rx ry h;obtain⟨i,j,rfl,rfl,hc,q⟩:=h;obtain⟨t,rfl⟩:=rx;obtain⟨t',rfl⟩:=ry;exact rule i j t t' s _ _ hc {.int<|g i j,H,I.tok _,{_,rfl},q}
theorem SR{f:Value->Value->Sem Value}{g:Int->Int->Int} (rule:∀(i j:Int)(t u:Tok)(s:Shared)(Q:Value->Shared->Prop)(E:Value->Shared->Prop),Q (.int (g i j) s.toks) {s with toks:=s.toks+1}->wpAny (model X.prog X.w) X.A (f (.int i t)<|.int j u) Q E s): gN X f (J2 λi j=>.int<|g i j):=by intro pins s σ H x y v u Q I rx ry h;obtain⟨i,j,rfl,rfl,q⟩:=h;obtain⟨t,rfl⟩:=rx;obtain⟨t',rfl⟩:=ry;exact rule i j t t' s _ _ {.int<|g i j,H,I.tok _,{_,rfl},q}
theorem J3{f:Value->Value->Sem Value}{g:Int->Int->Bool} (rule:∀(i j:Int)(t u:Tok)(s:Shared)(Q:Value->Shared->Prop)(E:Value->Shared->Prop),Q (.bool<|g i j) s->wpAny (model X.prog X.w) X.A (f (.int i t)<|.int j u) Q E s): gN X f (J2 λi j=>.bl<|g i j):=by intro pins s σ H x y v u Q I rx ry h;obtain⟨i,j,rfl,rfl,q⟩:=h;obtain⟨t,rfl⟩:=rx;obtain⟨t',rfl⟩:=ry;exact rule i j t t' s _ _ {.bl<|g i j,H,I,rfl,q}
def SS(i j:Int):Prop:=0<=j/\j<=1000000/\i.natAbs<2^64
def J4(i j:Int):Prop:=(-(2^64)<i/\i<2^64)\/(-(2^64)<j/\j<2^64)
theorem J4.ok{i j:Int}(h:J4 i j):IntMulOk i j:=by rcases h with⟨h1,h2⟩|⟨h1,h2⟩;exact .of_left<|intBits_le_64 h1 h2;exact .of_right<|intBits_le_64 h1 h2
theorem Gi:gN X (binaryOp .Add) (J2 λi j=>.int<|i+j):=SR λ_ _ _ _ _ _ _ q=>add_int q
theorem Ot:gN X (binaryOp .Sub) (J2 λi j=>.int<|i-j):=SR λ_ _ _ _ _ _ _ q=>sub_int q
theorem Ou:gN X (binaryOp .Mult) (rI J4 λi j=>.int<|i*j):=Wt λ_ _ _ _ _ _ _ hc q=>mul_int q hc.ok
theorem Ov:gN X (binaryOp .Mod) (rI (λ_ j=>0<j) λi j=>.int<|i%j):=Wt λi j _ _ _ _ _ hc q=>by have h1:(0:Int)<j:=hc;exact mod_int' (by lia)<|by rw[Int.fmod_eq_emod_of_nonneg i<|by lia];exact q
theorem Ow:gN X (binaryOp .Pow) (rI SS λi j=>.int<|i^j.toNat):=Wt λ_ _ _ _ _ _ _ hc q=>pow_int_small hc.1 hc.2.1 hc.2.2 q
theorem unI{f:Value->Sem Value}{g:Int->Int} (rule:∀(i:Int)(t:Tok)(s:Shared)(Q:Value->Shared->Prop)(E:Value->Shared->Prop),Q (.int (g i) s.toks) {s with toks:=s.toks+1}->wpAny (model X.prog X.w) X.A (f<|.int i t) Q E s): XQ X f (rU λi=>.int<|g i):=by intro pins s σ H x v Q I rx h;obtain⟨i,rfl,q⟩:=h;obtain⟨t,rfl⟩:=rx;exact rule i t s _ _ {.int<|g i,H,I.tok _,{_,rfl},q}
theorem Ox:XQ X (unaryOp .USub) (rU λi=>.int (-i)):=unI λ_ _ _ _ _ q=>neg_int q
end
noncomputable def SU:V->V->Bool|.ao,.ao=>true|.ao,.int _=>true|.int _,.ao=>true|.ao,.bl _=>true|.bl _,.ao=>true|.ao,.str _=>true|.str _,.ao=>true|.int _,.int _=>true|.bl _,.bl _=>true|.str _,.str _=>true|.Cv _,.Cv _=>true|.int _,.str _=>true|.str _,.int _=>true|.bl _,.str _=>true|.str _,.bl _=>true|_,_=>false
def rEq:R2:=λx y H Q=>SU x y=true/\Q (.bl<|decide<|x=y) H
def rNe:R2:=λx y H Q=>SU x y=true/\Q (.bl<|!decide (x=y)) H
theorem CC:decide (V.int i=V.int j)=(i==j):=by rw[yB];simp
theorem Gj:decide (V.bl i=V.bl j)=(i==j):=by rw[yB];simp
theorem CD:decide (V.str i=V.str j)=(i==j):=by rw[yB];simp
theorem CF:decide (V.Cv i=V.Cv j)=(i.toList==j.toList):=by rw[yB];cases i;cases j;simp
section
variable{X:Cx}{a b c:Expr}{ta tb tc:TE}{pos:Pos}
theorem aH(I:Inv X pins σ H s)(q:Q (.bl k) H)(e:k=k'):EP X pins σ Q (.bool k') s:=by subst e;exact{.bl k,H,I,rfl,q}
theorem MG:gN X (compareOp .Eq) rEq:=by intro pins s σ H x y v u Q I rx ry h;obtain⟨hs,q⟩:=h;cases x with|ao=>(cases rx;cases y with|ao=>(cases ry;exact PySem.EqNone.eq_none_none<|aH I q<|by simp)|bl j=>(cases ry;exact PySem.EqNone.eq_none_bool<|aH I q<|by simp)|int j=>(obtain⟨t',rfl⟩:=ry;exact PySem.EqNone.eq_none_int<|aH I q<|by simp)|str j=>(obtain⟨t',rfl⟩:=ry;exact PySem.EqNone.eq_none_str<|aH I q<|by simp)|_=>exact absurd (show false=true from hs) zd)|bl i=>(cases rx;cases y with|ao=>(cases ry;exact PySem.EqNone.eq_bool_none<|aH I q<|by simp)|bl j=>(cases ry;exact eq_bool<|aH I q Gj)|str j=>(obtain⟨t',rfl⟩:=ry;exact PySem.EqMixed.eq_bool_str<|aH I q<|by simp)|_=>exact absurd (show false=true from hs) zd)|int i=>(obtain⟨t,rfl⟩:=rx;cases y with|ao=>(cases ry;exact PySem.EqNone.eq_int_none<|aH I q<|by simp)|int j=>(obtain⟨t',rfl⟩:=ry;exact eq_int<|aH I q CC)|str j=>(obtain⟨t',rfl⟩:=ry;exact PySem.EqMixed.eq_int_str<|aH I q<|by simp)|_=>exact absurd (show false=true from hs) zd)|str i=>(obtain⟨t,rfl⟩:=rx;cases y with|ao=>(cases ry;exact PySem.EqNone.eq_str_none<|aH I q<|by simp)|bl j=>(cases ry;exact PySem.EqMixed.eq_str_bool<|aH I q<|by simp)|int j=>(obtain⟨t',rfl⟩:=ry;exact PySem.EqMixed.eq_str_int<|aH I q<|by simp)|str j=>(obtain⟨t',rfl⟩:=ry;exact eq_str<|aH I q CD)|_=>exact absurd (show false=true from hs) zd)|Cv i=>(obtain⟨t,rfl⟩:=rx;cases y with|Cv j=>(obtain⟨t',rfl⟩:=ry;exact PySem.W.eq_bytes<|aH I q CF)|_=>exact absurd (show false=true from hs) zd)|_=>cases y<;>exact absurd (show false=true from hs) zd
theorem MH:gN X (compareOp .NotEq) rNe:=by intro pins s σ H x y v u Q I rx ry h;obtain⟨hs,q⟩:=h;cases x with|ao=>(cases rx;cases y with|ao=>(cases ry;exact PySem.EqNone.ne_none_none<|aH I q<|by simp)|bl j=>(cases ry;exact PySem.EqNone.ne_none_bool<|aH I q<|by simp)|int j=>(obtain⟨t',rfl⟩:=ry;exact PySem.EqNone.ne_none_int<|aH I q<|by simp)|str j=>(obtain⟨t',rfl⟩:=ry;exact PySem.EqNone.ne_none_str<|aH I q<|by simp)|_=>exact absurd (show false=true from hs) zd)|bl i=>(cases rx;cases y with|ao=>(cases ry;exact PySem.EqNone.ne_bool_none<|aH I q<|by simp)|bl j=>(cases ry;exact ne_bool<|aH I q<|congrArg not Gj)|str j=>(obtain⟨t',rfl⟩:=ry;exact PySem.EqMixed.ne_bool_str<|aH I q<|by simp)|_=>exact absurd (show false=true from hs) zd)|int i=>(obtain⟨t,rfl⟩:=rx;cases y with|ao=>(cases ry;exact PySem.EqNone.ne_int_none<|aH I q<|by simp)|int j=>(obtain⟨t',rfl⟩:=ry;exact ne_int<|aH I q<|congrArg not CC)|str j=>(obtain⟨t',rfl⟩:=ry;exact PySem.EqMixed.ne_int_str<|aH I q<|by simp)|_=>exact absurd (show false=true from hs) zd)|str i=>(obtain⟨t,rfl⟩:=rx;cases y with|ao=>(cases ry;exact PySem.EqNone.ne_str_none<|aH I q<|by simp)|bl j=>(cases ry;exact PySem.EqMixed.ne_str_bool<|aH I q<|by simp)|int j=>(obtain⟨t',rfl⟩:=ry;exact PySem.EqMixed.ne_str_int<|aH I q<|by simp)|str j=>(obtain⟨t',rfl⟩:=ry;exact ne_str<|aH I q<|congrArg not CD)|_=>exact absurd (show false=true from hs) zd)|Cv i=>(obtain⟨t,rfl⟩:=rx;cases y with|Cv j=>(obtain⟨t',rfl⟩:=ry;exact PySem.W.ne_bytes<|aH I q<|congrArg not CF)|_=>exact absurd (show false=true from hs) zd)|_=>cases y<;>exact absurd (show false=true from hs) zd
theorem SV:gN X (compareOp .Lt) (J2 λi j=>.bl<|decide<|i<j):=J3 λ_ _ _ _ _ _ _ q=>lt_int q
theorem SW:gN X (compareOp .LtE) (J2 λi j=>.bl<|decide<|i<=j):=J3 λ_ _ _ _ _ _ _ q=>le_int q
theorem SX:gN X (compareOp .Gt) (J2 λi j=>.bl<|decide<|j<i):=J3 λ_ _ _ _ _ _ _ q=>gt_int q
theorem SY:gN X (compareOp .GtE) (J2 λi j=>.bl<|decide<|j<=i):=J3 λ_ _ _ _ _ _ _ q=>ge_int q
theorem Ea:gN X (compareOp .Lt) (λx y H Q=>∃i j,x=.str i/\y=.str j/\Q (.bl<|decide<|i.cps.toList<j.cps.toList) H):=by intro pins s σ H x y v u Q I rx ry h;obtain⟨i,j,rfl,rfl,q⟩:=h;obtain⟨t,rfl⟩:=rx;obtain⟨t',rfl⟩:=ry;exact lt_str<|aH I q rfl
theorem Eb:gN X (compareOp .In) (λx y H Q=>∃i j,x=.str i/\y=.str j/\Q (.bl<|!(Builtin.Str.occurrences j i 0 j.length 1).isEmpty) H):=by intro pins s σ H x y v u Q I rx ry h;obtain⟨i,j,rfl,rfl,q⟩:=h;obtain⟨t,rfl⟩:=rx;obtain⟨t',rfl⟩:=ry;exact in_str<|aH I q rfl
theorem Oy:gN X (compareOp .Is) (λx y H Q=>y=.ao/\Q (.bl<|decide<|x=.ao) H):=by intro pins s σ H x y v u Q I rx ry h;obtain⟨rfl,q⟩:=h;cases ry;refine is_none_gen<|aH I q ?_;cases x<;>first| (cases rx;rfl)| (obtain⟨t,rfl⟩:=rx;rfl)
theorem J5:gN X (compareOp .IsNot) (λx y H Q=>y=.ao/\Q (.bl<|!decide (x=.ao)) H):=by intro pins s σ H x y v u Q I rx ry h;obtain⟨rfl,q⟩:=h;cases ry;refine isnot_none_gen<|aH I q ?_;cases x<;>first| (cases rx;rfl)| (obtain⟨t,rfl⟩:=rx;rfl)
theorem XR(b:Expr)(h:autoParam (op≠.In) qQZ)(h2:autoParam (op≠.NotIn) qQZ):behindInMarks op b=false:=by
 have e1:(op==CmpOp.In)=false:=by cases op<;>first|rfl|exact absurd rfl h
 have e2:(op==CmpOp.NotIn)=false:=by cases op<;>first|rfl|exact absurd rfl h2
 cases b<;>simp[behindInMarks,e1,e2]
theorem CG{op:CmpOp}{r:R2}(ho:gN X (compareOp op) r)(ha:PE X a ta)(hb:PE X b tb)(hm:behindInMarks op b=false):PE X (.Compare a [op] [b] pos) (Rr r ta tb):=by intro pins s σ H Q I h;exact wpAny_Compare1 (Oq ha hb I h λv u s2 x y H2 I2 rx ry q=>ho pins s2 σ H2 x y v u Q I2 rx ry q) hm
def Gk(t:TE):TT:=λσ H Q=>t σ H λx H'=>∃k,x=.bl k/\Q k H'
theorem J6{op:CmpOp}{r:R2}(ho:gN X (compareOp op) r)(ha:PE X a ta)(hb:PE X b tb)(hm:behindInMarks op b=false):PT X (.Compare a [op] [b] pos) (Gk<|Rr r ta tb):=by intro pins s σ H Q I h;refine wpAny_isTrue_Compare1 (aX (ha pins s σ H _ I h) λv s1 ⟨x,H1,I1,r1,q1⟩=>aX (hb pins s1 σ H1 _ I1 q1) λu s2 ⟨y,H2,I2,r2,q2⟩=>aX (ho pins s2 σ H2 x y v u _ I2 r1 r2 q2) λc s3 ⟨z,H3,I3,r3,k,e,q3⟩=>?_) hm;subst e;cases r3;exact yq ⟨H3,I3,q3⟩
def AN(r r':R2)(ta tb tc:TE):TE:=λσ H Q=>ta σ H λx H1=>tb σ H1 λy H2=>r x y H2 λz H3=>∃k,z=.bl k/\(if k=true then tc σ H3 λw' H4=>r' y w' H4 Q else Q (.bl false) H3)
theorem Gm{op Ec:CmpOp}{r r':R2}(ho:gN X (compareOp op) r)(AG:gN X (compareOp Ec) r')(ha:PE X a ta)(hb:PE X b tb)(hc:PE X c tc) (hm:autoParam (lastMarks [op,Ec] [b,c]=false) qQ2):PE X (.Compare a [op,Ec] [b,c] pos) (AN r r' ta tb tc):=by intro pins s σ H Q I h;refine Compare_chain (aX (ha pins s σ H _ I h) λv s1 ⟨x,H1,I1,r1,q1⟩=>chain_link<|aX (hb pins s1 σ H1 _ I1 q1) λu s2 ⟨y,H2,I2,r2,q2⟩=>aX (ho pins s2 σ H2 x y v u _ I2 r1 r2 q2) λd s3 ⟨z,H3,I3,r3,k,e,q3⟩=>?_) hm;subst e;cases r3;refine yq ?_;cases k with|false=>exact ite_ff {.bl false,H3,I3,rfl,q3}|true=>exact ite_tt<|chain_last<|aX (hc pins s3 σ H3 _ I3 q3) λw' s4 ⟨z',H4,I4,r4,q4⟩=>AG pins s4 σ H4 y z' u w' Q I4 r2 r4 q4
theorem Gn{op Ec:CmpOp}{r r':R2}(ho:gN X (compareOp op) r)(AG:gN X (compareOp Ec) r')(ha:PE X a ta)(hb:PE X b tb)(hc:PE X c tc) (hm:autoParam (lastMarks [op,Ec] [b,c]=false) qQ2):PT X (.Compare a [op,Ec] [b,c] pos) (Gk<|AN r r' ta tb tc):=by intro pins s σ H Q I h;refine isTrue_chain (aX (ha pins s σ H _ I h) λv s1 ⟨x,H1,I1,r1,q1⟩=>test_link<|aX (hb pins s1 σ H1 _ I1 q1) λu s2 ⟨y,H2,I2,r2,q2⟩=>aX (ho pins s2 σ H2 x y v u _ I2 r1 r2 q2) λd s3 ⟨z,H3,I3,r3,k,e,q3⟩=>?_) hm;subst e;cases r3;refine yq ?_;cases k with|false=>(obtain⟨k',e',q'⟩:=q3;cases e';exact ite_ff ⟨H3,I3,q'⟩)|true=>refine ite_tt<|test_last<|aX (hc pins s3 σ H3 _ I3 q3) λw' s4 ⟨z',H4,I4,r4,q4⟩=>aX (AG pins s4 σ H4 y z' u w' _ I4 r2 r4 q4) λd' s5 ⟨z2,H5,I5,r5,k2,e2,q5⟩=>?_;subst e2;cases r5;exact yq ⟨H5,I5,q5⟩
theorem qp:(sizeLine:Nat)<2^63:=by rw[zY];decide
theorem qq:gN X (binaryOp .Add) (λx y H Q=>∃i j,x=.str i/\y=.str j/\i.length+j.length<=sizeLine/\Q (.str<|i++j) H):=by intro pins s σ H x y v u Q I rx ry h;obtain⟨i,j,rfl,rfl,hz,q⟩:=h;obtain⟨t,rfl⟩:=rx;obtain⟨t',rfl⟩:=ry;exact add_str (λt' tk=>{.str<|i++j,H,I.tok _,{_,rfl},q}) hz
theorem vals1(r:Vals [x] us):∃u,us=[u]/\RelV x u:=by cases r with|cons r1 r2=>cases r2;exact{_,rfl,r1}
theorem vals2(r:Vals [x,y] us):∃u w',us=[u,w']/\RelV x u/\RelV y w':=by cases r with|cons r1 r2=>cases r2 with|cons r3 r4=>cases r4;exact{_,_,rfl,r1,r3}
theorem Ed(hc:X.calm=true):dy X (.builtin "min") (λxs H Q=>∃i j,xs=[.int i,.int j]/\Q (.int<|if j<i then j else i) H):=by intro pins s σ H xs us Q I r h;obtain⟨i,j,rfl,q⟩:=h;obtain⟨u,w',rfl,⟨t,rfl⟩,⟨t',rfl⟩⟩:=vals2 r;refine min_two_ints (I.ok.hd hc) λh' tk k=>{_,H,I.kept k,?_,q};by_cases hj:j<i;rw[if_pos hj,if_pos hj];exact{_,rfl};rw[if_neg hj,if_neg hj];exact{_,rfl}
theorem tR:dy X (.type "int") (λxs H Q=>(∃i,xs=[.int i]/\Q (.int i) H)\/∃k,xs=[.bl k]/\Q (.int<|if k then 1 else 0) H):=by intro pins s σ H xs us Q I r h;rcases h with⟨i,rfl,q⟩|⟨k,rfl,q⟩;obtain⟨u,rfl,t,rfl⟩:=vals1 r;exact call_int_int {.int i,H,I,{_,rfl},q};obtain⟨u,rfl,r1⟩:=vals1 r;cases r1;exact call_int_bool {.int<|if k then 1 else 0,H,I.tok _,{_,rfl},q}
def XS(K:Frag)(x:V)(H:Hp)(n:Nat):Prop:=match x with|.str y=>y.length<=sizeLine/\n=y.length|.Cv y=>y.size<=sizeLine/\n=y.size|.ref p=>(∃xs,jd K H p xs/\n=xs.length)\/∃xs,gM K H p xs/\n=xs.length|_=>False
theorem je:dy X (.builtin "len") (λxs H Q=>∃x n,xs=[x]/\XS X.K x H n/\Q (.int n) H):=by intro pins s σ H xs us Q I r h;obtain⟨x,n,rfl,e,q⟩:=h;obtain⟨u,rfl,rx⟩:=vals1 r;have hl:=qp;have hs:sizeLine=16777216:=zY;cases x with|str y=>(obtain⟨t,rfl⟩:=rx;obtain⟨hy,e'⟩:y.length<=sizeLine/\n=y.length:=e;subst e';exact len_str (by lia) {.int _,H,I.tok _,{_,rfl},q})|Cv y=>(obtain⟨t,rfl⟩:=rx;obtain⟨hy,e'⟩:y.size<=sizeLine/\n=y.size:=e;subst e';exact PySem.W.len_bytes (by lia) {.int _,H,I.tok _,{_,rfl},q})|ref p=>(cases rx;have e':(∃xs,jd X.K H p xs/\n=xs.length)\/∃xs,gM X.K H p xs/\n=xs.length:=e;rcases e' with⟨xs,hx,e'⟩|⟨xs,hx,e'⟩;subst e';obtain⟨az,r',pl,hz⟩:=I.list hx;have hlen:=r'.length;exact Calls.call_len_list pl.isList (by simp only[zm];lia) {.int xs.length,H,I.tok _,{_,by simp only[zm];rw[hlen]},q};subst e';obtain⟨az,r',pl,hz⟩:=I.tuple hx;have hlen:=r'.length;exact len_tuple pl (by simp only[zm];lia) {.int xs.length,H,I.tok _,{_,by simp only[zm];rw[hlen]},q})|_=>exact(show False from e).elim
end
structure AO(h:Heap)(x dx C:Addr)(mA:Str->Option Value):Prop where
 obj:h.get? x=some (instObj C dx)
 ns:h.Ns1 dx mA
 ne:dx≠x
theorem Ee{h:Heap}{dx:Addr}{mA:Str->Option Value}(n:h.Ns1 dx mA):∃od,h.get? dx=some od/\∀name,lookIn name od=some (mA name):=by
 obtain⟨o,es,ep,ho,hd,hk,_,hm⟩:=n;refine{o,ho,λname=>?_};have e:=hm name;unfold nsFind findBy at e;rw[<-Array.find?_toList]at e;unfold lookIn;rw[hd];dsimp only;split;rename_i y q;rw[q]at e;exact congrArg some e;rename_i q;rw[q]at e;have a:es.toList.any (·.refKey)=false:=by rw[List.any_eq_false];intro y hy;obtain⟨z,t,Oz⟩:=hk y<|Array.mem_toList_iff.mp hy;simp[DictEntry.refKey,Oz]
 have a':¬es.toList.any (·.refKey)=true:=by rw[a];exact zd
 rw[if_neg a'];exact congrArg some e
theorem AO.look(I:AO h x dx C mA):∃od,PySem.W.InstAt h x (instObj C dx) C (some od)/\∀name,lookIn name od=some (mA name):=
 let ⟨od,ho,hl⟩:=Ee I.ns
 ⟨od,⟨I.obj,rfl,rfl,ho⟩,hl⟩
section
variable{prog:Program}{w:World}{A:Around}{E:Value->Shared->Prop}{s:Shared}{K:Frag}{x dx C f:Addr}{mA:Str->Option Value}{name:Str}{v:Value}
theorem get_map(X:K.In s.heap)(I:AO s.heap x dx C mA)(hg:plainGet K C name=true)(hh:hasDictIn K C=true) (ha:findIn K (.ref C) name=some none) (hv:mA name=some v) (Wu:handedIn v=true) (h:Q v {s with toks:=s.toks+1}): wpAny (model prog w) A (getAttr (.ref x) name expr) Q E s:=by obtain⟨od,J,hl⟩:=I.look;exact PySem.W.get_value X J (plainGet_of hg).1 (PySem.W.findObj_own hh ha rfl<|by rw[hl,hv]) Wu h
theorem Gq(X:K.In s.heap)(I:AO s.heap x dx C mA)(hg:plainGet K C name=true) (hf:findIn K (.ref C) name=some (some<|.ref f)) (ht:isFn K (.ref f)=true) (hv:mA name=none) (h:Q (.ref f,[.ref x]) s): wpAny (model prog w) A (getMethod (.ref x) name pl) Q E s:=by obtain⟨od,J,hl⟩:=I.look;exact PySem.W.method_fn X J (plainGet_of hg).1 (plainGet_of hg).2 hf (beq_iff_eq.mp ht) (by show(lookIn name od).map (·.isSome)=some false;rw[hl,hv];rfl) h
theorem J_(X:K.In s.heap)(I:AO s.heap x dx C mA) (hs:findIn K (.ref C) "__setattr__"= some (some<|.builtin "object.__setattr__")) (hp:plainOver K C=true) (ht:takerIn K C name=some none) (hh:hasDictIn K C=true) (hw:PySem.Within mA ns) (hsz:ns.length<=sizeLine) (h:∀h',AO h' x dx C (λy=>if y=name then some v else mA y)->Heap.SameBut dx s.heap h'->Q () {s with heap:=h',toks:=s.toks+2}): wpAny (model prog w) A (setAttr (.ref x) name v) Q E s:=by obtain⟨od,J,hl⟩:=I.look;refine PySem.W.set_plain X J hs<|PySem.W.osa_open (s:={s with toks:=s.toks+1}) (r:=none) X J hp ht λb=>?_;obtain⟨cd,hc,AH⟩:=PySem.W.any_some hh;have hx:s.heap.get? x=some {.ref C,some dx,.plain,#[]}:=I.obj;refine zb<|zw<|zb<|zb<|wpAny_loadPart hx<|zb<|PySem.W.Looks.here (s:={s with toks:=s.toks+1}) (PySem.W.looks_clsIn X hc) ?_;rw[AH];refine zw (a:=some dx)<|zb<|zw<|zb ?_;refine wpAny_nsSet1 (s:={s with toks:=s.toks+1}) I.ns λh' MI uQ=>?_;obtain⟨oD,esD,epD,hoD,hdD,hcD⟩:=MI.count<|PySem.Within.cons name v hw;refine zb<|wpAny_lookBehind hoD (by rw[hdD];exact pastItsLine_dict<|zL hcD<|by rw[zG];lia) ?_;exact zw<|h _ {(uQ.2 _<|Ne.symm I.ne).trans I.obj,MI,I.ne} uQ
theorem Gr(X:K.In s.heap)(hm:makesIn K C=true) (hi:findIn K (.ref C) "__init__"= some (some<|.ref f)) (hf:PySem.W.typeIn K (.ref f)=some (.type "function")) (h:codeAny (model prog w) (A.under<|.builtin "type.__call__" {.ref C::vs,kw}) (.call (.ref f) {.ref (s.heap.objs.size+1)::vs,kw}) (PySem.W.InitBack (s.heap.objs.size+1) R) {s with heap:=(s.heap.push emptyDict).push<|instObj C s.heap.objs.size}): codeAny (model prog w) A (.call (.ref C) ⟨vs,kw⟩) R s:=by obtain⟨hh,g,d,t,os⟩:=s;exact PySem.W.make_core (PySem.W.makes_of X hm) (looks_findIn X hi) (λself=>PySem.W.bind_fn X self hf) (.inl rfl) h
end
noncomputable def putF(f:Str)(v:V):List (Str×V)->List (Str×V)|[]=>[(f,v)]| (g,x)::r=>if g=f then (g,v)::r else (g,x)::putF f v r
theorem oo(f g:Str)(v:V):∀fs:List (Str×V),(putF f v fs).lookup g=if g=f then some v else fs.lookup g|[]=>by show List.lookup g [(f,v)]=_;by_cases h:g=f;have hb:(g==f)=true:=beq_iff_eq.mpr h;simp only[List.lookup,hb,if_pos h];have hb:(g==f)=false:=beq_eq_false_iff_ne.mpr h;simp only[List.lookup,hb,if_neg h]| (k,x)::r=>by have ih:=oo f g v r;rw[show putF f v ((k,x)::r)=(if k=f then (k,v)::r else (k,x)::putF f v r) from rfl];by_cases hk:k=f;rw[if_pos hk];by_cases h:g=k;have hb:(g==k)=true:=beq_iff_eq.mpr h;simp only[List.lookup,hb,if_pos<|h.trans hk];have hb:(g==k)=false:=beq_eq_false_iff_ne.mpr h;simp only[List.lookup,hb,if_neg (λe:g=f=>h<|e.trans hk.symm)];rw[if_neg hk];by_cases h:g=k;have hb:(g==k)=true:=beq_iff_eq.mpr h;simp only[List.lookup,hb,if_neg (λe:g=f=>hk<|h.symm.trans e)];have hb:(g==k)=false:=beq_eq_false_iff_ne.mpr h;simp only[List.lookup,hb];exact ih
theorem m7(f:Str)(v:V):∀fs:List (Str×V),f∈(putF f v fs).map (·.1)/\∀g,g∈fs.map (·.1)->g∈(putF f v fs).map (·.1)|[]=>{by simp[putF],λg h=>by simp at h}| (k,x)::r=>by obtain⟨i1,i2⟩:=m7 f v r;rw[show putF f v ((k,x)::r)=(if k=f then (k,v)::r else (k,x)::putF f v r) from rfl];by_cases hk:k=f;rw[if_pos hk];subst hk;exact{by simp,λg h=>by simpa using h};rw[if_neg hk];refine{?_,λg h=>?_};rw[zJ];exact zh _ i1;rw[zJ]at h⊢;rcases zf.mp h with e|e;exact zf.mpr<|.inl e;exact zh _<|i2 g e
theorem oq(f:Str)(v:V):∀fs:List (Str×V),(putF f v fs).length<=fs.length+1|[]=>by simp[putF]| (k,x)::r=>by have ih:=oq f v r;rw[show putF f v ((k,x)::r)=(if k=f then (k,v)::r else (k,x)::putF f v r) from rfl];by_cases hk:k=f;rw[if_pos hk,zG,zG];lia;rw[if_neg hk,zG,zG];lia
theorem fY.some_of(r:fY (some v) o):∃u,o=some u/\RelV v u:=by cases o with|none=>exact(show False from r).elim|some u=>exact⟨u,rfl,r⟩
theorem fY.none_of(r:fY none o):o=none:=by cases o with|none=>rfl|some u=>exact(show False from r).elim
theorem Ef(r:RelV v u):handedIn u=true:=by cases v with|ao=>(cases (show u=Value.none from r);rfl)|bl b=>(cases (show u=Value.bool b from r);rfl)|int i=>(obtain⟨t,e⟩:=(show ∃t,u=Value.int i t from r);cases e;rfl)|str x=>(obtain⟨t,e⟩:=(show ∃t,u=Value.str x t from r);cases e;rfl)|Cv b=>(obtain⟨t,e⟩:=(show ∃t,u=Value.bytes b t from r);cases e;rfl)|NW b=>(obtain⟨t,e⟩:=(show ∃t,u=Value.float b t from r);cases e;rfl)|ref a=>(cases (show u=Value.ref a from r);rfl)|ty n=>cases (show u=Value.type n from r);rfl
section
variable{P:Program}{w:World}{H:Hp}{h:Heap}{a C dx:Addr}{fs:List (Str×V)}
theorem pV(aG:kr P w H h)(e:H a=some (.ins C dx fs)):∃mA,AO h a dx C mA/\(∀f,fY (fs.lookup f)<|mA f)/\PySem.Within mA (fs.map (·.1))/\fs.length<=1000/\H dx=some (.own a):=by obtain⟨d,z,ne,ob,mA,n,r,q⟩:=(show aV P w H h a (.ins C dx fs) from aG a _ e);exact{mA,⟨ob,n,ne⟩,r,q,z,d}
end
structure pW(K:Frag)(C:Addr):Prop where
 pg:plainGet K C Str.empty=true
 hd:hasDictIn K C=true
 po:plainOver K C=true
 sa:findIn K (.ref C) "__setattr__"= some (some<|.builtin "object.__setattr__")
theorem pW.get{K:Frag}{C:Addr}(c:pW K C)(f:Str):plainGet K C f=true:=c.pg
def jf(K:Frag)(C:Addr)(f:Str):Prop:=findIn K (.ref C) f=some none
theorem jf.S_{K:Frag}{C:Addr}{f:Str}(n:jf K C f):takerIn K C f=some none:=by unfold takerIn;rw[show findIn K (.ref C) f=some none from n];rfl
structure Con(K:Frag)(C:Addr)(f:Str)(v:V)(u:Value):Prop where
 at_:findIn K (.ref C) f=some (some u)
 rel:RelV v u
 get:specialIn K u "__get__"= some none
 cp:PySem.W.copiedNames.contains f=false
structure Meth(K:Frag)(C:Addr)(m:Str)(f:Addr):Prop where
 at_:findIn K (.ref C) m=some (some<|.ref f)
 fn:isFn K (.ref f)=true
 kp:keepIn K (.ref f)=true
section
variable{X:Cx}{pins:List (Addr×Obj)}{σ:St}{H:Hp}{s:Shared}{a C dx:Addr}{fs:List (Str×V)}{f:Str}{v:V}{A:Around}{E:Value->Shared->Prop}
theorem AQ(I:Inv X pins σ H s)(e:H a=some (.ins C dx fs))(c:pW X.K C)(n:jf X.K C f)(l:fs.lookup f=some v) (h:∀u s',Inv X pins σ H s'->RelV v u->Q u s'):wpAny (model X.prog X.w) A (getAttr (.ref a) f b) Q E s:=by obtain⟨mA,O,r,_,_,_⟩:=pV I.aG e;obtain⟨u,hu,ru⟩:=fY.some_of (v:=v) (o:=mA f) (by rw[<-l];exact r f);exact get_map I.ku O (c.get f) c.hd n hu (Ef ru)<|h u _ (I.tok _) ru
theorem qr(I:Inv X pins σ H s)(e:H a=some (.ins C dx fs))(c:pW X.K C)(k:Meth X.K C m g)(l:fs.lookup m=none) (h:Q (.ref g,[.ref a]) s):wpAny (model X.prog X.w) A (getMethod (.ref a) m pl) Q E s:=by obtain⟨mA,O,r,_,_,_⟩:=pV I.aG e;have hn:mA m=none:=fY.none_of (by rw[<-l];exact r m);exact Gq I.ku O (c.get m) k.at_ k.fn hn h
theorem AR(I:Inv X pins σ H s)(e:H a=some (.ins C dx fs))(c:pW X.K C)(n:jf X.K C f)(hl:fs.length<1000)(ry:RelV y u) (h:∀s',Inv X pins σ (upd H a<|.ins C dx<|putF f y fs) s'->Q () s'):wpAny (model X.prog X.w) A (setAttr (.ref a) f u) Q E s:=by
 obtain⟨mA,O,r,wi,_,ho⟩:=pV I.aG e;have hz:(fs.map (·.1)).length<=sizeLine:=by rw[zc,zY];lia
 refine J_ I.ku O c.sa c.po n.S_ c.hd wi hz λh' O' sb=>h _ ?_;have hd:∃o,h'.get? dx=some o:=by obtain⟨o,_,_,e',_⟩:=O'.ns;exact⟨o,e'⟩
 refine I.write (x:=a) (e:=dx) (by rw[e];exact True.intro) (.inr ho) (λb q hb z=>(sb.2 b hb).trans z) hd ?_;refine{by rw[ar O.ne];exact ho,?_,O.ne,O'.obj,_,O'.ns,λg=>?_,λg hg=>?_};have:=oq f y fs;lia;show fY ((putF f y fs).lookup g) (if g=f then some u else mA g);rw[oo];by_cases q:g=f;rw[if_pos q,if_pos q];exact ry;rw[if_neg q,if_neg q];exact r g;by_cases q:g=f;rw[q];exact(m7 f y fs).1;refine(m7 f y fs).2 g<|wi g λz=>hg ?_;show(if g=f then some u else mA g)=none;rw[if_neg q];exact z
theorem Inv.made(I:Inv X pins σ H s):Inv X pins σ (upd (upd H s.heap.objs.size<|.own<|s.heap.objs.size+1) (s.heap.objs.size+1)<|.ins C s.heap.objs.size []) {s with heap:=(s.heap.push emptyDict).push<|instObj C s.heap.objs.size}:=by
 have e1:(s.heap.push emptyDict).get? s.heap.objs.size=some emptyDict:=zk s.heap rfl;have e2:((s.heap.push emptyDict).push<|instObj C s.heap.objs.size).get? (s.heap.objs.size+1)=some (instObj C s.heap.objs.size):=by have:=zk (s.heap.push emptyDict) (o:=instObj C s.heap.objs.size) rfl;rwa [ya]at this
 have e3:(s.heap.push emptyDict).Ns s.heap.objs.size (λ_=>none):={emptyDict,#[],_,e1,rfl,(λe he=>absurd he<|by simp),λ_=>rfl};have I1:=I.laid (a:=s.heap.objs.size) (o:=.own<|s.heap.objs.size+1) (h':=s.heap.push emptyDict) (t':=s.toks) (λb u q=>za _ q) (zo _) {_,e1};refine I1.laid (a:=s.heap.objs.size+1) (o:=.ins C s.heap.objs.size []) (t':=s.toks) (λb u q=>za _ q) (Nat.le_of_eq<|ya _ _) ?_;have ne:s.heap.objs.size≠s.heap.objs.size+1:=zy<|Nat.lt_succ_self _;refine{by rw[ar ne,aC],zZ _,ne,e2,λ_=>none,(Heap.Ns1.of_empty e3).at λo q=>za _ q,λ_=>True.intro,λy hy=>absurd rfl hy}
theorem Ka(hb:attributeBase e f env (eval e env)=eval e env) (h:wpAny (model prog w) A (eval e env) (λo aU=>wpAny (model prog w) A (getAttr o f true) Q E aU) E s):wpAny (model prog w) A (eval (.Attribute e f pos) env) Q E s:=Attribute_any_ h<|by rw[arm_eval_Attribute,hb]
end
def XT(K:Frag)(ta:TE)(f:Str):TE:=λσ H Q=>ta σ H λx H1=>∃a C dx fs v,x=.ref a/\H1 a=some (.ins C dx fs)/\pW K C/\jf K C f/\fs.lookup f=some v/\Q v H1
def XU(K:Frag)(ta tv:TE)(f:Str):TS:=λD σ H=>tv σ H λy H1=>ta σ H1 λx H2=>∃a C dx fs,x=.ref a/\H2 a=some (.ins C dx fs)/\pW K C/\jf K C f/\fs.length<1000/\D.nx σ (upd H2 a<|.ins C dx<|putF f y fs)
section
variable{X:Cx}{o e value:Expr}{f:Str}{pos pos':Pos}{ta tv:TE}
theorem OA(he:PE X e ta)(hb:attributeBase e f X.env (eval e X.env)=eval e X.env):PE X (.Attribute e f pos) (XT X.K ta f):=by intro pins s σ H Q I h;refine Ka hb<|aX (he pins s σ H _ I h) λu s1 ⟨x,H1,I1,rx,a,C,dx,fs,v,ex,ea,c,n,l,q⟩=>?_;subst ex;obtain rfl:u=Value.ref a:=rx;exact AQ I1 ea c n l λu' s2 I2 ru=>⟨v,H1,I2,ru,q⟩
theorem OB(ha:PE X o ta)(hv:PE X value tv)(hs:swapsWith value (some<|.Attribute o f pos') pos.line X.env=pure false):PS X (.Assign [.Attribute o f pos'] value pos) (XU X.K ta tv f):=by intro pins s σ H D I h;refine plainObj_wpAny_Assign_Attribute (aX (hv pins s σ H _ I h) λu s1 ⟨y,H1,I1,ry,q⟩=>aX (ha pins s1 σ H1 _ I1 q) λov s2 ⟨x,H2,I2,rx,a,C,dx,fs,ex,ea,c,n,l,q2⟩=>?_) hs;subst ex;obtain rfl:ov=Value.ref a:=rx;exact AR I2 ea c n l ry λs3 I3=>{σ,_,I3,q2}
end
section
variable{X:Cx}{pins:List (Addr×Obj)}{σ:St}{H:Hp}{s:Shared}{A:Around}{E Q:Value->Shared->Prop}{c:Value}{b:Bool}
inductive m8 (K:Frag) (H:Hp):V->Value->Prop where
 |ao:m8 K H .ao (.type "NoneType")
 |bl (x:Bool):m8 K H (.bl x) (.type "bool")
 |int (i:Int):m8 K H (.int i) (.type "int")
 |str (x:Str):m8 K H (.str x) (.type "str")
 |NW (x:UInt64):m8 K H (.NW x) (.type "float")
 |lst {a:Addr}{xs:List V} (e:H a=some (.lst xs)):m8 K H (.ref a) (.type "list")
 |k7 {a:Addr}{o:Obj}{xs:List V} (e:H a=some (.k7 o<|.lst xs)):m8 K H (.ref a) (.type "list")
 |tup {a:Addr}{xs:List V} (e:H a=some (.tup xs)):m8 K H (.ref a) (.type "tuple")
 |dK {a:Addr}{kvs:List<|Key×V} (e:H a=some (.dK kvs)):m8 K H (.ref a) (.type "dict")
 |dT {a:Addr}{kvs:List<|List Key×V} (e:H a=some (.dT kvs)):m8 K H (.ref a) (.type "dict")
 |ins {a C dx:Addr}{fs:List<|Str×V} (e:H a=some (.ins C dx fs)) (cl:pW K C) (ha:findIn K (.ref C) "__class__"= some (some<|.builtin "object.__class__"))
   (hn:specialIn K (.builtin "object.__class__") "__get__"= some (some<|.builtin "getset_descriptor.__get__")) (htk:PySem.W.takesIn K (.builtin "object.__class__")=some true)
   (hm:mroIn K C (.type "object")=some true):m8 K H (.ref a) (.ref C)
theorem Eg{u t:Value}(I:Inv X pins σ H s)(rx:RelV x u)(ty:m8 X.K H x t)(e:kitOne X.K t c=some b)(h:∀tk,Q (.bool b) {s with toks:=tk}): wpAny (model X.prog X.w) A (call (.builtin "isinstance") [u,c]) Q E s:=by cases ty with|ao=>(cases (show u=Value.none from rx);exact kia_one PySem.W.kitx_none I.ku True.intro e (λz=>nomatch z) h)|bl y=>(cases (show u=Value.bool y from rx);exact kia_one PySem.W.kitx_bool I.ku True.intro e (λz=>nomatch z) h)|int i=>(obtain⟨t,q⟩:=(show ∃t,u=Value.int i t from rx);cases q;exact kia_one PySem.W.kitx_int I.ku True.intro e (λz=>nomatch z) h)|str y=>(obtain⟨t,q⟩:=(show ∃t,u=Value.str y t from rx);cases q;exact kia_one PySem.W.kitx_str I.ku True.intro e (λz=>nomatch z) h)|NW y=>(obtain⟨t,q⟩:=(show ∃t,u=Value.float y t from rx);cases q;exact kia_one PySem.W.kitx_float I.ku True.intro e (λz=>nomatch z) h)|@lst a xs ea=>(cases (show u=Value.ref a from rx);obtain⟨_,_,n,_,h1⟩:=(show aV X.prog X.w H s.heap a (.lst xs) from I.aG a _ ea);exact kia_one kitx_list I.ku {_,h1,rfl} e (λz=>nomatch z) h)|@k7 a ob xs ea=>(cases (show u=Value.ref a from rx);obtain⟨_,_,_,n,_,h1⟩:=(show aV X.prog X.w H s.heap a (.k7 ob<|.lst xs) from I.aG a _ ea);exact kia_one kitx_list I.ku {_,h1,rfl} e (λz=>nomatch z) h)|@tup a xs ea=>(cases (show u=Value.ref a from rx);obtain⟨_,_,_,p⟩:=(show aV X.prog X.w H s.heap a (.tup xs) from I.aG a _ ea);obtain⟨o,h1,h2,_⟩:=p;exact kia_one PySem.W.kitx_tuple I.ku ⟨o,h1,h2⟩ e (λz=>nomatch z) h)|@dK a kvs ea=>(cases (show u=Value.ref a from rx);obtain⟨_,_,vs,_,p⟩:=(show aV X.prog X.w H s.heap a (.dK kvs) from I.aG a _ ea);obtain⟨o,es,ep,h1,h2,_⟩:=p;exact kia_one PySem.W.kitx_dict I.ku ⟨o,h1,h2.1⟩ e (λz=>nomatch z) h)|@dT a kvs ea=>exact False.elim (show aV X.prog X.w H s.heap a (.dT kvs) from I.aG a _ ea)|@ins a C dx fs ea cl ha hn htk hm=>cases (show u=Value.ref a from rx);obtain⟨mA,O,_⟩:=pV I.aG ea;obtain⟨od,J,_⟩:=O.look;exact kia_one (PySem.W.kitx_own (cl.get _) cl.hd ha hn htk hm) I.ku J e (λz=>nomatch z) h
end
structure bf(k:Nat)(A:Around):Prop where
 hd:A.handled=none
 dp:A.depth+3*k+5<recursionLimit
 un:A.units+16*k+200<cLine
theorem bf.mono(r:bf k A)(h:j<=k):bf j A:={r.hd,by have:=r.dp;lia,by have:=r.un;lia}
theorem bf.deeper(r:bf (k+1) A)(env:Env):bf k (A.deeper env):={r.hd,by have:=r.dp;show A.depth+1+3*k+5<_;lia,by have:=r.un;show A.units+3+16*k+200<_;lia}
theorem bf.in1(r:bf (k+1) A):bf k A.in1:={r.hd,by have:=r.dp;show A.depth+3*k+5<_;lia,by have:=r.un;show A.units+1+16*k+200<_;lia}
theorem AS{A:Around}{C:Addr}{us:List Value}{kw:List<|Str×Value} : (A.under<|.builtin "type.__call__" {.ref C::us,kw}).depth=A.depth+1:=by first|rfl|simp[Around.under,Code.weight,Code.isCreation,Code.isGuard,Code.isCaller,Code.frames,Code.isFrame,guardIds]
theorem AU{A:Around}{C:Addr}{us:List Value}{kw:List<|Str×Value} : (A.under<|.builtin "type.__call__" {.ref C::us,kw}).units=A.units+1:=by first|rfl|simp[Around.under,Code.cUnits,Code.frames,Code.isFrame]
theorem bf.make(r:bf (k+1) A)(C:Addr)(us:List Value)(kw:List<|Str×Value):bf k (A.under<|.builtin "type.__call__" {.ref C::us,kw}):={r.hd,by have:=r.dp;rw[AS];lia,by have:=r.un;rw[AU];lia}
theorem bf.depth(r:bf k A):A.depth<recursionLimit:=by have:=r.dp;lia
theorem bf.units(r:bf k A):A.units+64<cLine:=by have:=r.un;lia
def XX:TA:=λ_ H Q=>Q [] H
def MJ(ta:TE)(tr:TA):TA:=λσ H Q=>ta σ H λx H1=>tr σ H1 λxs H2=>Q (x::xs) H2
section
variable{X:Cx}{e:Expr}{es:List Expr}{te:TE}{t:TA}{pos:Pos}
theorem AV:PA X [] XX:=λ_ _ _ _ H Q I h=>Calls.spliced_nil {[],H,I,.nil,h}
theorem Kb(ha:PE X e te)(hr:PA X es t)(hs:autoParam (starEach (e::es) X.env=(false,eval e X.env)::starEach es X.env) qQJ):PA X (e::es) (MJ te t):=by intro pos pins s σ H Q I h;rw[hs];show wpAny _ _ (spliced<|(false,eval e X.env)::backTo pos (starEach es X.env)) _ _ s;refine yC<|aX (ha pins s σ H _ I h) λu s1 ⟨x,H1,I1,r1,q1⟩=>?_;exact aX (hr pos pins s1 σ H1 _ I1 q1) <| by rintro us s2 ⟨xs,H2,I2,r2,q2⟩;exact{x::xs,H2,I2,.cons r1 r2,q2}
def XY(t:TA):TE:=λσ H Q=>t σ H λxs H1=>xs.length<=sizeLine/\∀p,H1 p=none->Q (.ref p) (upd H1 p<|.tup xs)
def XZ(t:TA):TE:=λσ H Q=>t σ H λxs H1=>xs.length<=sizeLine/\∀p,H1 p=none->Q (.ref p) (upd H1 p<|.lst xs)
theorem OC{x1}(h:PA X es t):PE X (.Tuple es x1 pos) (XY t):=by intro pins s σ H Q I hq;refine wpAny_Tuple_spliced<|aX (h pos pins s σ H _ I hq) λus s1 ⟨xs,H1,I1,r,z,q⟩=>{by rw[<-r.length];exact z,?_};have hf:H1 s1.heap.objs.size=none:=I1.aG.fresh<|zo _;refine{.ref s1.heap.objs.size,upd H1 s1.heap.objs.size<|.tup xs,I1.laid (t':=s1.toks) (λb u e=>za _ e) (zo _) ?_,rfl,q _ hf};exact{z,us,r,{_,zk _ rfl,rfl,rfl,_,rfl}}
theorem OD(h:PA X es t):PE X (.List es pos) (XZ t):=by intro pins s σ H Q I hq;refine wpAny_List_spliced<|aX (h pos pins s σ H _ I hq) λus s1 ⟨xs,H1,I1,r,z,q⟩=>{by rw[<-r.length];exact z,?_};have hf:H1 s1.heap.objs.size=none:=I1.aG.fresh<|zo _;refine{.ref s1.heap.objs.size,upd H1 s1.heap.objs.size<|.lst xs,I1.laid (t':=s1.toks) (λb u e=>za _ e) (zo _) ?_,rfl,q _ hf};exact{z,us,0,r,zk _ rfl}
end
abbrev Sp:=List V->Hp->VK->XK->Prop
abbrev AW:=List Env->Hp->Shared->XK->Value->Shared->Prop
structure uR(P:Program)(w:World)(K:Frag)(mg:Str->Option Value)(base:Heap)(A:Around)(outer:List Env)(s:Shared)(H:Hp):Prop where
 frames:A.frames=some outer
 mod:Mod K mg base
 bs:∀b o,base.get? b=some o->s.heap.get? b=some o/\H b=none
 AE:base.objs.size<=s.heap.objs.size
 i6:s.heap.FunFrames base outer
 D5:∀b∈k9 outer,H b=none
 aG:kr P w H s.heap
 bare:AllBare s.gens
def CE(outer:List Env)(P:Program)(w:World)(H:Hp)(s:Shared)(Q:VK)(u:Value)(s':Shared):Prop:=∃v H',s'.os=s.os/\AllBare s'.gens/\Un (k9 outer) [] H H' s.heap s'.heap/\kr P w H' s'.heap/\RelV v u/\Q v H'
def CR(CX:AW)(outer:List Env)(P:Program)(w:World)(H:Hp)(s:Shared)(Q:VK)(E:XK)(r:Result)(s':Shared):Prop:=match r with|.ok (.ret u)=>CE outer P w H s Q u s'|.ok _=>False|.error e=>CX outer H s E e s'
structure bD(P:Program)(w:World)(K:Frag)(mg:Str->Option Value)(base:Heap)(CX:AW)(k:Nat)(f:Addr)(fd:FuncData)(ps:List Str)(sp:Sp):Prop where
 len:∀vs H Q E,sp vs H Q E->vs.length=ps.length
 run:∀(A:Around)(outer:List Env)(s:Shared)(H:Hp)(args:Args)(us:List Value)(vs:List V)(Q:VK)(E:XK),bf k A->uR P w K mg base A outer s H->BindsTo s fd args (ps.zip us)->Vals vs us->sp vs H Q E ->
  codeAny (model P w) A (.call (.ref f) args) (CR CX outer P w H s Q E) s
theorem bD.mono{P:Program}{w:World}{K:Frag}{mg:Str->Option Value}{base:Heap}{CX:AW}{j k:Nat}{f:Addr}{fd:FuncData}{ps:List Str}{sp:Sp}(F:bD P w K mg base CX j f fd ps sp)(h:j<=k): bD P w K mg base CX k f fd ps sp:={F.len,λA outer s H args us vs Q E hr=>F.run A outer s H args us vs Q E<|hr.mono h}
theorem bD.imp{P:Program}{w:World}{K:Frag}{mg:Str->Option Value}{base:Heap}{CX:AW}{k:Nat}{f:Addr}{fd:FuncData}{ps:List Str}{sp Wv:Sp}(F:bD P w K mg base CX k f fd ps sp) (h:∀vs H Q E,Wv vs H Q E->sp vs H Q E):bD P w K mg base CX k f fd ps Wv:={λvs H Q E q=>F.len vs H Q E<|h _ _ _ _ q,λA outer s H args us vs Q E hr he hb hv hs=>F.run A outer s H args us vs Q E hr he hb hv<|h _ _ _ _ hs}
theorem uR.make{P:Program}{w:World}{K:Frag}{mg:Str->Option Value}{base:Heap}{A:Around}{outer:List Env}{s:Shared}{H:Hp}(e:uR P w K mg base A outer s H)(C:Addr)(us:List Value)(kw:List<|Str×Value): uR P w K mg base (A.under<|.builtin "type.__call__" {.ref C::us,kw}) outer s H:={by first|exact e.frames|(simpa [Around.under,Code.envs,Code.isFrame,pushEnvs]using e.frames),e.mod,e.bs,e.AE,e.i6,e.D5,e.aG,e.bare}
section
variable{X:Cx}{pins:List (Addr×Obj)}{σ:St}{H:Hp}{s s':Shared}
theorem Inv.OE(I:Inv X pins σ H s):uR X.prog X.w X.K X.mg X.base X.A X.stack s H:={I.ok.frames,I.ok.mod,I.bs,zL I.ok.AE I.sz,I.stack,I.pR,I.aG,I.bare}
theorem Inv.after(I:Inv X pins σ H s)(h:CE X.stack X.prog X.w H s Q u s'):EP X pins σ Q u s':=by obtain⟨v,H',os,bare,un,aG,r,q⟩:=h;obtain⟨hh,g,d,t,Tc⟩:=s';obtain rfl:Tc=s.os:=os;exact{v,H',I.call (h':=hh) (g':=g) (d':=d) (t':=t) (ch:=[]) un aG bare λb z=>absurd z<|by simp,r,q}
end
def Binds(K:Frag)(fd:FuncData)(ps:List Str)(ds:List Value):Prop:=∀(s:Shared)(us:List Value),K.In s.heap->(us++ds).length=ps.length->BindsTo s fd {us,[]} (ps.zip<|us++ds)
theorem Binds.all{K:Frag}{fd:FuncData}{ps:List Str}(h:∀us:List Value,us.length=ps.length->bindArgs fd {us,[]}=pure (ps.zip us)):Binds K fd ps []:=λs us _ hl=>by rw[ym]at hl⊢;exact .of_eq<|h us hl
def Passes(CX:AW)(X:Cx)(E:XK):Prop:=∀(pins:List (Addr×Obj))(σ:St)(H:Hp)(s:Shared)(e:Value)(s':Shared),Inv X pins σ H s->CX X.stack H s E e s'->X.xe e s'
section
variable{f C:Addr}
structure Mk(K:Frag)(C f:Addr):Prop where
 makes:makesIn K C=true
 init:findIn K (.ref C) "__init__"= some (some<|.ref f)
 fn:isFn K (.ref f)=true
 kp:keepIn K (.ref C)=true
end
section
variable{fd:FuncData}{ps ks:List Str}
structure X0(K:Frag)(fd:FuncData)(ps ks:List Str)(g:List Value->List Value->List Value)(gV:List V->List V->List V):Prop where
 to:∀(s:Shared)(us ws:List Value),K.In s.heap->(g us ws).length=ps.length->BindsTo s fd {us,ks.zip ws} (ps.zip<|g us ws)
 rel:∀{vs:List V}{us:List Value}{zs:List V}{ws:List Value},Vals vs us->Vals zs ws->Vals (gV vs zs) (g us ws)
variable{g:List Value->List Value->List Value}{gV:List V->List V->List V}
end
structure eK(N P:List Str)(sc:Scope):Prop where
 kind:sc.kind=.function
 co:sc.isCoroutine=false
 gen:sc.isGenerator=false
 nd:N.Nodup
 pre:N.take P.length=P
 par:∀x∈P,sc.names.lookup x=some .local\/sc.names.lookup x=some .cell
 OF:∀y∈sc.names,y.2≠.free
theorem tT{kindOf:Str->Option NameKind}{x:Str} : ∀{binds:List (Str×Value)}{m:Str->Option Value},(∀v,(x,v)∉binds)->bindL kindOf binds m x=m x
 |[],_,_=>rfl
 | (n,v)::r,m,h=>by
  unfold bindL;rw[tT λw hw=>h w<|zh _ hw];split;have:x≠n:=by rintro rfl;exact h v zp
  simp[this];rfl
theorem tU{kindOf:Str->Option NameKind}{x:Str} : ∀{binds:List (Str×Value)}{m:Str->Option Value},(∀v,(x,v)∉binds)->bindC kindOf binds m x=m x
 |[],_,_=>rfl
 | (n,v)::r,m,h=>by
  unfold bindC;rw[tU λw hw=>h w<|zh _ hw];split;rfl;have:x≠n:=by rintro rfl;exact h v zp
  simp[this]
theorem tV{kindOf:Str->Option NameKind}{x:Str}{v:Value} : ∀{P:List Str}{vs:List Value}{i:Nat}{m:Str->Option Value},P.Nodup->P[i]?=some x->vs[i]?=some v->kindOf x=some .local->bindL kindOf (P.zip vs) m x=some v|[],_,_,_,_,h,_,_=>by simp at h|_::_,[],_,_,_,_,h,_=>by simp at h|p::P,w::vs,0,m,nd,h1,h2,hk=>by simp at h1 h2;subst h1;subst h2;show bindL kindOf ((p,w)::P.zip vs) m p=_;unfold bindL;rw[tT λv hv=>(yn.mp nd).1 (List.of_mem_zip hv).1,if_pos hk];simp|p::P,w::vs,i+1,m,nd,h1,h2,hk=>by show bindL kindOf ((p,w)::P.zip vs) m x=_;unfold bindL;exact tV (i:=i) (yn.mp nd).2 (by simpa using h1) (by simpa using h2) hk
theorem tW{kindOf:Str->Option NameKind}{x:Str}{v:Value} : ∀{P:List Str}{vs:List Value}{i:Nat}{m:Str->Option Value},P.Nodup->P[i]?=some x->vs[i]?=some v->kindOf x≠some .local->bindC kindOf (P.zip vs) m x=some v|[],_,_,_,_,h,_,_=>by simp at h|_::_,[],_,_,_,_,h,_=>by simp at h|p::P,w::vs,0,m,nd,h1,h2,hk=>by simp at h1 h2;subst h1;subst h2;show bindC kindOf ((p,w)::P.zip vs) m p=_;unfold bindC;rw[tU λv hv=>(yn.mp nd).1 (List.of_mem_zip hv).1,if_neg hk];simp|p::P,w::vs,i+1,m,nd,h1,h2,hk=>by show bindC kindOf ((p,w)::P.zip vs) m x=_;unfold bindC;exact tW (i:=i) (yn.mp nd).2 (by simpa using h1) (by simpa using h2) hk
def start(N:List Str)(vs:List V):St:=vs.map some++List.replicate (N.length-vs.length) none
def ig(CX:AW)(P:Program)(w:World)(K:Frag)(mg:Str->Option Value)(base:Heap)(N:List Str)(qual:Str)(scope:Scope)(f:Addr)(cd:Value)(A:Around)(outer:List Env)(s:Shared)(H:Hp)(E:XK):Cx where
 prog:=P
 w:=w
 K:=K
 mg:=mg
 base:=base
 A:=A.deeper<|envOfC qual scope s.heap.objs.size f cd
 N:=N
 cZ:=s
 uO:=H
 env:=envOfC qual scope s.heap.objs.size f cd
 outer:=outer
 stack:=envOfC qual scope s.heap.objs.size f cd::outer
 ex:=[]
 calm:=true
 fn:=λ_=>true
 pn:=[]
 xe:=λe s'=>wpAny (model P w) (A.deeper<|envOfC qual scope s.heap.objs.size f cd) (leaving (envOfC qual scope s.heap.objs.size f cd) e) (λ_ AX=>CX outer H s E e AX) (λe' AX=>CX outer H s E e' AX) s'
theorem wR{sc:Scope}{n:Nat}{x:Str}(h:sc.names.lookup x=some .cell):∃c,(cellsFrom n sc.names []).lookup x=some c:=by have q:=cellsFrom_some sc.names n []<|.inl h;exact Option.isSome_iff_exists.mp q
theorem tX{CX:AW}{P:Program}{w:World}{K:Frag}{mg:Str->Option Value}{base:Heap}{N ps:List Str}{qual:Str}{scope:Scope}{f:Addr}{cd:Value}{A:Around}{outer:List Env}{s s1:Shared}{H:Hp}{E:XK}{us:List Value}{vs:List V} (S:eK N ps scope) (hd:A.handled=none) (e0:uR P w K mg base A outer s H) (hl:vs.length=ps.length) (r:Vals vs us) (x:InCallC s s.heap.objs.size (bindL (envOfC qual scope s.heap.objs.size f cd).kindOf (ps.zip us) λ_=>none) (cellsFrom (s.heap.objs.size+1) scope.names []) (bindC (envOfC qual scope s.heap.objs.size f cd).kindOf (ps.zip us) λ_=>none) s1): Inv (ig CX P w K mg base N qual scope f cd A outer s H E) [] (start N vs) H s1:=by
 have eX:ps.length<=N.length:=by have:=congrArg List.length S.pre;rw[yh]at this;lia
 obtain⟨h1,tk,rfl,hk⟩:=x.done;have Kc:∀b:Addr,b∉(ig CX P w K mg base N qual scope f cd A outer s H E).ex:=λb z=>absurd (show b∈([]:List Addr) from z) (by simp);refine{{e0.mod,S.kind,rfl,rfl,zo _,λy z c h1 h2=>?_,λy hy=>?_,λy c _ h=>?_,λ_=>hd,Around.frames_deeper e0.frames,.inr ⟨rfl,rfl⟩,λb z=>absurd z<|Kc b,e0.bs,e0.AE,λb _ _=>Kc b,λb z=>absurd z<|Kc b,e0.i6,e0.D5},rfl,e0.bare,Un.kept hk,{_,x.toInCall.ns,λi y v h1 h2 h3=>?_},λy c h=>{_,x.cell y c h},e0.aG.fresh<|zo _,λy c h=>?_,λp hp=>absurd (show p∈([]:List (Addr×Obj)) from hp)<|by simp,e0.aG.kept hk,?_};exact name_of_addr x.apart (yg h1)<|yg h2;have hy:scope.names.lookup y=some .cell\/scope.names.lookup y=some .free:=hy;rcases hy with hy|hy;exact wR hy;exact absurd rfl<|S.OF _<|yg hy;exact yM<|x.above y c<|yg h;have hi:i<vs.length:=by unfold start at h2;by_cases hi:i<vs.length;exact hi;rw[List.getElem?_append_right<|by simpa using hi]at h2;rw[List.getElem?_replicate]at h2;split at h2<;>cases h2
 have ha:vs[i]?=some v:=by unfold start at h2;rw[List.getElem?_append_left<|by simpa using hi,zr]at h2;cases e:vs[i]? with|none=>(rw[e]at h2;cases h2)|some a=>rw[e]at h2;cases h2;rfl
 obtain⟨u,hu,rv⟩:=r.get ha;have hp:ps[i]?=some y:=by rw[<-S.pre,List.getElem?_take_of_lt<|by lia];exact h1
 have ndP:ps.Nodup:=by rw[<-S.pre];exact S.nd.sublist<|List.take_sublist _ _
 refine{u,rv,?_};rcases S.par y (zI hp) with k|k;exact .inl {k,tV ndP hp hu k};obtain⟨c,e⟩:=wR (n:=s.heap.objs.size+1) k;refine .inr {.inl k,c,e,?_};have q:=x.cell y c e;rw[tW ndP hp hu<|by show scope.names.lookup y≠_;rw[k];decide]at q;exact q;exact e0.aG.fresh<|yM<|x.above y c<|yg h;unfold start;show _=N.length;rw[zA,zc,yf];lia
theorem MK{CX:AW}{P:Program}{w:World}{K:Frag}{mg:Str->Option Value}{base:Heap}{k:Nat}{f:Addr}{name qual:Str}{params:Arguments}{body:List Stmt}{scope:Scope}{dV kV doc pm eL ct oc:Value}{an od:Option Addr} {ML:Array<|Option Value}{N ps:List Str}{sp:Sp} (lk:K.lookup f=some {oc,od,.func<|fnOf name qual params body scope dV kV doc pm an eL ct,ML}) (pT:codeIn K eL qual=true) (S:eK N ps scope) (len:∀vs H Q E,sp vs H Q E->vs.length=ps.length) (gO:∀(A:Around)(outer:List Env)(s:Shared)(H:Hp)(vs:List V)(Q:VK)(E:XK),bf k (A.deeper<|envOfC qual scope s.heap.objs.size f eL)->sp vs H Q E->∃t,AI (ig CX P w K mg base N qual scope f eL A outer s H E) body t/\t {nx:=λ_ H'=>Q .ao H',rt:=Q} (start N vs) H): bD P w K mg base CX (k+1) f (fnOf name qual params body scope dV kV doc pm an eL ct) ps sp:=by
 refine{len,λA outer s H args us vs Q E hr e0 hb r MM=>?_};have hl:=len _ _ _ _ MM;have KX:K.In s.heap:=e0.mod.MA.keeps λb o e=>(e0.bs b o e).1;have lim:s.heap.NoLimit:=e0.mod.nolimit.keeps λb o e=>(e0.bs b o e).1;have Gs:∀y∈ps.zip us,scope.names.lookup y.1=some .local\/(scope.names.lookup y.1=some .cell/\((cellsFrom (s.heap.objs.size+1) scope.names []).lookup y.1).isSome=true):=by rintro⟨n,v⟩ hy;rcases S.par n (List.of_mem_zip hy).1 with q|q;exact .inl q;exact .inr {q,cellsFrom_some _ _ _<|.inl q}
 refine codeAny_call_function hr.depth (KX _ _ lk) rfl S.co S.gen rfl (codeRec_of KX pT)<|hb _ _ _ _ ?_;refine wpAny_newFunctionEnv_cells S.kind Gs λenv he s1 x=>?_;subst he;refine{lim.keeps x.toInCall.keep,codeAny_func ?_};obtain⟨t,ht,hq⟩:=gO A outer s H vs Q E (hr.deeper _) MM;have I:Inv (ig CX P w K mg base N qual scope f eL A outer s H E) [] (start N vs) H s1:=tX S hr.hd e0 hl r x;refine yj (ht [] s1 (start N vs) H _ I hq) (λfl s' hs=>?_) λe s' hs=>hs;have fin:∀{av:St}{H':Hp}{v:V}{u:Value},Inv (ig CX P w K mg base N qual scope f eL A outer s H E) [] av H' s'->RelV v u->Q v H'->CE outer P w H s Q u s':=λ{av H' v u} J rv q=>⟨v,H',J.os,J.bare,J.base,J.aG,rv,q⟩;cases fl with|ret u=>(obtain⟨v,av,H',J,rv,q⟩:=hs;exact fin J rv q)|next=>(obtain⟨av,H',J,q⟩:=hs;exact fin (v:=V.ao) (u:=Value.none) J rfl q)|brk=>(obtain⟨_,_,_,q⟩:=hs;exact False.elim q)|cont=>obtain⟨_,_,_,q⟩:=hs;exact False.elim q
section
variable{X:Cx}{x:Str}{p pos:Pos}{e:Expr}{es:List Expr}{t:TA}{id T:String}{r:List V->Hp->VK->Prop}
def X1(r:List V->Hp->VK->Prop)(t:TA):TE:=λσ H Q=>t σ H λvs H1=>r vs H1 Q
theorem qt(hc:dy X (.builtin id) r)(hg:Gl X x)(hm:X.mg x=none)(hv:bootBuiltins x=some (.builtin id))(ha:PA X (e::es) t)(hn:autoParam (x≠"__name__") qQZ)(i8:autoParam ((x==("__debug__": Str))=false) qQZ) (he:autoParam (starEach (e::es) X.env=(false,eval e X.env)::starEach es X.env) qQJ) (eX:autoParam ((backTo pos<|starEach es X.env).any (·.1)=false) qQJ):PE X (.Call (.Name x p) (e::es) [] pos) (X1 r t):=by intro pins s σ H Q I h;refine yD<|gA I hg hm hv ?_ hn i8;exact PyProof.Rows.callWith_builtin1 (aX (ha pos pins s σ H _ I h) <| by rintro us s1 ⟨vs,H1,I1,r1,q1⟩;exact hc pins s1 σ H1 vs us Q I1 r1 q1) he eX
theorem tY(hc:dy X (.type T) r)(hg:Gl X x)(hm:X.mg x=none)(hv:bootBuiltins x=some (.type T))(ha:PA X (e::es) t)(hn:autoParam (x≠"__name__") qQZ)(i8:autoParam ((x==("__debug__": Str))=false) qQZ) (he:autoParam (starEach (e::es) X.env=(false,eval e X.env)::starEach es X.env) qQJ) (eX:autoParam ((backTo pos<|starEach es X.env).any (·.1)=false) qQJ):PE X (.Call (.Name x p) (e::es) [] pos) (X1 r t):=by intro pins s σ H Q I h;refine yD<|gA I hg hm hv ?_ hn i8;exact PyProof.Rows.callWith_type1 (aX (ha pos pins s σ H _ I h) <| by rintro us s1 ⟨vs,H1,I1,r1,q1⟩;exact hc pins s1 σ H1 vs us Q I1 r1 q1) he eX
end
end L2
namespace HT
open PySem PyProof.Rows
section
variable{prog:Program}{w:World}{A:Around}{E:Value->Shared->Prop}{s:Shared}
theorem cat_tup{t b:Addr}(ht:IsTup s.heap t vs.toArray)(hb:IsTup s.heap b ws.toArray)(hv:vs≠[]) (h1:ws=[]->Q (.ref t) s) (h2:ws≠[]->Q (.ref s.heap.objs.size) {s with heap:=s.heap.push {cls:=.type "tuple",data:=.seq (vs++ws).toArray}}) (hsz:vs.length+ws.length<=sizeLine):wpAny (model prog w) A (binaryOp .Add (.ref t)<|.ref b) Q E s:=by
 obtain⟨⟨cls,dd,data,sl⟩,ho,hc,n,hd⟩:=id ht;obtain⟨⟨X2,Ww,data2,wU⟩,OG,Ke,n2,hd2⟩:=id hb;simp only at hc hd Ke hd2;subst hc hd Ke hd2;have e:vs.toArray++ws.toArray=(vs++ws).toArray:=by simp
 by_cases hw:ws=[];exact concat_meets {_,ho,rfl} {_,OG,rfl} noFill_tuple_add seq_tuple_add PySem.F.slot_tuple_add PySem.F.entry_tuple_add (PySem.F.args_tuple_add_2 _ _) (tuple_addW1 t b vs.toArray ws.toArray n n2 dd Ww sl wU (by simpa using hv)<|by simp[hw]) {ho,OG,h1 hw};refine concat_meets {_,ho,rfl} {_,OG,rfl} noFill_tuple_add seq_tuple_add PySem.F.slot_tuple_add PySem.F.entry_tuple_add (PySem.F.args_tuple_add_2 _ _) (tuple_addW2 t b vs.toArray ws.toArray n n2 dd Ww sl wU (by simpa using hv) (by simpa using hw)<|by rw[zm,zm];exact hsz) {ho,OG,?_};rw[e];exact h2 hw
noncomputable def sIx(n d:Nat):Option Int->Nat|none=>d|some v=>if v<0 then (v+(n:Int)).toNat else min v.toNat n
theorem sIx_none(n d:Nat):sIx n d none=d:=rfl
theorem sIx_nat(n d k:Nat):sIx n d (some (k:Int))=min k n:=by show(if (k:Int)<0 then ((k:Int)+(n:Int)).toNat else min (k:Int).toNat n)=min k n;rw[if_neg<|by lia,Int.toNat_natCast]
end
end HT
namespace L2
open PySem PySem.Spec PyProof.Rows
abbrev TO:=St->Hp->(Option Int->Hp->Prop)->Prop
def PO(X:Cx)(e:Option Expr)(t:TO):Prop:=∀(pins:List (Addr×Obj))(s:Shared)(σ:St)(H:Hp)(Q:Option Int->Hp->Prop),Inv X pins σ H s->t σ H Q->wpAny (model X.prog X.w) X.A (evalPart e X.env) (λu s'=>∃o H',Inv X pins σ H' s'/\IsPart u o/\Q o H') X.xe s
def Kf:TO:=λ_ H Q=>Q none H
def Td(t:TE):TO:=λσ H Q=>t σ H λx H1=>∃i,x=.int i/\Q (some i) H1
section
variable{X:Cx}{e:Expr}{te:TE}{lo hi:Option Expr}{tl th:TO}{pos p2:Pos}
theorem Kg:PO X none Kf:=by intro pins s σ H Q I h;rw[evalPart_none];exact zw {none,H,I,.none,h}
theorem Kh(h:PE X e te):PO X (some e) (Td te):=by intro pins s σ H Q I hw;rw[evalPart_some];refine aX (h pins s σ H _ I hw) λu s1 ⟨x,H1,I1,r1,q1⟩=>?_;obtain⟨i,rfl,q⟩:=q1;obtain⟨t,rfl⟩:=r1;exact{some i,H1,I1,.int i t,q}
def X3(X:Cx)(r:V->Option Int->Option Int->Hp->VK->Prop):Prop:=∀(pins:List (Addr×Obj))(s:Shared)(σ:St)(H:Hp)(x:V)(v vl vu:Value)(lo hi:Option Int)(sl:Addr)(Q:VK),Inv X pins σ H s->RelV x v->s.heap.IsSliceOf sl vl vu .none->IsPart vl lo->IsPart vu hi->r x lo hi H Q->∃T id,typeLookup (.type T) "__getitem__"= pure (some<|.builtin id)/\s.TypeIs v T/\wpAny (model X.prog X.w) X.A (getItem v<|.ref sl) (EP X pins σ Q) X.xe s
def tSl(r:V->Option Int->Option Int->Hp->VK->Prop)(te:TE)(tl th:TO):TE:=λσ H Q=>te σ H λx H1=>tl σ H1 λl H2=>th σ H2 λu H3=>r x l u H3 Q
theorem Gu{r:V->Option Int->Option Int->Hp->VK->Prop}(hr:X3 X r)(he:PE X e te)(hl:PO X lo tl)(hu:PO X hi th):PE X (.Subscript e (.Slice lo hi none p2) pos) (tSl r te tl th):=by intro pins s σ H Q I h;refine Subscript_<|aX (he pins s σ H _ I h) λv s1 ⟨x,H1,I1,r1,q1⟩=>?_;refine wpAny_Slice<|aX (hl pins s1 σ H1 _ I1 q1) λvl s2 ⟨l,H2,I2,pl,q2⟩=>aX (hu pins s2 σ H2 _ I2 q2) λvu s3 ⟨u,H3,I3,pu,q3⟩=>?_;rw[evalPart_none];refine zw ?_;have I4:Inv X pins σ H3 {s3 with heap:=s3.heap.push {cls:=.type "slice",data:=.fields #[vl,vu,.none]}}:=I3.kept (t':=s3.toks) λb ob q=>za _ q;obtain⟨T,id,hT,ht,hg⟩:=hr pins {s3 with heap:=s3.heap.push {cls:=.type "slice",data:=.fields #[vl,vu,.none]}} σ H3 x v vl vu l u s3.heap.objs.size Q I4 r1 (Heap.IsSliceOf.new ..) pl pu q3;show wpAny (model X.prog X.w) X.A (subscriptTail e (.Slice lo hi none p2) v<|.ref s3.heap.objs.size) (EP X pins σ Q) X.xe {s3 with heap:=s3.heap.push {cls:=.type "slice",data:=.fields #[vl,vu,.none]}};exact tail_any (ops:=[.ref s3.heap.objs.size,v]) ht hT hg<|by with_unfolding_all rfl
noncomputable def Eh(xs:List V)(lo hi:Option Int):List V:=(xs.drop<|HT.sIx xs.length 0 lo).take<|HT.sIx xs.length xs.length hi-HT.sIx xs.length 0 lo
theorem wV(xs:List V)(lo hi:Option Int):(Eh xs lo hi).length<=xs.length:=by unfold Eh;rw[yh,List.length_drop];lia
def Te(K:Frag):R2:=λx y H Q=>∃a b xs ys,x=.ref a/\y=.ref b/\gM K H a xs/\gM K H b ys/\xs≠[]/\xs.length+ys.length<=sizeLine/\(ys=[]->Q (.ref a) H)/\(ys≠[]->∀p,H p=none->Q (.ref p) (upd H p<|.tup<|xs++ys))
theorem Vals.pX(r:Vals xs us):us=[]↔xs=[]:=by cases r with|nil=>simp|cons _ _=>simp
theorem Ki:gN X (binaryOp .Add) (Te X.K):=by intro pins s σ H x y v u Q I rx ry h;obtain⟨a,b,xs,ys,rfl,rfl,ha,hb,hx,hz,q1,q2⟩:=h;cases rx;cases ry;obtain⟨az,r1,p1,_⟩:=I.tuple ha;obtain⟨lU,r2,p2,_⟩:=I.tuple hb;refine HT.cat_tup p1 p2 (λz=>hx<|r1.pX.mp z) (λz=>{.ref a,H,I,rfl,q1<|r2.pX.mp z}) (λz=>?_) (by rw[<-r1.length,<-r2.length];exact hz);refine{.ref s.heap.objs.size,_,I.laid (t':=s.toks) (o:=.tup<|xs++ys) (λb ob q=>za _ q) (zo _) ?_,rfl,q2 (λw=>z<|r2.pX.mpr w) _<|I.aG.fresh<|zo _};exact{by rw[zA];exact hz,_,r1.append r2,gz.new _ _}
end
noncomputable def FN(n:Nat)(i:Int):Option Nat:=if 0<=i then (if i<n then some i.toNat else none) else if -(n:Int)<=i then some (i+n).toNat else none
noncomputable def kJ{α:Type}(xs:List α)(i:Int):Option α:=(FN xs.length i).bind λj=>xs[j]?
theorem CH(h:FN n i=some j):seqIndex? i n=some j/\j<n/\-(n:Int)<=i/\i<n:=by unfold FN at h;by_cases h0:0<=i;rw[if_pos h0]at h;by_cases h1:i<n;rw[if_pos h1]at h;have e:i.toNat=j:=zU h;exact{by rw[seqIndex_of h0 h1,e],by lia,by lia,h1};rw[if_neg h1]at h;cases h;rw[if_neg h0]at h;by_cases h1:-(n:Int)<=i;rw[if_pos h1]at h;have e:(i+n).toNat=j:=zU h;exact{by rw[seqIndex_neg (by lia) h1,e],by lia,h1,by lia};rw[if_neg h1]at h;cases h
theorem uS(h:kJ xs i=some v):∃j,seqIndex? i xs.length=some j/\xs[j]?=some v/\j<xs.length/\-(xs.length:Int)<=i/\i<xs.length:=by unfold kJ at h;cases e:FN xs.length i with|none=>(rw[e]at h;cases h)|some j=>rw[e]at h;obtain⟨h1,h2,h3,h4⟩:=CH e;exact⟨j,h1,h,h2,h3,h4⟩
theorem eM{α:Type}{xs:List α}{j:Nat}{v:α}(h:xs[j]?=some v):kJ xs (j:Int)=some v:=by
 have hj:j<xs.length:=(zg.mp h).1;have e:FN xs.length (j:Int)=some j:=by unfold FN;rw[if_pos<|by lia,if_pos<|by lia];simp
 unfold kJ;rw[e];exact h
def CI(b:Expr):Prop:=∀o i,subscripted b false o i=operate [o,i] (getItem o i)
def Tf(X:Cx)(r:R2):Prop:=∀(value slice:Expr)(pins:List (Addr×Obj))(s:Shared)(σ:St)(H:Hp)(x y:V)(v u:Value)(Q:VK),Inv X pins σ H s->RelV x v->RelV y u->r x y H Q->subscripted slice false v u=operate [v,u] (getItem v u)->wpAny (model X.prog X.w) X.A (subscriptTail value slice v u) (EP X pins σ Q) X.xe s
def Ru(X:Cx)(id:String)(r:V->List V->Hp->VK->Prop):Prop:=∀(pins:List (Addr×Obj))(s:Shared)(σ:St)(H:Hp)(x:V)(xs:List V)(v:Value)(us:List Value)(Q:VK),Inv X pins σ H s->RelV x v->Vals xs us->r x xs H Q->wpAny (model X.prog X.w) X.A (call (.builtin id)<|v::us) (EP X pins σ Q) X.xe s
section
variable{X:Cx}{a b:Expr}{ta tb:TE}{pos:Pos}
theorem Th(hr:Tf X r)(ha:PE X a ta)(hb:PE X b tb)(hs:CI b):PE X (.Subscript a b pos) (Rr r ta tb):=by intro pins s σ H Q I h;exact Subscript_<|Oq ha hb I h λv u s2 x y H2 I2 rx ry q=>hr a b pins s2 σ H2 x y v u Q I2 rx ry q<|hs _ _
def X4(K:Frag):R2:=λx y H Q=>∃p xs i v,x=.ref p/\y=.int i/\jd K H p xs/\kJ xs i=some v/\Q v H
def X5(K:Frag):R2:=λx y H Q=>∃p xs i v,x=.ref p/\y=.int i/\gM K H p xs/\kJ xs i=some v/\Q v H
def X6:R2:=λx y H Q=>∃z i c,x=.str z/\y=.int i/\z.length<=sizeLine/\kJ z.cps.toList i=some c/\Q (.str ⟨#[c]⟩) H
theorem CJ:Tf X (X4 X.K):=by
 intro value slice pins s σ H x y v u Q I rx ry h hs;obtain⟨p,xs,i,z,rfl,rfl,hq,he,q⟩:=h;cases rx;obtain⟨t,rfl⟩:=ry;obtain⟨az,r,pl,hz⟩:=I.list hq;obtain⟨j,h1,h2,h3,h4,h5⟩:=uS he;obtain⟨w,ew,m9⟩:=r.get h2;have hl:=r.length;have hn:=qp;have fin:EP X pins σ Q w s:=⟨z,H,I,m9,q⟩;by_cases h0:0<=i;have hj:i.toNat=j:=by rw[seqIndex_of h0 h5]at h1;exact zU h1
 exact item_listR pl.isList h0 (by lia) (by rw[hj];simpa using ew) fin hs;have hj:(i+(az.toArray.size:Int)).toNat=j:=by rw[seqIndex_neg (by lia) h4]at h1;rw[zm,<-hl];exact zU h1
 exact subscriptTail_builtinR (x:=w) pl.isList.typeIs slot_list_getitem.lookup (wpAny_getItem_list_neg (Q:=λr s'=>r=w/\EP X pins σ Q r s') pl.isList (by lia) (by rw[zm]<;>lia) (by lia) (by rw[hj];simpa using ew) ⟨rfl,fin⟩) hs
theorem Gv:Tf X (X5 X.K):=by intro value slice pins s σ H x y v u Q I rx ry h hs;obtain⟨p,xs,i,z,rfl,rfl,hq,he,q⟩:=h;cases rx;obtain⟨t,rfl⟩:=ry;obtain⟨az,r,pl,hz⟩:=I.tuple hq;obtain⟨j,h1,h2,h3,h4,h5⟩:=uS he;obtain⟨w,ew,m9⟩:=r.get h2;have hl:=r.length;have hn:=qp;have fin:EP X pins σ Q w s:=⟨z,H,I,m9,q⟩;exact subscriptTail_builtinR (x:=w) pl.typeIs slot_tuple_getitem.lookup (getItem_tuple (j:=j) (Q:=λr s'=>r=w/\EP X pins σ Q r s') pl (by lia) (by lia) (by rw[zm,<-hl];exact h1) (by simpa using ew) ⟨rfl,fin⟩) hs
theorem OH:Tf X X6:=by
 intro value slice pins s σ H x y v u Q I rx ry h hs;obtain⟨z,i,c,rfl,rfl,hz,he,q⟩:=h;obtain⟨t,rfl⟩:=rx;obtain⟨t',rfl⟩:=ry;obtain⟨j,h1,h2,h3,h4,h5⟩:=uS he;have hl:z.cps.toList.length=z.length:=by simp[Str.length]
 rw[hl]at h1 h4 h5;have hn:=qp;exact tail_any (typeIs_str s z t) slot_str_getitem.lookup (getItem_str (c:=c) (by have e1:decide (i < -(2^63:Int))=false:=zq (by lia);have e2:decide (i>=2^63)=false:=zq (by lia);rw[e1,e2,Bool.or_false]) (by rw[h1];simpa using h2) {.str ⟨#[c]⟩,H,I.tok _,{_,rfl},q}) hs
theorem AY(az:List Value)(n j:Nat)(u:Value):Obj.mapSeq (·.setIfInBounds j u) {cls:=.type "list",data:=.seq az.toArray n}={cls:=.type "list",data:=.seq (az.set j u).toArray n}:=by simp[Obj.mapSeq]
theorem Inv.lst(I:Inv X pins σ H s)(h:H p=some (.lst xs)): ∃(az:List Value)(n:Nat),Vals xs az/\s.heap.get? p=some {cls:=.type "list",data:=.seq az.toArray n}/\xs.length<=sizeLine:=by obtain⟨z,az,n,r,e⟩:=I.aG p _ h;exact⟨az,n,r,e,z⟩
theorem Inv.OI{pins:List<|Addr×Obj}{σ:St}{H:Hp}{s:Shared}{p:Addr}{xs ys:List V}{az its':List Value}{n n':Nat}{f:Obj->Obj}(I:Inv X pins σ H s)(h:H p=some (.lst xs)) (ho:s.heap.get? p=some {cls:=.type "list",data:=.seq az.toArray n}) (hf:f {cls:=.type "list",data:=.seq az.toArray n}={cls:=.type "list",data:=.seq its'.toArray n'}) (r:Vals ys its') (hz:ys.length<=sizeLine) (t:Nat): Inv X pins σ (upd H p<|.lst ys) {s with heap:=s.heap.update p f,toks:=t}:=by
 have e:(s.heap.update p f).get? p=some {cls:=.type "list",data:=.seq its'.toArray n'}:=by rw[yt f ho<|by rw[hf]<;>rfl,hf]
 refine I.write (x:=p) (e:=p) (by rw[h];trivial) (.inl rfl) (λb u hb q=>(yo _ _<|Ne.symm hb).trans q) {_,e} ?_;exact⟨hz,its',n',r,e⟩
def Tj:V->V->V->Hp->(Hp->Prop)->Prop:=λo i v H Q=>∃p xs k j,o=.ref p/\i=.int k/\H p=some (.lst xs)/\FN xs.length k=some j/\Q (upd H p<|.lst<|xs.set j v)
theorem set_list:Sv X Tj:=by
 intro pins s σ H o i v ov iv u Q I ro ri rv h;obtain⟨p,xs,k,j,rfl,rfl,hp,hj,q⟩:=h;cases ro;obtain⟨t,rfl⟩:=ri;obtain⟨az,n,r,ho,hz⟩:=I.lst hp;obtain⟨h1,h2,h3,h4⟩:=CH hj;have hl:=r.length;have hn:=qp;have I':Inv X pins σ (upd H p<|.lst<|xs.set j v) {s with heap:=s.heap.update p (Obj.mapSeq (·.setIfInBounds j u))}:=I.OI hp ho (AY az n j u) (r.set rv j) (by rw[List.length_set];exact hz) s.toks;by_cases h0:0<=k;have hk:k.toNat=j:=by rw[seqIndex_of h0 h4]at h1;exact zU h1
 exact PySem.W.ki_setAt ho h0 (by lia) (by rw[zm,<-hl];exact h4) (by rw[hk];exact{_,I',q});have hk:(k+(az.toArray.size:Int)).toNat=j:=by rw[seqIndex_neg (by lia) h3]at h1;rw[zm,<-hl];exact zU h1
 exact PySem.W.ki_setBack ho (by lia) (by rw[zm,<-hl];exact h3) (by lia)<|by rw[hk];exact{_,I',q}
theorem uT(lo hi:Option Int)(n:Nat):(sliceBounds lo hi none n).1=((HT.sIx n 0 lo:Nat):Int)/\(sliceBounds lo hi none n).2.1=((HT.sIx n n hi:Nat):Int)/\(sliceBounds lo hi none n).2.2=1:=by
 refine{?_,?_,rfl};cases lo with|none=>simp[sliceBounds,HT.sIx]|some i=>simp only[sliceBounds,HT.sIx,Option.getD_none,show(1:Int)>0 by decide,if_true];by_cases h:i<0;simp only[h,if_true]<;>lia;simp only[h,if_false]<;>lia
 cases hi with|none=>simp[sliceBounds,HT.sIx]|some i=>simp only[sliceBounds,HT.sIx,Option.getD_none,show(1:Int)>0 by decide,if_true];by_cases h:i<0;simp only[h,if_true]<;>lia;simp only[h,if_false]<;>lia
theorem sO(az:List Value)(lo hi:Option Int):slicePick az.toArray lo hi none=((az.drop<|HT.sIx az.length 0 lo).take<|HT.sIx az.length az.length hi-HT.sIx az.length 0 lo).toArray:=by obtain⟨h1,h2,h3⟩:=uT lo hi az.toArray.size;unfold slicePick;rw[h1,h2,h3];simp only[sliceRange_one,pick_run,zm]<;>rfl
def X7(K:Frag):V->Option Int->Option Int->Hp->VK->Prop:=λx lo hi H Q=>∃a xs,x=.ref a/\jd K H a xs/\∀p,H p=none->Q (.ref p) (upd H p<|.lst<|Eh xs lo hi)
theorem CK:X3 X (X7 X.K):=by intro pins s σ H x v vl vu lo hi sl Q I rx hs pl pu h;obtain⟨a,xs,rfl,hx,q⟩:=h;cases rx;obtain⟨az,r,ht,hz⟩:=I.list hx;have hlen:=r.length;refine{"list",_,slot_list_getitem.lookup,ht.isList.typeIs,?_};refine wpAny_getItem_list_slice ht.isList hs pl pu .none (by simp) ?_ (by rw[zm]<;>lia);rw[sO,<-hlen];refine{.ref s.heap.objs.size,_,I.laid (t':=s.toks) (o:=.lst<|Eh xs lo hi) (λb ob q=>za _ q) (zo _) ?_,rfl,q _<|I.aG.fresh<|zo _};exact{zL (wV xs lo hi) hz,_,0,(r.drop<|HT.sIx xs.length 0 lo).take<|HT.sIx xs.length xs.length hi-HT.sIx xs.length 0 lo,zk _ rfl}
noncomputable def gQ:V->Bool|.ao=>true|.bl _=>true|.int _=>true|.str _=>true|_=>false
noncomputable def eqV:V->V->Bool|.ao,.ao=>true|.bl a,.bl b=>a==b|.bl a,.int b=>((if a then 1 else 0)==b)|.int a,.bl b=>(a==(if b then 1 else 0))|.int a,.int b=>a==b|.str a,.str b=>a==b|_,_=>false
theorem OJ(ry:RelV y u)(rx:RelV x v)(fy:gQ y=true)(fx:gQ x=true):SeqAt.EqAt A s u v (eqV y x):=by cases y with|ao=>(cases ry;cases x with|ao=>(cases rx;exact SeqAt.EqAt.same _)|bl b=>(cases rx;exact SeqAt.EqAt.none_bool b)|int b=>(obtain⟨t,rfl⟩:=rx;exact SeqAt.EqAt.none_int b t)|str b=>(obtain⟨t,rfl⟩:=rx;exact SeqAt.EqAt.none_str b t)|_=>exact absurd (show false=true from fx) zd)|bl a=>(cases ry;cases x with|ao=>(cases rx;exact SeqAt.EqAt.bool_none a)|bl b=>(cases rx;exact SeqAt.EqAt.bool_bool a b)|int b=>(obtain⟨t,rfl⟩:=rx;exact SeqAt.EqAt.bool_int a b t)|str b=>(obtain⟨t,rfl⟩:=rx;exact SeqAt.EqAt.bool_str a b t)|_=>exact absurd (show false=true from fx) zd)|int a=>(obtain⟨t',rfl⟩:=ry;cases x with|ao=>(cases rx;exact SeqAt.EqAt.int_none a t')|bl b=>(cases rx;exact SeqAt.EqAt.int_bool a t' b)|int b=>(obtain⟨t,rfl⟩:=rx;exact SeqAt.EqAt.int_int a t' b t)|str b=>(obtain⟨t,rfl⟩:=rx;exact SeqAt.EqAt.int_str a t' b t)|_=>exact absurd (show false=true from fx) zd)|str a=>(obtain⟨t',rfl⟩:=ry;cases x with|ao=>(cases rx;exact SeqAt.EqAt.str_none a t')|bl b=>(cases rx;exact SeqAt.EqAt.str_bool a t' b)|int b=>(obtain⟨t,rfl⟩:=rx;exact SeqAt.EqAt.str_int a t' b t)|str b=>(obtain⟨t,rfl⟩:=rx;exact SeqAt.EqAt.str_str a t' b t)|_=>exact absurd (show false=true from fx) zd)|_=>exact absurd (show false=true from fy) zd
noncomputable def Gw(x:V)(u:Value):Bool:=match u with|.none=>eqV .ao x|.bool b=>eqV (.bl b) x|.int i _=>eqV (.int i) x|.str z _=>eqV (.str z) x|_=>false
theorem AZ(r:RelV y u)(f:gQ y=true):Gw x u=eqV y x:=by cases y with|ao=>(cases r;rfl)|bl b=>(cases r;rfl)|int i=>(obtain⟨t,rfl⟩:=r;rfl)|str z=>(obtain⟨t,rfl⟩:=r;rfl)|_=>exact absurd (show false=true from f) zd
theorem uU:∀{xs:List V}{us:List Value},Vals xs us->xs.all gQ=true->us.any (Gw x)=xs.any λy=>eqV y x|_,_,.nil,_=>rfl|y::xs,u::us,.cons r t,f=>by rw[List.all_cons,zQ]at f;rw[yO,yO,AZ r f.1,uU t f.2]
theorem lV(rx:RelV x v)(fx:gQ x=true):∀{xs:List V}{us:List Value},Vals xs us->xs.all gQ=true->∀u∈us,SeqAt.EqAt A s u v (Gw x u)|_,_,.nil,_=>(λu hu=>by cases hu)|y::xs,u::us,.cons r t,f=>λu' hu=>by rw[List.all_cons,zQ]at f;rcases zf.mp hu with rfl|hu;rw[AZ r f.1];exact OJ r rx f.1 fx;exact lV rx fx t f.2 u' hu
noncomputable def Ar(x:V)(xs:List V):Bool:=xs.any λy=>eqV y x
def rIn(K:Frag)(neg:Bool):R2:=λx y H Q=>∃p xs,y=.ref p/\(jd K H p xs\/gM K H p xs)/\gQ x=true/\xs.all gQ=true/\Q (.bl<|if neg then !Ar x xs else Ar x xs) H
theorem m_:gN X (compareOp .In) (rIn X.K false):=by intro pins s σ H x y v u Q I rx ry h;obtain⟨p,xs,rfl,hq,fx,fs,q⟩:=h;cases ry;rcases hq with hq|hq;obtain⟨az,r,pl,hz⟩:=I.list hq;refine SeqAt.in_listAt (Gw x) pl.isList (λw hw=>lV rx fx r fs w<|by simpa using hw) {.bl _,H,I,rfl,?_};rw[show az.toArray.any (Gw x)=az.any (Gw x) by simp,uU r fs];exact q;obtain⟨az,r,pl,hz⟩:=I.tuple hq;refine SeqAt.in_tupleAt (Gw x) pl (λw hw=>lV rx fx r fs w<|by simpa using hw) {.bl _,H,I,rfl,?_};rw[show az.toArray.any (Gw x)=az.any (Gw x) by simp,uU r fs];exact q
theorem lW:dy X (.type "list") (λxs H Q=>∃p ys,xs=[.ref p]/\(jd X.K H p ys\/gM X.K H p ys)/\∀l,H l=none->Q (.ref l) (upd H l<|.lst ys)):=by intro pins s σ H xs us Q I r h;obtain⟨p,ys,rfl,hq,q⟩:=h;obtain⟨u,rfl,rx⟩:=vals1 r;cases rx;have fin:∀(az:List Value),Vals ys az->ys.length<=sizeLine->∀(h':Heap) (c':Nat),(∀b o',s.heap.get? b=some o'->h'.get? b=some o')->h'.get? s.heap.objs.size=some {cls:=.type "list",dict:=none,data:=.seq az.toArray c',slots:=#[]}->EP X pins σ Q (.ref s.heap.objs.size) {s with heap:=h'}:=λaz r' hz h' c' kp e=>{.ref s.heap.objs.size,_,I.laid (t':=s.toks) kp (zo _)<|show aV X.prog X.w _ h' _ (.lst ys) from⟨hz,az,c',r',e⟩,rfl,q _<|I.aG.fresh<|zo _};rcases hq with hq|hq;obtain⟨az,r',pl,hz⟩:=I.list hq;have hlen:=r'.length;obtain⟨o,ho,hc,n,hd⟩:=pl.isList;exact call_list_seq p (.inl rfl) ho hc hd (λh' c' kp e=>fin az r' hz h' c' kp e) (by simp only[zm]<;>lia);obtain⟨az,r',pl,hz⟩:=I.tuple hq;have hlen:=r'.length;obtain⟨o,ho,hc,n,hd⟩:=pl;exact call_list_seq p (.inr rfl) ho hc hd (λh' c' kp e=>fin az r' hz h' c' kp e)<|by simp only[zm]<;>lia
theorem kK:dy X (.type "tuple") (λxs H Q=>∃p ys,xs=[.ref p]/\((jd X.K H p ys/\∀l,H l=none->Q (.ref l) (upd H l<|.tup ys))\/(gM X.K H p ys/\Q (.ref p) H))):=by intro pins s σ H xs us Q I r h;obtain⟨p,ys,rfl,h⟩:=h;obtain⟨u,rfl,rx⟩:=vals1 r;cases rx;rcases h with⟨hq,q⟩|⟨hq,q⟩;obtain⟨az,r',pl,hz⟩:=I.list hq;have hlen:=r'.length;refine call_tuple_list pl.isList (λh' kp=>?_) (by simp only[zm]<;>lia);have I1:Inv X pins σ H {s with heap:=h'}:=I.kept (t':=s.toks) kp;have I2:Inv X pins σ (upd H h'.objs.size<|.tup ys) {s with heap:=h'.push {cls:=.type "tuple",data:=.seq az.toArray}}:=I1.laid (t':=s.toks) (λb o e=>za _ e) (zo _)<|show aV X.prog X.w _ _ _ (.tup ys) from{hz,az,r',gz.new _ _};exact{.ref h'.objs.size,_,I2,rfl,q _<|I1.aG.fresh<|zo _};obtain⟨az,r',pl,hz⟩:=I.tuple hq;exact call_tuple_same pl {.ref p,H,I,rfl,q}
def Wx(K:Frag)(T:String)(x:V)(H:Hp):Prop:=match x with|.str _=>T ="str"|.int _=>T ="int"|.ref p=>(T ="list"/\∃xs,jd K H p xs)\/(T ="tuple"/\∃o,K.lookup p=some o/\o.cls=.type "tuple"/\o.dict=none)\/(T ="dict"/\((∃kvs,H p=some (.dK kvs))\/∃kvs,H p=some (.dT kvs)))\/(T ="set"/\∃S n,H p=some (.set S n))|_=>False
theorem Gx{T:String}(I:Inv X pins σ H s)(r:RelV x v)(ty:Wx X.K T x H): s.TypeIs v T/\∀a,v=.ref a->∃ob,s.heap.get? a=some ob/\ob.dict=none:=by cases x with|str z=>(obtain⟨t,rfl⟩:=r;cases (show T ="str" from ty);exact{typeIs_str s z t,λ_ e=>nomatch e})|int i=>(obtain⟨t,rfl⟩:=r;cases (show T ="int" from ty);exact{typeIs_int s i t,λ_ e=>nomatch e})|ref p=>(cases r;rcases ty with⟨rfl,xs,hq⟩|⟨rfl,o,hk,hc,hd⟩|⟨rfl,hk⟩|⟨rfl,S,n,hk⟩;obtain⟨az,_,pl,_⟩:=I.list hq;refine{pl.isList.typeIs,λa e=>?_};cases e;obtain⟨o,n,e,c,hd,_⟩:=pl;exact⟨o,e,hd⟩;refine{{o,I.ku p o hk,hc},λa e=>?_};cases e;exact{o,I.ku _ o hk,hd};have z:∃o,s.heap.get? p=some o/\o.ExactDict:=(by rcases hk with⟨kvs,hk⟩|⟨kvs,hk⟩;obtain⟨_,_,_,_,o,_,_,e,ex,_⟩:=I.aG p _ hk;exact⟨o,e,ex⟩;exact False.elim<|I.aG p _ hk);obtain⟨o,e,ex⟩:=z;refine{⟨o,e,ex.1⟩,λa e2=>?_};cases e2;exact⟨o,e,ex.2.1⟩;obtain⟨o,_,_,_,e,ex,_⟩:=I.aG p _ hk;refine{⟨o,e,ex.1⟩,λa e2=>?_};cases e2;exact⟨o,e,ex.2.1⟩)|_=>exact False.elim ty
def X8(K:Frag)(T:String)(r:V->List V->Hp->VK->Prop)(to:TE):TE:=λσ H Q=>to σ H λx H1=>Wx K T x H1/\r x [] H1 Q
def tBM(K:Frag)(T:String)(r:V->List V->Hp->VK->Prop)(to:TE)(t:TA):TE:=λσ H Q=>to σ H λx H1=>Wx K T x H1/\t σ H1 λxs H2=>r x xs H2 Q
variable{o e:Expr}{es:List Expr}{to:TE}{t:TA}{name:Str}{apos aN:Pos}{T id:String}{r:V->List V->Hp->VK->Prop}
theorem OL(pa:PlainAttrs T)(slot:Slot T name id)(OM:typeOf (.builtin id)=pure (.type "method_descriptor"))(hm:Ru X id r)(ho:PE X o to) (lX:autoParam (attributeBase o name X.env (eval o X.env)=eval o X.env) qQJ) (qu:autoParam ((apos.endLine==aN.line)=true) qQJ):PE X (.Call (.Attribute o name apos) [] [] aN) (X8 X.K T r to):=by intro pins s σ H Q I h;refine wpAny_Call_method0_late lX qu<|aX (ho pins s σ H _ I h) λv s1 ⟨x,H1,I1,r1,ty,q1⟩=>?_;obtain⟨h1,h2⟩:=Gx I1 r1 ty;exact{T,id,pa,slot,OM,h1,h2,Calls.callWith_builtin rfl<|PySem.evalArgs_none<|hm pins s1 σ H1 x [] v [] Q I1 r1 .nil q1}
theorem Tp(pa:PlainAttrs T)(slot:Slot T name id)(OM:typeOf (.builtin id)=pure (.type "method_descriptor"))(hm:Ru X id r)(ho:PE X o to)(ha:PA X (e::es) t) (lX:autoParam (attributeBase o name X.env (eval o X.env)=eval o X.env) qQJ) (ON:autoParam (((backTo aN<|starEach (e::es) X.env).all (λx=>!x.1)&&(backToKw aN<|keywordEach [] X.env).all (λx=>x.1.isSome)&&decide ((e::es).length+([]:List Keyword).length+(if ([]:List Keyword).isEmpty then 0 else 1)<30))=true) qQJ) (qu:autoParam ((apos.endLine==aN.line)=true) qQJ) (hs:autoParam (starEach (e::es) X.env=(false,eval e X.env)::starEach es X.env) qQJ) (A1:autoParam ((backTo aN<|starEach es X.env).any (·.1)=false) qQJ): PE X (.Call (.Attribute o name apos) (e::es) [] aN) (tBM X.K T r to t):=by intro pins s σ H Q I h;refine wpAny_Call_method_late lX ON qu rfl<|aX (ho pins s σ H _ I h) λv s1 ⟨x,H1,I1,r1,ty,q1⟩=>?_;obtain⟨h1,h2⟩:=Gx I1 r1 ty;refine{T,id,pa,slot,OM,h1,h2,?_};have hA:=ha aN pins s1 σ H1 _ I1 q1;rw[hs]at hA⊢;refine Calls.callWith_builtin (by show(false||(backTo aN<|starEach es X.env).any (·.1))=false;rw[A1]<;>rfl)<|Calls.evalArgs_plain ?_;exact aX hA <| by rintro us s2 ⟨vs,H2,I2,r2,q2⟩;exact hm pins s2 σ H2 x vs v us Q I2 r1 r2 q2
end
def X9(X:Cx)(id:String)(r:V->List V->Hp->VK->Prop):Prop:=∀(pins:List (Addr×Obj))(s:Shared)(σ:St)(H:Hp)(x:V)(xs:List V)(v:Value)(us:List Value)(Q:VK),Inv X pins σ H s->RelV x v->Vals xs us->r x xs H Q->wpAny (model X.prog X.w) X.A (call (.builtin id)<|v::us) (EP X pins σ Q) X.xe s
theorem Vals.one:∀{x:V}{us:List Value},Vals [x] us->∃u,us=[u]/\RelV x u:=by intro x us h;cases h with|cons r t=>cases t;exact{_,rfl,r}
theorem Vals.two:∀{x y:V}{us:List Value},Vals [x,y] us->∃u v,us=[u,v]/\RelV x u/\RelV y v:=by intro x y us h;cases h with|cons r t=>obtain⟨_,rfl,q⟩:=Vals.one t;exact{_,_,rfl,r,q}
theorem Vals.zero:∀{us:List Value},Vals [] us->us=[]|_,.nil=>rfl
theorem Vals.dropLast{xs:List V}{us:List Value}(h:Vals xs us):Vals xs.dropLast us.dropLast:=by induction h with|nil=>exact .nil|cons r t ih=>cases t with|nil=>exact .nil|cons q t'=>exact .cons r ih
theorem A2{α:Type}(l:List α):l.eraseIdx (l.length-1)=l.dropLast:=by induction l with|nil=>rfl|cons a r ih=>cases r with|nil=>rfl|cons b r=>have e:(a::b::r).length-1=((b::r).length-1)+1:=(by have h1:(a::b::r).length=r.length+2:=rfl;have h2:(b::r).length=r.length+1:=rfl;lia);rw[e,List.eraseIdx_cons_succ,ih];all_goals rfl
section
variable{X:Cx}{pins:List (Addr×Obj)}{σ:St}{H:Hp}{s:Shared}{l:Addr}{xs ys:List V}
theorem Inv.OO{az its':List Value}{n:Nat}{f:Array Value->Array Value}{t':Nat}(I:Inv X pins σ H s)(hH:H l=some (.lst xs)) (e:s.heap.get? l=some {cls:=.type "list",data:=.seq az.toArray n}) (hf:f az.toArray=its'.toArray) (hv:Vals ys its') (hz:ys.length<=sizeLine): Inv X pins σ (upd H l<|.lst ys) {s with heap:=s.heap.update l<|Obj.mapSeq f,toks:=t'}:=by have q:=PySem.IsL.update e f;rw[hf]at q;refine I.write (x:=l) (e:=l) (by rw[hH];exact trivial) (.inl rfl) (λb' u hb hu=>(yo s.heap (Obj.mapSeq f)<|Ne.symm hb).trans hu) {_,q} ?_;exact{hz,its',_,hv,q}
theorem Inv.X_(I:Inv X pins σ H s)(hv:Vals ys az)(hz:ys.length<=sizeLine): Inv X pins σ (upd H s.heap.objs.size<|.lst ys) {s with heap:=s.heap.push {cls:=.type "list",data:=.seq az.toArray},toks:=t'}:=I.laid (λ_ _ q=>za _ q) (zo _) {hz,az,0,hv,zk _ rfl}
theorem Inv.fresh(I:Inv X pins σ H s):H s.heap.objs.size=none:=I.aG.fresh<|zo _
theorem Inv.Gy(I:Inv X pins σ H s)(hH:H l=some (.lst xs)):xs.length<=sizeLine/\∃(az:List Value)(n:Nat),Vals xs az/\xs.length=az.length/\s.heap.get? l=some {cls:=.type "list",data:=.seq az.toArray n}:=by obtain⟨z,az,n,r,e⟩:=I.aG l _ hH;exact⟨z,az,n,r,r.length,e⟩
theorem Gz{n:Nat}(h:n<=sizeLine):Builtin.List.listTooLong n=false:=by unfold Builtin.List.listTooLong;exact zq<|by lia
end
section
variable{X:Cx}
def Kj:V->List V->Hp->VK->Prop:=λx vs H Q=>∃l xs y,x=.ref l/\vs=[y]/\H l=some (.lst xs)/\xs.length<sizeLine/\Q .ao (upd H l<|.lst<|xs++[y])
theorem Ei:X9 X "list.append" Kj:=by intro pins s σ H x vs v us Q I rx rv h;obtain⟨l,xs,y,rfl,rfl,hH,hz,q⟩:=h;cases rx;obtain⟨u,rfl,ru⟩:=rv.one;obtain⟨z,az,n,r,hl,e⟩:=I.Gy hH;refine call_meets F.slot_list_append {_,e,rfl} F.entry_list_append (F.args_list_append_2 _ _) (PySem.list_append l az.toArray n u<|by rw[zm];lia) {e,?_};refine{.ao,_,I.OO (its':=az++[u]) hH e (by simp) (r.append<|.cons ru .nil) ?_,rfl,q};rw[zA,List.length_singleton];lia
def Ya:V->List V->Hp->VK->Prop:=λx vs H Q=>∃l xs y,x=.ref l/\vs=[]/\H l=some (.lst xs)/\xs[xs.length-1]?=some y/\Q y (upd H l<|.lst xs.dropLast)
theorem OP:X9 X "list.pop" Ya:=by
 intro pins s σ H x vs v us Q I rx rv h;obtain⟨l,xs,y,rfl,rfl,hH,hy,q⟩:=h;cases rx;have hus:=rv.zero;subst hus;obtain⟨z,az,n,r,hl,e⟩:=I.Gy hH;obtain⟨u,hu,ru⟩:=r.get hy;have Tq:az.toArray[az.toArray.size-1]?=some u:=by show az.toArray[az.length-1]?=some u;rw[<-Array.getElem?_toList,<-hl];exact hu
 refine call_meets F.slot_list_pop {_,e,rfl} F.entry_list_pop (F.args_list_pop_1 _) (MeetsSeq.list_pop_last l az.toArray n u Tq<|by rw[zm];lia) {e,?_};refine{y,_,I.OO (its':=az.dropLast) hH e ?_ r.dropLast ?_,ru,q};show az.toArray.eraseIdxIfInBounds (az.toArray.size-1)=az.dropLast.toArray;rw[zm,List.eraseIdxIfInBounds_toArray,A2];rw[List.length_dropLast];lia
def Yb:R2:=λx y H Q=>∃l b xs zs,x=.ref l/\y=.ref b/\H l=some (.lst xs)/\H b=some (.lst zs)/\xs.length+zs.length<=sizeLine/\∀p,H p=none->Q (.ref p) (upd H p<|.lst<|xs++zs)
theorem GA:gN X (binaryOp .Add) Yb:=by
 intro pins s σ H x y v u Q I rx ry h;obtain⟨l,b,xs,zs,rfl,rfl,hH,hB,hz,q⟩:=h;cases rx;cases ry;obtain⟨z,az,n,r,hl,e⟩:=I.Gy hH;obtain⟨z2,lU,n2,r2,JH,e2⟩:=I.Gy hB;refine PySem.P.add_list e e2 ?_ (by rw[zm,zm];lia);have ea:az.toArray++lU.toArray=(az++lU).toArray:=by simp
 rw[ea];exact{.ref _,_,I.X_ (t':=s.toks) (r.append r2)<|by rw[zA];lia,rfl,q _ I.fresh}
end
section
variable{κ:Type}[DecidableEq κ]
noncomputable def f9(kvs:List<|κ×V)(k:κ):Option V:=(kvs.find? λkv=>decide<|kv.1=k).map (·.2)
noncomputable def putK(kvs:List<|κ×V)(k:κ)(v:V):List (κ×V):=if (kvs.any λkv=>decide<|kv.1=k)=true then kvs.map (λkv=>if kv.1=k then (kv.1,v) else kv) else kvs++[(k,v)]
noncomputable def ot(kvs:List<|κ×V)(k:κ):List (κ×V):=kvs.filter λkv=>decide<|kv.1≠k
theorem qv{p:κ×V}{r:List<|κ×V}{k:κ}(e:p.1=k):f9 (p::r) k=some p.2:=by simp[f9,z0,e]
theorem qw{p:κ×V}{r:List<|κ×V}{k:κ}(e:¬p.1=k):f9 (p::r) k=f9 r k:=by simp[f9,z0,e]
theorem ou(kvs:List<|κ×V)(k:κ)(v:V):(putK kvs k v).length<=kvs.length+1:=by unfold putK;split;rw[zc];lia;rw[zA,zG,List.length_nil];lia
theorem fY.ng(r:fY o u):o.isSome=u.isSome:=by cases o with|none=>(cases u with|none=>rfl|some _=>exact(show False from r).elim)|some _=>cases u with|none=>exact(show False from r).elim|some _=>rfl
theorem fY.getD{o:Option V}{u:Option Value}{d:V}{d':Value}(r:fY o u)(rd:RelV d d'):RelV (o.getD d) (u.getD d'):=by cases o with|none=>(cases u with|none=>exact rd|some _=>exact(show False from r).elim)|some _=>cases u with|none=>exact(show False from r).elim|some _=>exact r
theorem KV.val{kvs:List<|κ×V}{vs:List<|κ×Value}(r:KV kvs vs)(k:κ):fY (f9 kvs k) (valueAt vs k):=by unfold KV at r;induction r with|nil=>exact True.intro|@cons p q ps qs h t ih=>obtain⟨h1,h2⟩:=h;by_cases e:p.1=k;have e':q.1=k:=h1.symm.trans e;have b:valueAt (q::qs) k=some q.2:=(by simp[valueAt,z0,e']);rw[qv e,b];exact h2;have e':¬q.1=k:=λz=>e<|h1.trans z;have b:valueAt (q::qs) k=valueAt qs k:=(by simp[valueAt,z0,e']);rw[qw e,b];exact ih
theorem KV.any{kvs:List<|κ×V}{vs:List<|κ×Value}(r:KV kvs vs)(k:κ):(kvs.any λkv=>decide<|kv.1=k)=vs.any λkv=>decide (kv.1=k):=by unfold KV at r;induction r with|nil=>rfl|cons h t ih=>rw[yO,yO,ih,h.1]
theorem KV.OQ(r:KV kvs vs)(k:κ)(ry:RelV y u): KV (kvs.map λkv=>if kv.1=k then (kv.1,y) else kv) (vs.map λkv=>if kv.1=k then (kv.1,u) else kv):=by unfold KV at r⊢;induction r with|nil=>exact .nil|@cons p q ps qs h t ih=>rw[zJ,zJ];refine .cons ?_ ih;obtain⟨h1,h2⟩:=h;by_cases e:p.1=k;rw[if_pos e,if_pos<|h1.symm.trans e];exact⟨h1,ry⟩;rw[if_neg e,if_neg λz=>e<|h1.trans z];exact⟨h1,h2⟩
theorem KV.put(r:KV kvs vs)(k:κ)(ry:RelV y u):KV (putK kvs k y) (stored vs k u):=by unfold putK stored;rw[r.any k];by_cases e:(vs.any λkv=>decide<|kv.1=k)=true;rw[if_pos e,if_pos e];exact r.OQ k ry;rw[if_neg e,if_neg e];exact Paired.snoc r ⟨rfl,ry⟩
theorem KV.drop(r:KV kvs vs)(k:κ):KV (ot kvs k) (without vs k):=by unfold KV at r⊢;unfold ot without;induction r with|nil=>exact .nil|@cons p q ps qs h t ih=>obtain⟨h1,h2⟩:=h;rw[List.filter_cons,List.filter_cons];by_cases e:p.1=k;have a:¬decide (p.1≠k)=true:=(by simp[e]);have b:¬decide (q.1≠k)=true:=(by simp[h1.symm.trans e]);rw[if_neg a,if_neg b];exact ih;have e':¬q.1=k:=λz=>e<|h1.trans z;have a:decide (p.1≠k)=true:=(by simp[e]);have b:decide (q.1≠k)=true:=(by simp[e']);rw[if_pos a,if_pos b];exact .cons ⟨h1,h2⟩ ih
theorem KV.length{kvs:List<|κ×V}{vs:List<|κ×Value}(r:KV kvs vs):kvs.length=vs.length:=Paired.length r
theorem GB(kvs:List<|κ×V)(k:κ):(ot kvs k).length<=kvs.length:=List.length_filter_le _ _
end
theorem kL(r:RelV (kV k) u):(aE P w).is k u=true:=by cases k with|inl i=>(obtain⟨t,e⟩:=(show ∃t,u=Value.int i t from r);subst e;exact wN P w i t)|inr x=>obtain⟨t,e⟩:=(show ∃t,u=Value.str x t from r);subst e;exact jc P w x t
theorem tZ:∀{ks:List Key}{us:List Value},Vals (ks.map kV) us->ItemsAre (aE P w) ks us|[],_,r=>(by rw[List.map_nil]at r;cases r;exact .nil)|k::ks,_,r=>by rw[zJ]at r;cases r with|cons h t=>exact .cons (kL h)<|tZ t
abbrev KT(H:Hp):List (List Key×V)->List (List Key×Addr×Value)->Prop:=Paired λp q=>p.1=q.1/\H q.2.1=some (.tup<|p.1.map kV)/\RelV p.2 q.2.2
theorem KT.val{H:Hp}{kvs:List<|List Key×V}{xs:List<|List Key×Addr×Value}(r:KT H kvs xs)(k:List Key):fY (f9 kvs k) ((atKey xs k).map (·.2)):=by induction r with|nil=>exact True.intro|@cons p q ps qs h t ih=>obtain⟨h1,_,h2⟩:=h;by_cases e:p.1=k;have e':q.1=k:=h1.symm.trans e;have b:atKey (q::qs) k=some q.2:=(by simp[atKey,z0,e']);rw[qv e,b];exact h2;have e':¬q.1=k:=λz=>e<|h1.trans z;have b:atKey (q::qs) k=atKey qs k:=(by simp[atKey,z0,e']);rw[qw e,b];exact ih
section
variable{P:Program}{w:World}{H:Hp}{h:Heap}{a:Addr}
theorem MN(ok:kr P w H h)(e:Rd H a u):aV P w H h a u:=e.ok ok
theorem ox(ok:kr P w H h)(e:Rd H a<|.dK kvs):kvs.length<=sizeLine/\(a==sysModules)=false/\∃vs,KV kvs vs/\h.DictOf (aE P w) a vs:=show aV P w H h a (.dK kvs) from MN ok e
theorem CL(ok:kr P w H h)(e:H a=some (.dK kvs)):kvs.length<=sizeLine/\(a==sysModules)=false/\∃vs,KV kvs vs/\h.DictOf (aE P w) a vs:=ox ok<|.inl e
theorem uV(ok:kr P w H h)(e:H a=some (.tup<|ks.map kV)):(tupleKind<|aE P w).is h ks a:=by obtain⟨_,az,r,o,h1,h2,_,n,h3⟩:=(show aV P w H h a (.tup<|ks.map kV) from ok a _ e);exact{o,az.toArray,n,h1,h2,h3,by simpa using tZ r}
theorem t5(ok:kr P w H h)(e:Rd H a<|.dT kvs):kvs.length<=sizeLine/\(a==sysModules)=false/\∃xs,KT H kvs xs/\h.DictOfH (tupleKind<|aE P w) a xs:=by exact False.elim<|show aV P w H h a (.dT kvs) from MN ok e
end
def ph(H:Hp)(a:Addr)(y:V)(r:Option V):Prop:=(∃kvs k,Rd H a (.dK kvs)/\y=kV k/\r=f9 kvs k)\/∃kvs k b,Rd H a (.dT kvs)/\y=.ref b/\H b=some (.tup<|k.map kV)/\r=f9 kvs k
def GC(H:Hp)(a:Addr)(y v:V)(H':Hp):Prop:=(∃kvs k,H a=some (.dK kvs)/\y=kV k/\kvs.length<sizeLine/\H'=upd H a (.dK<|putK kvs k v))\/∃kvs k b,H a=some (.dT kvs)/\y=.ref b/\H b=some (.tup<|k.map kV)/\kvs.length<sizeLine/\H'=upd H a (.dT<|putK kvs k v)
theorem ph.k{H:Hp}{a:Addr}{kvs:List<|Key×V}{k:Key}(e:H a=some (.dK kvs)):ph H a (kV k) (f9 kvs k):=.inl {kvs,k,.inl e,rfl,rfl}
theorem GC.k{H:Hp}{a:Addr}{kvs:List<|Key×V}{k:Key}{v:V}(e:H a=some (.dK kvs))(hl:kvs.length<sizeLine):GC H a (kV k) v (upd H a<|.dK<|putK kvs k v):=.inl ⟨kvs,k,e,rfl,hl,rfl⟩
section
variable{X:Cx}{pins:List (Addr×Obj)}{σ:St}{H:Hp}{s:Shared}{a:Addr}{y v:V}{u r:Value}{o:Option V}{A:Around}{E:Value->Shared->Prop}
theorem Inv.big(I:Inv X pins σ H s):sysModules<s.heap.objs.size:=by have h:mainGlobals<s.heap.objs.size:=(I.mod.glob.keeps I.bk).lt;exact Nat.lt_trans (by decide) h
theorem Ej(hu:A.units+1<cLine)(I:Inv X pins σ H s)(g:ph H a y<|some v)(ry:RelV y u)(h:∀w' s',Inv X pins σ H s'->RelV v w'->Q w' s'): wpAny (model X.prog X.w) A (getItem (.ref a) u) Q E s:=by rcases g with⟨kvs,k,e,ey,l⟩|⟨kvs,k,b,e,ey,eb,l⟩;subst ey;obtain⟨z,hd,vs,rel,dd⟩:=ox I.aG e;obtain⟨w',hw,m9⟩:=fY.some_of (v:=v) (o:=valueAt vs k) (by rw[l];exact rel.val k);exact wpAny_getItem_of (kL ry) dd.mapOf hw<|h w' _ (I.tok _) m9;subst ey;cases (show u=Value.ref b from ry);obtain⟨z,hd,xs,rel,dd⟩:=t5 I.aG e;obtain⟨w',hw,m9⟩:=fY.some_of (v:=v) (o:=(atKey xs k).map (·.2)) (by rw[l];exact rel.val k);obtain⟨p,hp,lP⟩:=Option.map_eq_some_iff.mp hw;refine wpAny_getItem_heap (tupleKind_room_in1 hu) (uV I.aG eb) dd hp ?_;rw[lP];exact h w' _ (I.tok _) m9
theorem Yc(hu:A.units+1<cLine)(I:Inv X pins σ H s)(g:ph H a y o)(ry:RelV y u)(h:∀s',Inv X pins σ H s'->Q (.bool o.isSome) s'): wpAny (model X.prog X.w) A (compareOp .In u<|.ref a) Q E s:=by rcases g with⟨kvs,k,e,ey,l⟩|⟨kvs,k,b,e,ey,eb,l⟩;subst ey;obtain⟨z,hd,vs,rel,dd⟩:=ox I.aG e;refine wpAny_in_of (kL ry) hd dd.mapOf ?_;rw[<-(rel.val k).ng,<-l];exact h _<|I.tok _;subst ey;cases (show u=Value.ref b from ry);obtain⟨z,hd,xs,rel,dd⟩:=t5 I.aG e;refine wpAny_in_heap (tupleKind_room_in1 hu) (uV I.aG eb) hd dd ?_;have q:=(rel.val k).ng;rw[Option.isSome_map]at q;rw[<-q,<-l];exact h _<|I.tok _
theorem uW(I:Inv X pins σ H s)(mu:Sh<|H a)(hs:Heap.SameBut a s.heap h')(he:∃q,h'.get? a=some q)(new:aV X.prog X.w (upd H a ob) h' a ob): Inv X pins σ (upd H a ob) {s with heap:=h',toks:=t'}:=I.write (x:=a) (e:=a) mu (.inl rfl) (λb q hb z=>(hs.2 b hb).trans z) he new
theorem A3(z:kvs.length<=sizeLine)(hd:(a==sysModules)=false)(rel:KV kvs vs)(dd:h'.DictOf (aE P w) a vs): aV P w H' h' a (.dK kvs):=⟨z,hd,vs,rel,dd⟩
theorem Ek(hu:A.units+1<cLine)(I:Inv X pins σ H s)(g:GC H a y v H')(ry:RelV y u)(rv:RelV v r)(h:∀s',Inv X pins σ H' s'->Q () s'): wpAny (model X.prog X.w) A (setItem (.ref a) u r) Q E s:=by
 rcases g with⟨kvs,k,e,ey,l,eH⟩|⟨kvs,k,b,e,ey,eb,l,eH⟩;subst ey eH;obtain⟨z,hd,vs,rel,dd⟩:=CL I.aG e;have hz:vs.length<=sizeLine:=by rw[<-rel.length];exact z
 have hl:(putK kvs k v).length<=sizeLine:=by have:=ou kvs k v;lia
 refine wpAny_setItem_pairs (hsz:=hz) (kL ry) dd λh' JI hs=>h _ ?_;have he:∃q,h'.get? a=some q:=by obtain⟨q,_,_,hq,_⟩:=JI;exact⟨q,hq⟩
 exact uW I (by rw[e];exact True.intro) hs he<|A3 hl hd (rel.put k rv) JI;exact False.elim<|I.aG _ _ e
end
section
variable{X:Cx}{pins:List (Addr×Obj)}{σ:St}{H:Hp}{s:Shared}{a:Addr}{kvs:List (Key×V)}{k:Key}{u:Value}{A:Around}{E:Value->Shared->Prop}
theorem Tr(I:Inv X pins σ H s)(e:H a=some (.dK kvs))(ry:RelV (kV k) u)(l:f9 kvs k=some v)(hm:more=[]\/∃x,more=[x]) (h:∀w' s',Inv X pins σ (upd H a<|.dK<|ot kvs k) s'->RelV v w'->Q w' s'):wpAny (model X.prog X.w) A (call (.builtin "dict.pop")<|.ref a::u::more) Q E s:=by
 obtain⟨z,hd,vs,rel,dd⟩:=CL I.aG e;obtain⟨w',hw,m9⟩:=fY.some_of (v:=v) (o:=valueAt vs k) (by rw[<-l];exact rel.val k);have hp:(keyPart u).isSome=true:=by cases k with|inl i=>(obtain⟨t,q⟩:=(show ∃t,u=Value.int i t from ry);subst q;rfl)|inr x=>obtain⟨t,q⟩:=(show ∃t,u=Value.str x t from ry);subst q;rfl
 have ha:argsOk "dict.pop" {.ref a::u::more,[]}:=by rcases hm with q|⟨x,q⟩;subst q;exact PySem.F.args_dict_pop_2 _ _;subst q;exact PySem.F.args_dict_pop_3 _ _ _
 refine call_meetsIn PySem.F.slot_dict_pop dd.typeIs PySem.F.entry_dict_pop ha (meets_dict_pop_there (aE X.prog X.w) a (kL ry) more hm hp) {vs,w',dd,by rw[<-rel.length];exact z,hw,λh' JI hs=>h w' _ ?_ m9};have he:∃q,h'.get? a=some q:=by obtain⟨q,_,_,hq,_⟩:=JI;exact⟨q,hq⟩
 exact uW I (by rw[e];exact True.intro) hs he<|A3 (zL (GB kvs k) z) hd (rel.drop k) JI
theorem Ts(I:Inv X pins σ H s)(e:Rd H a<|.dK kvs)(h:∀t s',Inv X pins σ H s'->Q (.int kvs.length t) s'):wpAny (model X.prog X.w) A (call (.builtin "len") [.ref a]) Q E s:=by obtain⟨z,hd,vs,rel,dd⟩:=ox I.aG e;refine call_len_dict hd dd (by rw[<-rel.length];rw[zY]at z;lia) ?_;rw[<-rel.length];exact h _ _<|I.tok _
end
theorem wW(I:Inv X pins σ H s)(g:ph H a y o):s.TypeIs (.ref a) "dict":=by rcases g with⟨kvs,k,e,_,_⟩|⟨kvs,k,b,e,_,_,_⟩;obtain⟨_,_,vs,_,dd⟩:=ox I.aG e;exact dd.typeIs;obtain⟨_,_,xs,_,dd⟩:=t5 I.aG e;exact dd.typeIs
def Tu(td ty tv:TE):TS:=λD σ H=>tv σ H λv H1=>td σ H1 λx H2=>ty σ H2 λy H3=>∃a H4,x=.ref a/\GC H3 a y v H4/\D.nx σ H4
section
variable{X:Cx}{o i value:Expr}{pos pos':Pos}{td ty tv:TE}
theorem Kk(hu:X.A.units+1<cLine)(ho:PE X o td)(hi:PE X i ty)(hv:PE X value tv)(hs:swapsWith value (some<|.Subscript o i pos') pos.line X.env=pure false): PS X (.Assign [.Subscript o i pos'] value pos) (Tu td ty tv):=by intro pins s σ H D I h;refine wpAny_Assign_Subscript (aX (hv pins s σ H _ I h) λr s1 ⟨v,H1,I1,rv,q1⟩=>aX (ho pins s1 σ H1 _ I1 q1) λu s2 ⟨x,H2,I2,rx,q2⟩=>aX (hi pins s2 σ H2 _ I2 q2) λiv s3 ⟨y,H3,I3,ry,a,H4,ex,g,q3⟩=>?_) hs;subst ex;obtain rfl:u=Value.ref a:=rx;exact Ek hu I3 g ry rv λs4 I4=>⟨σ,H4,I4,q3⟩
end
theorem GF(h:Heap)(hb:sysModules<h.objs.size):aV P w H (h.push {cls:=.type "dict",data:=.dict #[]}) h.objs.size (.dK []):={zZ _,beq_eq_false_iff_ne.mpr<|Ne.symm<|zy hb,[],.nil,Heap.DictOf.new h}
def OR:TE:=λ_ H Q=>∀p,H p=none->Q (.ref p) (upd H p<|.dK [])
section
variable{X:Cx}{pos:Pos}
theorem GG:PE X (.Dict [] [] pos) OR:=λpins s σ H Q I h=>wpAny_Dict_empty {.ref s.heap.objs.size,_,I.laid (a:=s.heap.objs.size) (o:=.dK []) (t':=s.toks) (λ_ _ q=>za _ q) (zo _)<|GF s.heap I.big,rfl,h _<|I.aG.fresh<|zo _}
end
structure M1(X:Cx)(o:Expr)(m:Str)(apos:Pos)(e:Expr)(aN:Pos):Prop where
 base:attributeBase o m X.env (eval o X.env)=eval o X.env
 FO:((backTo aN<|starEach [e] X.env).all (λx=>!x.1)&&(backToKw aN<|keywordEach [] X.env).all (λx=>x.1.isSome)
  && decide (([e]:List Expr).length+([]:List Keyword).length+(if ([]:List Keyword).isEmpty then 0 else 1)<30))=true
 line:(apos.endLine==aN.line)=true
 trees:backTo aN (starEach [e] X.env)=[(false,eval e X.env)]
structure M2(X:Cx)(o:Expr)(m:Str)(apos:Pos)(e f:Expr)(aN:Pos):Prop where
 base:attributeBase o m X.env (eval o X.env)=eval o X.env
 FO:((backTo aN<|starEach [e,f] X.env).all (λx=>!x.1)&&(backToKw aN<|keywordEach [] X.env).all (λx=>x.1.isSome)
  && decide (([e,f]:List Expr).length+([]:List Keyword).length+(if ([]:List Keyword).isEmpty then 0 else 1)<30))=true
 line:(apos.endLine==aN.line)=true
 trees:backTo aN (starEach [e,f] X.env)=[(false,eval e X.env),(false,eval f X.env)]
def Rw(H:Hp)(a:Addr):Prop:=(∃kvs,Rd H a<|.dK kvs)\/∃kvs,Rd H a<|.dT kvs
theorem uX(I:Inv X pins σ H s)(d:Rw H a): s.TypeIs (.ref a) "dict"/\(∀b,Value.ref a=.ref b->∃ob,s.heap.get? b=some ob/\ob.dict=none)/\(a==sysModules)=false:=by rcases d with⟨kvs,e⟩|⟨kvs,e⟩;obtain⟨_,hd,vs,_,dd⟩:=ox I.aG e;refine{dd.typeIs,λb q=>?_,hd};cases q;obtain⟨ob,_,_,h1,h2,_⟩:=dd;exact⟨ob,h1,h2.2.1⟩;obtain⟨_,hd,xs,_,dd⟩:=t5 I.aG e;refine{dd.typeIs,λb q=>?_,hd};cases q;obtain⟨ob,_,_,h1,h2,_⟩:=dd;exact⟨ob,h1,h2.2.1⟩
section
variable{X:Cx}{pins:List (Addr×Obj)}{σ:St}{H:Hp}{s:Shared}{a:Addr}{y d:V}{u r:Value}{o:Option V}{A:Around}{E:Value->Shared->Prop}
theorem OS(hu:A.units+1<cLine)(I:Inv X pins σ H s)(g:ph H a y o)(ry:RelV y u)(h:∀w' s',Inv X pins σ H s'->RelV (o.getD .ao) w'->Q w' s'): wpAny (model X.prog X.w) A (call (.builtin "dict.get") [.ref a,u]) Q E s:=by rcases g with⟨kvs,k,e,ey,l⟩|⟨kvs,k,b,e,ey,eb,l⟩;subst ey;obtain⟨z,hd,vs,rel,dd⟩:=ox I.aG e;refine call_meetsIn yu dd.typeIs PySem.F.entry_dict_get (PySem.F.args_dict_get_2 _ _) (meets_dict_get (aE X.prog X.w) a (kL ry) hd) {_,dd.mapOf,h _ _ (I.tok _) ?_};rw[l];exact(rel.val k).getD rfl;subst ey;cases (show u=Value.ref b from ry);obtain⟨z,hd,xs,rel,dd⟩:=t5 I.aG e;refine call_meetsIn yu dd.typeIs PySem.F.entry_dict_get (PySem.F.args_dict_get_2 _ _) (meetsH_dict_get (tupleKind<|aE X.prog X.w) a b hd) {tupleKind_room_in1 hu,k,xs,uV I.aG eb,dd,h _ _ (I.tok _) ?_};rw[l];exact(rel.val k).getD rfl
theorem OT(hu:A.units+1<cLine)(I:Inv X pins σ H s)(g:ph H a y o)(ry:RelV y u)(rd:RelV d r)(h:∀w' s',Inv X pins σ H s'->RelV (o.getD d) w'->Q w' s'): wpAny (model X.prog X.w) A (call (.builtin "dict.get") [.ref a,u,r]) Q E s:=by rcases g with⟨kvs,k,e,ey,l⟩|⟨kvs,k,b,e,ey,eb,l⟩;subst ey;obtain⟨z,hd,vs,rel,dd⟩:=ox I.aG e;refine call_meetsIn yu dd.typeIs PySem.F.entry_dict_get (PySem.F.args_dict_get_3 _ _ _) (meets_dict_get_default (aE X.prog X.w) a (kL ry) hd r) {_,dd.mapOf,h _ _ (I.tok _) ?_};rw[l];exact(rel.val k).getD rd;subst ey;cases (show u=Value.ref b from ry);obtain⟨z,hd,xs,rel,dd⟩:=t5 I.aG e;refine call_meetsIn yu dd.typeIs PySem.F.entry_dict_get (PySem.F.args_dict_get_3 _ _ _) (meetsH_dict_get_default (tupleKind<|aE X.prog X.w) a b hd r) {tupleKind_room_in1 hu,k,xs,uV I.aG eb,dd,h _ _ (I.tok _) ?_};rw[l];exact(rel.val k).getD rd
end
def OU(td ty:TE):TE:=λσ H Q=>td σ H λx H1=>∃a,x=.ref a/\Rw H1 a/\ty σ H1 λy H2=>∃o,ph H2 a y o/\Q (o.getD .ao) H2
def OV(td ty tx:TE):TE:=λσ H Q=>td σ H λx H1=>∃a,x=.ref a/\Rw H1 a/\ty σ H1 λy H2=>tx σ H2 λz H3=>∃o,ph H3 a y o/\Q (o.getD z) H3
def OW(td ty:TE):TE:=λσ H Q=>td σ H λx H1=>∃a,x=.ref a/\Rw H1 a/\ty σ H1 λy H2=>∃kvs k v,H2 a=some (.dK kvs)/\y=kV k/\f9 kvs k=some v/\Q v (upd H2 a<|.dK<|ot kvs k)
section
variable{X:Cx}{o e f:Expr}{apos aN:Pos}{td ty tx:TE}
theorem GH(hu:X.A.units+1<cLine)(ho:PE X o td)(he:PE X e ty)(m:M1 X o "get" apos e aN):PE X (.Call (.Attribute o "get" apos) [e] [] aN) (OU td ty):=by intro pins s σ H Q I h;refine wpAny_Call_method m.base m.FO m.line PySem.F.plainAttrs_dict yu PySem.F.type_dict_get<|aX (ho pins s σ H _ I h) λu s1 ⟨x,H1,I1,rx,a,ex,d,q1⟩=>?_;subst ex;obtain rfl:u=Value.ref a:=rx;obtain⟨t1,t2,_⟩:=uX I1 d;refine{t1,t2,?_};rw[m.trees];refine Calls.callWith_builtin rfl<|Calls.evalArgs_plain<|yC<|aX (he pins s1 σ H1 _ I1 q1) λiv s2 ⟨y,H2,I2,ry,ov,g,q2⟩=>Calls.spliced_nil ?_;exact OS hu I2 g ry λw' s3 I3 m9=>{_,H2,I3,m9,q2}
theorem GI(hu:X.A.units+1<cLine)(ho:PE X o td)(he:PE X e ty)(hf:PE X f tx)(m:M2 X o "get" apos e f aN):PE X (.Call (.Attribute o "get" apos) [e,f] [] aN) (OV td ty tx):=by intro pins s σ H Q I h;refine wpAny_Call_method m.base m.FO m.line PySem.F.plainAttrs_dict yu PySem.F.type_dict_get<|aX (ho pins s σ H _ I h) λu s1 ⟨x,H1,I1,rx,a,ex,d,q1⟩=>?_;subst ex;obtain rfl:u=Value.ref a:=rx;obtain⟨t1,t2,_⟩:=uX I1 d;refine{t1,t2,?_};rw[m.trees];refine Calls.callWith_builtin rfl<|Calls.evalArgs_plain<|yC<|aX (he pins s1 σ H1 _ I1 q1) λiv s2 ⟨y,H2,I2,ry,q2⟩=>yC<|aX (hf pins s2 σ H2 _ I2 q2) λfv s3 ⟨z,H3,I3,rz,ov,g,q3⟩=>Calls.spliced_nil ?_;exact OT hu I3 g ry rz λw' s4 I4 m9=>{_,H3,I4,m9,q3}
theorem GJ(ho:PE X o td)(he:PE X e ty)(m:M1 X o "pop" apos e aN):PE X (.Call (.Attribute o "pop" apos) [e] [] aN) (OW td ty):=by intro pins s σ H Q I h;refine wpAny_Call_method m.base m.FO m.line PySem.F.plainAttrs_dict PySem.F.slot_dict_pop PySem.F.type_dict_pop<|aX (ho pins s σ H _ I h) λu s1 ⟨x,H1,I1,rx,a,ex,d,q1⟩=>?_;subst ex;obtain rfl:u=Value.ref a:=rx;obtain⟨t1,t2,_⟩:=uX I1 d;refine{t1,t2,?_};rw[m.trees];refine Calls.callWith_builtin rfl<|Calls.evalArgs_plain<|yC<|aX (he pins s1 σ H1 _ I1 q1) λiv s2 ⟨y,H2,I2,ry,kvs,k,v,ea,ey,l,q2⟩=>Calls.spliced_nil ?_;subst ey;exact Tr I2 ea ry l (.inl rfl) λw' s3 I3 m9=>{v,_,I3,m9,q2}
end
end L2
namespace Att
open PySem PySem.W PySem.Calls PyProof.Rows
theorem pj{P:Params} : ∀(ns:List Int)(vs:List Value),WellAll P h vs (ns.map WData.int)->IntsAre vs ns:=by intro ns;induction ns with|nil=>(intro vs w;rw[List.map_nil]at w;cases w;exact .nil)|cons n ns ih=>intro vs w;rw[zJ]at w;cases w with|cons a b=>cases a;exact .cons _ _<|ih _ b
theorem El{l:OpenLaw}{n:Nat}(hn:l.most=some n){P:Params}{h:Heap}{args:List WData}{vals:List Value} (Kl:l.row.toRowW.claim.pre args=true) (Yd:WellAll P h vals args): ∃a vs ns,vals=[Value.ref a]/\args=[WData.list<|ns.map WData.int]/\h.get? a=some {cls:=.type "list",data:=.seq vs.toArray}/\IntsAre vs ns/\ns.length<=n:=by
 have hsh:WShape.hasAll [] args [.list .int]=true:=(pre_splitW Kl).1;have hc:l.pre.holds [] {args:=args}=true:=(pre_splitW Kl).2;obtain⟨d,r,rfl,h1,h2⟩:=hasAllW_cons hsh;obtain rfl:=hasAllW_nil h2;obtain⟨xs,rfl,h3⟩:=hasW_list h1;obtain⟨ns,rfl⟩:=items_int h3;have hlen:ns.length<=n:=by unfold OpenLaw.pre at hc;have h4:(WTm.not<|.lt (.lit<|.int (n:Int))<|.len<|.arg 0).holds [] {args:=[.list<|ns.map .int]}=true:=(by have h4:=(holds_andW hc).1;rw[hn]at h4;exact h4);have h5:=condW_of h4<|w_not<|w_lt w_lit<|w_len_list<|w_arg rfl;rw[zc]at h5;refine Nat.le_of_not_lt λq=>?_;have q':(n:Int)<((ns.length:Nat):Int):=(by lia);first| (rw[zx q']at h5;exact absurd h5<|by decide)| (simp at h5;lia)
 cases Yd with|cons w1 w2=>cases w2;cases w1 with|list ho Ye=>exact{_,_,ns,rfl,rfl,ho,pj ns _ Ye,hlen}
theorem Em(l:OpenLaw)(args:List WData):l.row.toRowW.claim.post args (.bool true) args=true:=postW_of (r:=l.row.toRowW) (X:=(true==true)) (show WShape.has [] (.bool true) .bool=true by first|rfl|decide|simp[WShape.has,WShape.arms,WShape.armsAll]) (show(WTm.eq .res<|.lit<|.bool true).value [] {args:=args,res:=some<|.bool true,after:=args}=some (.bool<|true==true) from w_eq_bool (w_res rfl) w_lit) rfl
theorem wX{l:OpenLaw}{n:Nat}{q:Program}{loose:List Str}{XP:(Str->Option Value)->Heap->Prop}{YP:World->Heap->Prop}{d:DefRec} (hn:l.most=some n) (Yf:d.params.defaults=[]) (call:∀(w:World)(cZ aU:Shared)(mg mb:Str->Option Value)(fa:Addr)(o:Obj)(pm cd doc:Value)(a:Addr)(vs:List Value)(ns:List Int),Ground q loose [] XP w cZ mg mb aU.heap->YP w aU.heap->aU.heap.get? fa=some o->o.data=.func (docDef d.name d.params d.body d.scope pm cd doc)->aU.heap.CodeRec cd d.name->mg d.name=some (.ref fa)->aU.heap.get? a=some {cls:=.type "list",data:=.seq vs.toArray}->IntsAre vs ns->ns.length<=n->aU.gens=#[]->codeAny (model l.prog w) callerA (.call (.ref fa) {[.ref a],[]}) (λr s'=>r=.ok (.ret<|.bool true)/\OldK aU.heap s'.heap/\s'.os=aU.os/\AllBare s'.gens) aU): WalkO q loose XP YP l.row.toRowW d [] (λf vs=>PySem.call f vs):=by intro w cZ aU mg mb G Y fa o pm cd doc dV kV ho hd pT hD OX hg args vals as Kl acP hrd Yd hlo;obtain rfl:dV=.none:=Dflts.none hD Yf;obtain rfl:kV=.none:=Dflts.noKw hD;obtain⟨a,vs,ns,rfl,rfl,OY,hints,hlen⟩:=El hn Kl Yd;refine enter_call<|yN (call w cZ aU mg mb fa o pm cd doc a vs ns G Y ho (fd_plain hd) pT OX OY hints hlen hg) λr s' hq=>?_;obtain⟨rfl,h2,h3,h4⟩:=hq;exact{.inl {.bool true,.bool true,[],rfl,λ_=>rfl,.bool true,Em l _,λ_=>{List.Pairwise.nil,λ_ hm=>(nomatch hm)}},h2,h3,h4}
end Att
namespace L2
open PySem PySem.Spec PyProof.Rows
theorem t6:∀{vs:List Value}{ns:List Int},IntsAre vs ns->Vals (ns.map V.int) vs|_,_,.nil=>.nil|_,_,.cons n t h=>.cons ⟨t,rfl⟩<|t6 h
def inClass(s:Stmt)(j:Nat):Stmt:=match s with|.ClassDef _ _ _ body _ _ _ _ _ _ _=>body.getD j (.Pass {0,0,0,0})|_=>.Pass {0,0,0,0}
def bu(s:Stmt):Arguments:=match s with|.FunctionDef _ a _ _ _ _ _ _ _ _=>a|_=>{posonlyargs:=[],args:=[],vararg:=none,kwonlyargs:=[],kw_defaults:=[],kwarg:=none,defaults:=[]}
def aW(s:Stmt):List Stmt:=match s with|.FunctionDef _ _ b _ _ _ _ _ _ _=>b|_=>[]
def ae(s:Stmt):Scope:=match s with|.FunctionDef _ _ _ _ _ _ sc _ _ _=>sc|_=>{kind:=.function,names:=[],isGenerator:=false,isCoroutine:=false}
abbrev Wy:AW:=λ_ _ _ _ _ _=>False
abbrev E0:XK:=λ_ _ _=>False
structure Fun(K:Frag)(x qual:Str)(st:Stmt)(f:Addr)(fd:FuncData):Prop where
 ex:∃(oc:Value)(od:Option Addr)(kV doc pm:Value)(an:Option Addr)(eL ct:Value)(ML:Array (Option Value)),
  fd=fnOf x qual (bu st) (aW st) (ae st) .none kV doc pm an eL ct/\K.lookup f=some {oc,od,.func fd,ML}/\codeIn K eL qual=true
 kp:keepIn K (.ref f)=true
theorem jZ(h:n<=1000):n<sizeLine:=Nat.lt_of_le_of_lt h<|by decide
section
variable{X:Cx}
theorem En:dy X (.builtin "len") (λxs H Q=>∃a kvs,xs=[V.ref a]/\H a=some (.dK kvs)/\Q (.int kvs.length) H):=by intro pins s σ H xs us Q I r h;obtain⟨a,kvs,rfl,ha,q⟩:=h;obtain⟨u,rfl,ru⟩:=vals1 r;cases ru;exact Ts I (.inl ha) λt s' I'=>{.int kvs.length,H,I',⟨t,rfl⟩,q}
end
theorem bY{A B:Prop}(h:B):if false=true then A else B:=by rw[if_neg zd];exact h
theorem cw{A B:Prop}(h:A):if true=true then A else B:=by rw[if_pos rfl];exact h
section
variable{κ:Type}[DecidableEq κ]
theorem lY:∀{l:List κ}{k:κ},l.Nodup->¬k∈l->(l++[k]).Nodup|[],k,_,_=>by simp|a::r,k,h,hk=>by obtain⟨h1,h2⟩:=yn.mp h;show(a::(r++[k])).Nodup;refine yn.mpr {λm=>?_,lY h2 λm=>hk<|zf.mpr<|Or.inr m};rcases zR.mp m with q|q;exact h1 q;exact hk<|zf.mpr<|Or.inl (zu.mp q).symm
end
end L2
set_option maxHeartbeats 4000000
namespace L2
open PySem PySem.Spec PyProof.Rows
section
variable{X:Cx}
noncomputable def FP(i j:Str):Bool:=!decide (j.cps.toList<i.cps.toList)
noncomputable def t9(i j:Str):Bool:=decide<|i.cps.toList<j.cps.toList
def Yg(g:Str->Str->Bool):R2:=λx y H Q=>∃i j,x=.str i/\y=.str j/\Q (.bl<|g i j) H
theorem Eo:gN X (compareOp .LtE) (Yg FP):=by intro pins s σ H x y v u Q I rx ry h;obtain⟨i,j,rfl,rfl,q⟩:=h;obtain⟨t,rfl⟩:=rx;obtain⟨t',rfl⟩:=ry;exact P.le_str<|aH I q rfl
theorem Ep:gN X (compareOp .GtE) (Yg λi j=>FP j i):=by intro pins s σ H x y v u Q I rx ry h;obtain⟨i,j,rfl,rfl,q⟩:=h;obtain⟨t,rfl⟩:=rx;obtain⟨t',rfl⟩:=ry;exact P.ge_str<|aH I q rfl
theorem Er:gN X (compareOp .Gt) (Yg λi j=>t9 j i):=by intro pins s σ H x y v u Q I rx ry h;obtain⟨i,j,rfl,rfl,q⟩:=h;obtain⟨t,rfl⟩:=rx;obtain⟨t',rfl⟩:=ry;exact P.gt_str<|aH I q rfl
def GK(_ j:Int):Prop:=0<j/\j.natAbs.log2<9000
theorem GL:gN X (binaryOp .FloorDiv) (rI GK λi j=>.int<|i/j):=Wt λi j _ _ _ _ _ hc q=>by
 have hj:j≠0:=by have:=hc.1;omega
 exact floordiv_int hj (by rw[Int.fdiv_eq_ediv_of_nonneg _<|by have:=hc.1;omega];exact q)<|.inl<|PyProof.noPylong_of_log2 hc.2
end
noncomputable def Yh(x:Str):It:={λi _=>i<x.cps.size,λi H v H'=>H'=H/\∃c,x.cps[i]?=some c/\v=.str ⟨#[c]⟩,λi _=>x.cps.size<=i}
theorem wY{P:Program}{w:World}{K:Frag}{tg:Expr}{T:String}(hT:["enumerate","zip","dict_itemiterator","dict_reverseitemiterator","odict_iterator","itertools.zip_longest","itertools.pairwise"].contains T=false)(it:Addr)(x:Str)(t:Tok)
  (W:∀A':Around,A'.handled=none->Walks P w A' it [it] [it] x.cps.size (SignAt x) (λi h=>h.IsStrIter it T x t i))
  (Yi:∀(A:Around)(s:Shared)(E:Value->Shared->Prop)(i:Nat)(Q:Option Value->Shared->Prop),A.handled=none->s.heap.IsStrIter it T x t i->x.cps[i]?=none->(∀h',Heap.ExtBut it s.heap h'->Q none {s with heap:=h'})->wpAny (model P w) A (pyNext<|.ref it) Q E s)
  (Tv:∀(A:Around)(s:Shared)(E:Value->Shared->Prop)(i:Nat)(Q:Value->Shared->Prop),s.heap.IsStrIter it T x t i->Q (.ref it) s->wpAny (model P w) A (pyIter<|.ref it) Q E s):
  Turn P w K tg (Yh x) [it] it (λi h=>h.IsStrIter it T x t i) where
 mem:=by simp
 obj:=λi h st b hb=>by
  have e:b=it:=by simpa using hb
  subst e
  obtain⟨o,e,c,d⟩:=st
  exact{o,e,λv z=>by rw[d]at z;cases z}
 keep:=λi h h' st k=>by
  obtain⟨o,e,c,d⟩:=st
  exact{o,k it (by simp) o e,c,d}
 item:=by
  intro X hP hw hK hc i pins s σ H E I hf st hg
  subst hP hw hK
  obtain⟨f0,f1,f2,f3,f4,f5⟩:=hf it<|by simp
  refine(W X.A<|I.ok.hd hc).item i s _ _ hg st λv h' tk hv eW kk=>?_
  obtain⟨c,u,Km,rfl⟩:=hv
  have I1:Inv X pins σ H {s with heap:=h',toks:=tk}:=I.turned (λb o hb e=>kk b o (by simpa using hb) e) f0 f1 f3 f4 f5
  obtain⟨o,e,c',d⟩:=id eW
  exact{_,rfl,tQ (s:={s with heap:=h',toks:=tk}) e c' d hT {.str ⟨#[c]⟩,H,I1,⟨u,rfl⟩,⟨rfl,c,Km,rfl⟩,eW,λb hb=>(hf b hb).1}}
 done:=by
  intro X hP hw hK hc i pins s σ H E I hf st hg
  subst hP hw hK
  obtain⟨f0,f1,f2,f3,f4,f5⟩:=hf it<|by simp
  have hg:x.cps.size<=i:=hg
  exact Yi X.A s E i _ (I.ok.hd hc) st (by simp;exact hg) λh' eb=>{rfl,I.turned (t':=s.toks) (λb o hb e=>eb b o hb e) f0 f1 f3 f4 f5}
 self:=λA' i s Q E st h=>Tv A' s E i Q st h
section
variable{X:Cx}{tg:Expr}
def Yj(tl:TE):TI:=λσ H R=>tl σ H λx H1=>∃z,x=.str z/\R (Yh z) H1
theorem OZ(hl:PE X l tl):PI X tg l (Yj tl):=by
 intro pins s σ H R I h;refine aX (hl pins s σ H _ I h) λv s1 ⟨x,H1,I1,r1,q1⟩=>?_;obtain⟨z,e,q⟩:=q1;subst e;obtain⟨t,rfl⟩:=r1;have fin:∀(T:String)(_:Turn X.prog X.w X.K tg (Yh z) [s1.heap.objs.size] s1.heap.objs.size (λi h=>h.IsStrIter s1.heap.objs.size T z t i)),XJ X pins σ tg R (.ref s1.heap.objs.size) {s1 with heap:=s1.heap.push {cls:=.type T,data:=.fields #[.str z t,.int 0 0]}}:=λT tn=>by refine{s1.heap.objs.size,[s1.heap.objs.size],_,_,H1,rfl,I1.kept (t':=s1.toks) λb o e=>za _ e,tn,{_,zk _ rfl,rfl,rfl},λb hb=>?_,q};have e:b=s1.heap.objs.size:=(by simpa using hb);subst e;exact I1.pe (zo _)<|I1.aG.fresh<|zo _
 cases ha:z.cps.all (·<128);exact wpAny_pyIter_wide ha<|fin _<|wY (by decide) _ z t (λA' hA=>Walks.strWide hA _ z t) (λA s E i Q hh st hx hQ=>wpAny_pyNext_wide_end hh st hx hQ) λA s E i Q st hq=>wpAny_pyIter_striter_wide st hq;exact wpAny_pyIter_ascii ha<|fin _<|wY (by decide) _ z t (λA' hA=>Walks.strAscii hA _ z t) (λA s E i Q hh st hx hQ=>wpAny_pyNext_ascii_end hh st hx hQ) λA s E i Q st hq=>wpAny_pyIter_striter_ascii st hq
end
noncomputable def clOf(cells:List<|Str×Addr)(names:List<|Str×NameKind):List (Str×Addr):=names.foldl (λcs p=>if p.2==.free then match cells.lookup p.1 with|some a=>(p.1,a)::cs|none=>cs else cs) []
theorem qx(cells:List<|Str×Addr):∀(names:List (Str×NameKind))(cs:List (Str×Addr)),(∀x c,cs.lookup x=some c->cells.lookup x=some c)->∀x c,(names.foldl (λcs p=>if p.2==.free then match cells.lookup p.1 with|some a=>(p.1,a)::cs|none=>cs else cs) cs).lookup x=some c->cells.lookup x=some c|[],cs,h=>h| (n,k)::r,cs,h=>by rw[yG];refine qx cells r _ λx c e=>?_;dsimp only at e;split at e;split at e;rename_i a ha;rw[zN]at e;split at e;rename_i hx;have:=LawfulBEq.eq_of_beq hx;cases e;rw[this];exact ha;exact h x c e;exact h x c e;exact h x c e
theorem t_(cells:List<|Str×Addr):∀(names:List (Str×NameKind))(cs:List (Str×Addr))(x:Str)(c:Addr),(∀y c,cs.lookup y=some c->cells.lookup y=some c)->cs.lookup x=some c->(names.foldl (λcs p=>if p.2==.free then match cells.lookup p.1 with|some a=>(p.1,a)::cs|none=>cs else cs) cs).lookup x=some c
 |[],cs,x,c,_,h=>h
 | (n,k)::r,cs,x,c,hs,h=>by
  rw[yG];have Wz:∀y c,(if (k==NameKind.free)=true then match cells.lookup n with|some a=>(n,a)::cs|none=>cs else cs).lookup y=some c->cells.lookup y=some c:=by intro y c e;split at e;split at e;rename_i a ha;rw[zN]at e;split at e;rename_i hx;have:=LawfulBEq.eq_of_beq hx;cases e;rw[this];exact ha;exact hs y c e;exact hs y c e;exact hs y c e
  refine t_ cells r _ x c Wz ?_;dsimp only;split;split;rename_i a ha;rw[zN];split;rename_i hx;have:=LawfulBEq.eq_of_beq hx;rw[this]at h;have:=hs _ _ h;rw[ha]at this;exact this;exact h;exact h;exact h
theorem jg(cells:List<|Str×Addr):∀(names:List (Str×NameKind))(cs:List (Str×Addr))(x:Str)(c:Addr),(∀y c,cs.lookup y=some c->cells.lookup y=some c)->(x,NameKind.free)∈names->cells.lookup x=some c->(names.foldl (λcs p=>if p.2==.free then match cells.lookup p.1 with|some a=>(p.1,a)::cs|none=>cs else cs) cs).lookup x=some c
 |[],cs,x,c,_,h,_=>nomatch h
 | (n,k)::r,cs,x,c,hs,h,hc=>by
  rw[yG];have Wz:∀y c,(if (k==NameKind.free)=true then match cells.lookup n with|some a=>(n,a)::cs|none=>cs else cs).lookup y=some c->cells.lookup y=some c:=by intro y c e;split at e;split at e;rename_i a ha;rw[zN]at e;split at e;rename_i hx;have:=LawfulBEq.eq_of_beq hx;cases e;rw[this];exact ha;exact hs y c e;exact hs y c e;exact hs y c e
  rcases zf.mp h with e|h;cases e;refine t_ cells r _ _ c Wz ?_;dsimp only;rw[if_pos<|show(NameKind.free==NameKind.free)=true by decide,hc];simp[zN];exact jg cells r _ x c Wz h hc
theorem gB{scope:Scope}{env:Env}(h:∀x∈scope.names,x.2=.free->∃c,env.cells.lookup x.1=some c):closureFor scope env=pure (clOf env.cells scope.names):=by
 have go:∀(names:List (Str×NameKind))(cs:List (Str×Addr)),(∀x∈names,x.2=.free->∃c,env.cells.lookup x.1=some c)->(forIn names cs λx r=>match x with|(name,kind)=>if (kind==NameKind.free)=true then do let a <-cellOf env name;pure (ForInStep.yield<|(name,a)::r) else pure (ForInStep.yield r):Sem (List<|Str×Addr))=pure (names.foldl (λcs p=>if p.2==.free then match env.cells.lookup p.1 with|some a=>(p.1,a)::cs|none=>cs else cs) cs):=by intro names;induction names with|nil=>intro cs _;rfl|cons p r ih=>intro cs hp;obtain⟨n,k⟩:=p;rw[List.forIn_cons,yG];by_cases hk:k=.free;subst hk;obtain⟨c,hc⟩:=hp _ zp rfl;have hc:env.cells.lookup n=some c:=hc;have e1:cellOf env n=pure c:=(by unfold cellOf;rw[hc]);have ef:(NameKind.free==NameKind.free)=true:=(by decide);dsimp only;rw[if_pos ef,if_pos ef,e1,hc];exact ih _ λx hx=>hp x<|zh _ hx;have O0:(k==NameKind.free)=false:=(by simpa using hk);dsimp only;rw[O0,if_neg zd,if_neg zd];exact ih _ λx hx=>hp x<|zh _ hx
 have e:=go scope.names [] h;have e2:closureFor scope env=(forIn scope.names [] (λx r=>match x with|(name,kind)=>if (kind==NameKind.free)=true then do let a <-cellOf env name;pure (ForInStep.yield<|(name,a)::r) else pure (ForInStep.yield r)):Sem (List<|Str×Addr)) >>=λcs=>pure cs:=rfl;rw[e2,e];rfl
theorem jh{env:Env}{names:List<|Str×NameKind}{x:Str} : (names.map λ(n,k)=>if (k==NameKind.free&&env.scope.kind==.function&&env.kindOf n==some .cell) then (n,NameKind.cell) else (n,k)).lookup x=(names.lookup x).map λk=>if (k==NameKind.free&&env.scope.kind==.function&&env.kindOf x==some .cell) then NameKind.cell else k:=by induction names with|nil=>rfl|cons p r ih=>obtain⟨n,k⟩:=p;rw[zJ,zN];by_cases hc:(k==NameKind.free&&env.scope.kind==.function&&env.kindOf n==some .cell)=true;dsimp only;rw[if_pos hc,zN];(cases hx:x==n with|true=>have:=LawfulBEq.eq_of_beq hx;subst this;dsimp only[Option.map];rw[if_pos hc]|false=>exact ih);dsimp only;rw[if_neg hc,zN];cases hx:x==n with|true=>have:=LawfulBEq.eq_of_beq hx;subst this;dsimp only[Option.map];rw[if_neg hc]|false=>exact ih
noncomputable def iQ(X:Cx)(N:List Str)(scope:Scope)(C:Addr)(s:Shared)(H:Hp)(ex:List Addr)(pn:List<|Addr×Obj):Cx:={X with N:=N,cZ:=s,uO:=H,env:=compEnvC scope (clOf X.env.cells scope.names) C X.env,outer:=X.stack,ex:=ex,fn:=λ_=>false,pn:=pn,xe:=λ_ _=>False}
noncomputable def pick(σ:St)(src:List<|Option Nat):St:=src.map λo=>match o with|some j=>(σ[j]?).join|none=>none
structure bA(X:Cx)(N:List Str)(src:List (Option Nat))(scope:Scope):Prop where
 kind:scope.kind=.function
 gC:∀y∈scope.names,y.2≠.cell
 loc:∀y∈scope.names,y.2=.local->scope.names.lookup y.1=some .local
 As:∀y∈scope.names,y.2=.free->X.env.kindOf y.1=some .cell\/X.env.kindOf y.1=some .free
 len:src.length=N.length
 src:∀(i j:Nat)(x:Str),src[i]?=some (some j)->N[i]?=some x->X.N[j]?=some x/\scope.names.lookup x=some .free/\NY X.env.scope x
def Ext(σ av:St):Prop:=av.length=σ.length/\∀(j:Nat) v,σ[j]?=some (some v)->av[j]?=some (some v)
def A4(g:TG)(src:List<|Option Nat):Prop:=∀x σ H Q,g x (pick σ src) H Q->g x (pick σ src) H λav H'=>Ext (pick σ src) av/\Q av H'
def GN(wi:TI)(src:List<|Option Nat)(g:TG)(tc:TT)(te:TE):TE:=λσ H Q=>wi σ H λJ H1=>∃W:Nat->Nat->List V->Hp->Prop,(∃m,W 0 m [] H1)/\∀i m out H',W i m out H'->(J.stop i H'/\∀D,H' D=none->Q (.ref D) (upd H' D<|.lst out))\/(J.go i H'/\out.length<sizeLine/\∀x H2,J.Sw i H' x H2->g x (pick σ src) H2 λi7 H3=>tc i7 H3 λb H4=>if b=true then te i7 H4 λv H5=>∃m',m'<m/\W (i+1) m' (out++[v]) H5 else ∃m',m'<m/\W (i+1) m' out H4)
section
variable{X:Cx}{N:List Str}{src:List (Option Nat)}{scope:Scope}{tg iter elt:Expr}{ifs:List Expr}{pos:Pos}{wi:TI}{g:TG}{tc:TT}{te:TE}
def Rx(X:Cx)(ifs:List Expr)(t:TT):Prop:=∀(pins:List (Addr×Obj))(s:Shared)(σ:St)(H:Hp)(Q:Bool->Hp->Prop),Inv X pins σ H s->t σ H Q->wpAny (model X.prog X.w) X.A (forIn ifs true λc r=>if r=true then do let ok <-isTrue c X.env (eval c X.env);pure (ForInStep.yield ok) else pure (ForInStep.yield r)) (TP X pins σ Q) X.xe s
def Tw:TT:=λ_ H Q=>Q true H
theorem Ko:Rx X [] Tw:=λpins s σ H Q I h=>wpAny_tests_nil ⟨H,I,h⟩
theorem Kq{t:TT}(h:PT X c t):Rx X [c] t:=λpins s σ H Q I hw=>wpAny_tests_one<|h pins s σ H Q I hw
theorem kx(Ry:∀x s',EE x s'->notedBy (model prog w) A env (λe s'=>R (.error e) s') x s')(I:Nat->Shared->Prop)
  (turn:∀n s,I n s->wpAny (model prog w) A (pyNext it) (λr aU=>match r with
   |none=>R (.ok .next) aU
   |some v=>wpAny (model prog w) A (letOwnedTupleGo target it v) (λ_ MO=>wpAny (model prog w) A (assign target env v) (λ_ bM =>
     wpAny (model prog w) A (forIn ifs true λc r=>if r=true then do let ok <-isTrue c env (eval c env);pure (ForInStep.yield ok) else pure (ForInStep.yield r)) (λok AJ =>
      if ok=true then wpAny (model prog w) A (eval elt env) (λx wZ =>
       wpAny (model prog w) A (call (.builtin "list.append") [acc,x]) (λ_ Tx=>∃m,m<n/\I m Tx) EE wZ) EE AJ
      else ∃m,m<n/\I m AJ) EE bM) EE MO) EE aU) EE s)
  (n:Nat) (h:I n s):
  codeAny (model prog w) A (.compLoop (.ListComp elt [{target,iter,ifs,0}] scope pos) 0 it acc env) R s:=by
 refine codeAny_loop rfl I (λn s hI=>?_) n h
 show wpAny _ A ((compTurn (.ListComp elt [{target,iter,ifs,0}] scope pos) 0 it acc env).onRaise λx=>do noteFrame x env;theTreesLotGoes x) _ _ s
 refine wpAny_noted ?_
 rw[compTurn_list]
 refine zb<|wpAny_standAt<|zb<|yj (turn n s hI) (λr aU h₁=>?_) Ry
 cases r with
 |none=>exact zw h₁
 |some v =>
  refine zb<|yj h₁ (λ_ MO Tz=>?_) Ry
  refine zb<|yj Tz (λ_ bM Yk=>zb<|yj Yk (λok AJ TB=>?_) Ry) Ry
  cases ok with
  |false=>exact zw ⟨rfl,TB⟩
  |true =>
   exact zb<|zb<|yj TB (λx wZ Yl=>zb<|yj Yl (λ_ Tx Ym=>zw<|zw ⟨rfl,Ym⟩) Ry) Ry
def CompEnd(X:Cx)(pins:List<|Addr×Obj)(σ:St)(Q:VK)(D C:Addr)(s':Shared):Prop:=∃H' m,Inv X pins σ H' s'/\Q (.ref D) H'/\s'.heap.Ns C m/\H' C=none/\C≠X.env.locals/\X.cZ.heap.objs.size<=C/\(∀x c,X.env.cells.lookup x=some c->c≠C)/\(∀p∈X.pn++pins,p.1≠C)
theorem ua{pins:List<|Addr×Obj}{bM:Shared}{σ:St}{i9:Hp}{Q:VK}{it:Addr}{fp:List Addr}{tn:Nat->Heap->Prop}{J:It}{E:Value->Shared->Prop}(S:bA X N src scope)(hc:X.calm=true) (hg:∀C s H ex pn,PG (iQ X N scope C s H ex pn) tg g) (hx:A4 g src) (hi:∀C s H ex pn,Rx (iQ X N scope C s H ex pn) ifs tc) (he:∀C s H ex pn,PE (iQ X N scope C s H ex pn) elt te) (I:Inv X pins σ i9 bM) (T:Turn X.prog X.w X.K tg J fp it tn) (st:tn 0 bM.heap) (ff:∀b∈fp,sN X pins i9 b) (W:Nat->Nat->List V->Hp->Prop) (w0:∃m,W 0 m [] i9) (turn:∀i m out H',W i m out H'->(J.stop i H'/\∀D,H' D=none->Q (.ref D) (upd H' D<|.lst out))\/(J.go i H'/\out.length<sizeLine/\∀x H2,J.Sw i H' x H2->g x (pick σ src) H2 λi7 H3=>tc i7 H3 λb H4=>if b=true then te i7 H4 λv H5=>∃m',m'<m/\W (i+1) m' (out++[v]) H5 else ∃m',m'<m/\W (i+1) m' out H4)) {RR:Value->Addr->Result->Shared->Prop} (hRR:∀D C s',CompEnd X pins σ Q D C s'->RR (.ref D) C (.ok .next) s'): wpAny (model X.prog X.w) X.A (newList []) (λacc AJ=>wpAny (model X.prog X.w) X.A (newFunctionEnv scope X.env.globals (clOf X.env.cells scope.names) [] X.env.qual none .none<|some X.env) (λTC wZ=>codeAny (model X.prog X.w) X.A (.compStart (.ListComp elt [{tg,iter,ifs,0}] scope pos) 0 (.ref it) acc {TC with scope:=relabel scope X.env}) (RR acc TC.locals) wZ) E AJ) E bM:=by
 refine yF<|wpAny_newFunctionEnv S.gC (by intro y hy;simp at hy) (λh₁ uY qy=>?_) S.kind;dsimp only at uY qy⊢;generalize Yn:bM.heap.push {cls:=.type "list",dict:=none,data:=.seq ([]:List Value).toArray}=G2 at uY qy⊢;have hC:G2.objs.size=bM.heap.objs.size+1:=by rw[<-Yn,ya]
 have Rz:bM.heap.objs.size≠G2.objs.size:=by rw[hC];exact zy<|Nat.lt_succ_self _
 have Kr:bM.heap.objs.size<=G2.objs.size:=by rw[hC];exact yS _
 have old:∀b o,bM.heap.get? b=some o->h₁.get? b=some o:=λb o e=>qy.extBut b o (zy<|zl (zt e) Kr)<|za _<|Yn ▸ za _ e;have qz:h₁.get? bM.heap.objs.size=some {cls:=.type "list",dict:=none,data:=.seq ([]:List Value).toArray}:=qy.extBut _ _ Rz<|za _<|Yn ▸ zk _ rfl;generalize hCC:G2.objs.size=C at hC Rz Kr uY qy⊢;have lZ:bM.heap.objs.size<=C:=Kr;generalize hD:bM.heap.objs.size=D at hC Rz Kr qz⊢;have iR:∀x c,(clOf X.env.cells scope.names).lookup x=some c->X.env.cells.lookup x=some c:=qx X.env.cells scope.names [] (by intro x c h;simp at h);have GO:∀x c,X.env.cells.lookup x=some c->c<bM.heap.objs.size:=λx c e=>by obtain⟨v,q⟩:=I.cell x c e;exact q.lt
 have O3:∀b∈fp,b<bM.heap.objs.size:=λb hb=>by obtain⟨o,e,_⟩:=T.obj _ _ st b hb;exact zt e
 have ok:(iQ X N scope C bM i9 fp<|X.pn++pins).Ok:=by refine{I.ok.mod,S.kind,I.ok.glob,I.ok.blt,lZ,λx y c h1 h2=>I.ok.inj x y c (iR _ _ h1)<|iR _ _ h2,λx hk=>?_,λx c h=>(nomatch h),I.ok.hd,I.ok.frames,.inl rfl,λb hb=>{?_,λx c h=>?_},I.bs,zL I.ok.AE I.sz,λb o e hb=>?_,λb hb hf=>?_,I.stack,I.pR};have hk:(relabel scope X.env).names.lookup x=some .cell\/(relabel scope X.env).names.lookup x=some .free:=hk;unfold relabel at hk;dsimp only at hk;rw[jh]at hk;(cases hl:scope.names.lookup x with|none=>(rw[hl]at hk;rcases hk with z|z<;>cases z)|some k=>rw[hl]at hk;have hm:=yg hl;have TF:k=.free:=(by by_cases TF:k=.free;exact TF;exfalso;have e1:(k==NameKind.free)=false:=(by simpa using TF);simp only[Option.map,e1,zW,Bool.false_eq_true,if_false]at hk;rcases hk with z|z;exact S.gC _ hm<|zU z;exact TF<|zU z);subst TF;obtain⟨c,Km⟩:=I.ok.has x<|S.As _ hm rfl;exact{c,jg X.env.cells scope.names [] x c (by intro x c h;simp at h) hm Km});exact zy<|zl (O3 b hb) lZ;exact(ff b hb).2.2.2.2.1 x c<|iR _ _ h;have q:b∈X.ex\/X.cZ.heap.objs.size<=b:=(ff b hb).2.2.2.1;rcases q with q|q;exact I.ok.wO b o e q;exact absurd (zl (zt e)<|zL I.ok.AE q)<|yx _;rcases zf.mp (I.mZ b hf) with z|z;exact(ff b hb).2.1 z;exact(ff b hb).2.2.1 z
 have TH:∀p∈X.pn++pins,p.1∉k9 X.stack:=λp hp z=>by obtain⟨_,_,ne,nf,_⟩:=I.pin p hp;rcases zf.mp (I.mZ _ z) with q|q;exact ne q;exact nf q
 have GP:∀p∈X.pn++pins,p.1<bM.heap.objs.size:=λp hp=>zt (I.pin p hp).1;have TJ:∀b∈k9 X.stack,b<bM.heap.objs.size:=λb hb=>by rcases zf.mp (I.mZ b hb) with z|z;rw[z];exact I.lt;obtain⟨_,o,ho,_⟩:=I.ok.i6.mem z;exact zl (zt ho) I.sz
 have Yo:∀(i:Nat)(x:Str)(v:V),N[i]?=some x->(pick σ src)[i]?=some (some v)->∃u c,RelV v u/\(clOf X.env.cells scope.names).lookup x=some c/\bM.heap.IsCell c (some u)/\scope.names.lookup x=some .free:=λi x v e1 e2=>by unfold pick at e2;rw[zr]at e2;cases es:src[i]? with|none=>(rw[es]at e2;cases e2)|some o=>rw[es]at e2;cases o with|none=>(cases e2)|some j=>have e3:(σ[j]?).join=some v:=zU e2;have e4:σ[j]?=some (some v):=(by cases q:σ[j]? with|none=>(rw[q]at e3;cases e3)|some z=>rw[q]at e3;exact congrArg some e3);obtain⟨a1,a2,a3⟩:=S.src i j x es e1;obtain⟨m0,_,hl⟩:=I.loc;obtain⟨u,r,l⟩:=hl j x v a1 e4 a3;have hm:=yg a2;have hk:=S.As _ hm rfl;rcases l with⟨k,_⟩|⟨_,c,Km,z⟩;rcases hk with hk|hk<;>(rw[k]at hk;cases hk);exact{u,c,r,jg X.env.cells scope.names [] x c (by intro x c h;simp at h) hm Km,z,a2}
 have kinds:∀x,scope.names.lookup x=some .free->(compEnvC scope (clOf X.env.cells scope.names) C X.env).kindOf x=some .cell\/(compEnvC scope (clOf X.env.cells scope.names) C X.env).kindOf x=some .free:=λx hx=>by show(relabel scope X.env).names.lookup x=some .cell\/(relabel scope X.env).names.lookup x=some .free;unfold relabel;dsimp only;rw[jh,hx];dsimp only[Option.map];split;exact .inl rfl;exact .inr rfl
 have Ic:Inv (iQ X N scope C bM i9 fp<|X.pn++pins) [] (pick σ src) i9 {bM with heap:=h₁,toks:=bM.toks+([]:List (Str×Value)).length}:=by refine{ok,rfl,I.bare,Un.kept old,{_,uY,λi x v e1 e2 e3=>?_},λx c e=>?_,I.aG.fresh lZ,λx c e=>I.c8 x c<|iR x c e,λp hp=>?_,I.aG.kept old,?_};obtain⟨u,c,r,e5,⟨o,ho,hd⟩,hf⟩:=Yo i x v e1 e2;exact{u,r,.inr {kinds x hf,c,e5,{o,old _ _ ho,hd}}};obtain⟨v,o,ho,hd⟩:=I.cell x c<|iR x c e;exact{v,o,old _ _ ho,hd};have hp:p∈X.pn++pins:=(by simpa [iQ]using hp);obtain⟨e,n,_,_,d⟩:=I.pin p hp;exact{old _ _ e,n,zy<|zl (GP p hp) lZ,TH p hp,d};show(pick σ src).length=N.length;unfold pick;rw[zc,S.len]
 have w4:bM.heap.objs.size<=D:=Nat.le_of_eq hD;have O4:D∉k9 X.stack:=λz=>absurd (zl (TJ D z) w4)<|yx _;have MP:D∉fp:=λz=>absurd (zl (O3 D z) w4)<|yx _;have pe:∀{pl:List (Addr×Obj)}{H':Hp},(∀b∈fp,H' b=none)->(∀p∈pl,p.1∉fp)->∀b∈fp,sN (iQ X N scope C bM i9 fp<|X.pn++pins) pl H' b:=λ{pl H'} hn eX b hb=>by obtain⟨f0,f1,f2,f3,f4,f5⟩:=ff b hb;refine{hn b hb,zy<|zl (O3 b hb) lZ,λz=>?_,.inl hb,λx c e=>f4 x c<|iR x c e,λp hp=>?_};rcases zf.mp (I.mZ b z) with q|q;exact f1 q;exact f2 q;have hp:p∈(X.pn++pins)++pl:=hp;rcases zR.mp hp with hp|hp;exact f5 p hp;exact λz=>eX p hp<|z ▸ hb
 have back:∀{s':Shared}{H':Hp}{out:List V}{az:List Value}{nn:Nat}{av:St},Inv (iQ X N scope C bM i9 fp<|X.pn++pins) [] av H' s'->H' D=none->out.length<=sizeLine->Vals out az->s'.heap.get? D=some {cls:=.type "list",data:=.seq az.toArray nn}->(∀D,H' D=none->Q (.ref D) (upd H' D<|.lst out))->CompEnd X pins σ Q D C s':=λ{s' H' out az nn av} I' hn hl hv ho q=>by obtain⟨m,hm,_⟩:=I'.loc;have un:Un (k9 X.stack) fp i9 H' bM.heap s'.heap:=I'.base;have neD:∀b o,bM.heap.get? b=some o->b≠D:=λb o e=>zy<|zl (zt e) w4;have fD:i9 D=none:=I.aG.fresh w4;refine{upd H' D<|.lst out,m,?_,q D hn,hm,by rw[ar<|Ne.symm Rz];exact I'.free,yk<|zl I.lt lZ,zL I.sz lZ,λx c e=>zy<|zl (GO x c e) lZ,λp hp=>zy<|zl (GP p hp) lZ};refine I.FZ (ch:=fp) I'.os {un.keep,un.slot,λb o e n hb=>?_,un.there,λb xs e=>?_,λb o u e=>?_,λb ps e=>?_} (λb o e=>?_) I'.bare λb hb=>?_;rw[ar<|neD b o e];exact un.free b o e n hb;rw[ar<|ax e fD];exact un.fZ b xs e;rw[ar<|ax e fD];exact un.fG b o u e;rw[ar<|ax e fD];exact un.fH b ps e;by_cases hb:b=D;subst hb;rw[aC]at e;cases e;exact⟨hl,az,nn,hv,ho⟩;rw[ar hb]at e;refine(I'.aG b o e).lR (λc v _ q=>q) (λc q=>?_) λc xs q=>?_;rw[ar<|ax q hn];exact q;rw[ar<|ax q hn];exact q;obtain⟨f0,f1,f2,f3,f4,f5⟩:=ff b hb;exact⟨f3,f1,f4,f5⟩
 obtain⟨m0,w0⟩:=w0;have loop:∀wZ:Shared,wZ={bM with heap:=h₁,toks:=bM.toks+([]:List (Str×Value)).length}->codeAny (model X.prog X.w) X.A (.compLoop (.ListComp elt [{tg,iter,ifs,0}] scope pos) 0 (.ref it) (.ref D)<|compEnvC scope (clOf X.env.cells scope.names) C X.env) (RR (.ref D) C) wZ:=by rintro wZ rfl;refine kx (EE:=λ_ _=>False) (λ_ _ f=>f.elim) (λn s'=>∃i out az nn H',Inv (iQ X N scope C bM i9 fp<|X.pn++pins) [] (pick σ src) H' s'/\H' D=none/\out.length<=sizeLine/\Vals out az/\s'.heap.get? D=some {cls:=.type "list",data:=.seq az.toArray nn}/\tn i s'.heap/\(∀b∈fp,H' b=none)/\W i n out H') ?_ m0 {0,[],[],0,i9,Ic,I.aG.fresh w4,zZ _,.nil,qz,T.keep _ _ _ st λb hb o e=>old b o e,λb hb=>(ff b hb).1,w0};rintro n s3 ⟨i,out,az,nn,H3,I3,hD3,RA,WA,ho3,Gf,SM,w3⟩;have O5:∀(az:List Value) (nn:Nat) (v:Option Value),({cls:=.type "list",data:=.seq az.toArray nn} : Obj).data≠.cell v:=λ_ _ _ z=>nomatch z;have I3p:Inv (iQ X N scope C bM i9 fp<|X.pn++pins) [(D,{cls:=.type "list",data:=.seq az.toArray nn})] (pick σ src) H3 s3:=I3.lS λp hp=>(by have e:p=(D,{cls:=.type "list",data:=.seq az.toArray nn}):=(by simpa using hp);subst e;exact{ho3,hD3,Rz,O4,O5 az nn});have Yp:∀p∈[((D,{cls:=.type "list",data:=.seq az.toArray nn}):Addr×Obj)],p.1∉fp:=λp hp=>(by have e:p=(D,{cls:=.type "list",data:=.seq az.toArray nn}):=(by simpa using hp);subst e;exact MP);rcases turn i n out H3 w3 with⟨stop,qn⟩|⟨go,eY,step⟩;refine aX (T.done (iQ X N scope C bM i9 fp<|X.pn++pins) rfl rfl rfl hc i _ s3 _ H3 _ I3p (pe SM Yp) Gf stop) λr s4 ⟨hr,I4⟩=>?_;subst hr;have p4:=(I4.pin (D,{cls:=.type "list",data:=.seq az.toArray nn})<|zC _<|by simp).1;exact hRR D C s4<|back (I4.lS (pins':=[]) λp hp=>nomatch hp) hD3 RA WA p4 qn;refine aX (T.item (iQ X N scope C bM i9 fp<|X.pn++pins) rfl rfl rfl hc i _ s3 _ H3 _ I3p (pe SM Yp) Gf go) λr s4 ⟨u,hr,h4⟩=>?_;subst hr;refine aX h4 λ_ s5 ⟨x,H5,I5,r5,y5,D_,fr5⟩=>?_;have XO:=I5.pinned (pe fr5 Yp)<|T.obj _ _ D_;refine aX (hg _ _ _ _ _ _ s5 _ H5 x u _ XO r5<|hx x σ H5 _<|step x H5 y5) λ_ s6 ⟨SN,H6,I6,e6,q6⟩=>?_;have fin:∀{s7:Shared}{H7:Hp},Inv (iQ X N scope C bM i9 fp<|X.pn++pins) ([(D,{cls:=.type "list",data:=.seq az.toArray nn})]++qm fp s5.heap) SN H7 s7->Inv (iQ X N scope C bM i9 fp<|X.pn++pins) [] (pick σ src) H7 s7/\H7 D=none/\s7.heap.get? D=some {cls:=.type "list",data:=.seq az.toArray nn}/\tn (i+1) s7.heap/\∀b∈fp,H7 b=none:=λ{s7 H7} I7=>(by have pD:=I7.pin (D,{cls:=.type "list",data:=.seq az.toArray nn})<|zC _ (by simp);refine{(I7.lS (pins':=[]) λp hp=>nomatch hp).weak e6.1.symm e6.2,pD.2.1,pD.1,T.keep _ _ _ D_ λb hb o e=>(I7.pin (b,o)<|zC _<|zC _<|ie hb e).1,λb hb=>?_};obtain⟨o,e,d⟩:=T.obj _ _ D_ b hb;exact(I7.pin (b,o)<|zC _<|zC _<|ie hb e).2.1);refine aX (hi _ _ _ _ _ _ s6 SN H6 _ I6 q6) λb s7 ⟨H7,I7,q7⟩=>?_;cases b with|false=>(rw[if_neg zd]at q7⊢;obtain⟨m',hm,w7⟩:=q7;obtain⟨J7,d7,o7,t7,f7⟩:=fin I7;exact{m',hm,i+1,out,az,nn,H7,J7,d7,RA,WA,o7,t7,f7,w7})|true=>rw[if_pos rfl]at q7⊢;refine aX (he _ _ _ _ _ _ s7 SN H7 _ I7 q7) λv s8 ⟨y,H8,I8,r8,m',hm,w8⟩=>?_;obtain⟨J8,d8,o8,t8,f8⟩:=fin I8;have hsz:az.toArray.size<=sizeLine:=(by rw[zm,<-WA.length];exact RA);refine wpAny_list_append_plain (items:=az.toArray) (hsz:=hsz) ⟨nn,o8⟩ λh9 ⟨n9,e9⟩ sb=>?_;have J9:Inv (iQ X N scope C bM i9 fp<|X.pn++pins) [] (pick σ src) H8 {s8 with heap:=h9}:=J8.turned (t':=s8.toks) (it:=D) (λb o hb e=>(sb.2 b hb).trans e) d8 Rz (.inr w4) (λx c e=>zy<|zl (GO x c<|iR x c e) w4) λp hp=>(by have hp:p∈X.pn++pins:=(by simpa [iQ]using hp);exact zy<|zl (GP p hp) w4);refine{m',hm,i+1,out++[y],az++[v],n9,H8,J9,d8,?_,WA.append<|.cons r8 .nil,?_,T.keep _ _ _ t8 λb hb o e=>(sb.2 b λz=>MP<|z ▸ hb).trans e,f8,w8};rw[zA];exact eY;rw[e9];simp
 exact codeAny_compStart_list (loop _ rfl)<|T.self _ _ _ _ _ (T.keep _ _ _ st λb hb o e=>old b o e)<|loop _ rfl
theorem Ks(S:bA X N src scope)(hc:X.calm=true)(hit:PI X tg iter wi) (hg:∀C s H ex pn,PG (iQ X N scope C s H ex pn) tg g) (hx:A4 g src) (hi:∀C s H ex pn,Rx (iQ X N scope C s H ex pn) ifs tc) (he:∀C s H ex pn,PE (iQ X N scope C s H ex pn) elt te) (hs:autoParam (∀x,foldedSetIterable iter X.env x=pure x) qQ0):PE X (.ListComp elt [{tg,iter,ifs,0}] scope pos) (GN wi src g tc te):=by intro pins s σ H Q I h;rw[eval_ListComp];have A5:closureFor scope X.env=pure (clOf X.env.cells scope.names):=gB λy hy hf=>I.ok.has y.1<|S.As y hy hf;refine wpAny_comprehension_free (use:=none) rfl hs A5 S.kind S.loc<|aX (hit pins s σ H _ I h) λv s1 h1=>aX h1 λWr s2 h2=>?_;obtain⟨it,fp,tn,J,H2,e,I2,T,AM,f2,W,w0,turn⟩:=h2;subst e;refine ua (RR:=λacc C=>compPost (model X.prog X.w) X.A X.xe none (EP X pins σ Q) acc C) S hc hg hx hi he I2 T AM f2 W w0 turn λD C s' ⟨H',m,I',q,hm,hn,h1,h2,h3,h4⟩=>?_;exact{m,hm,λh' sb=>{.ref D,H',I'.turned (t':=s'.toks) (it:=C) (λb o hb e=>(sb.2 b hb).trans e) hn h1 (.inr h2) h3 h4,rfl,q}}
theorem A6{i:Nat}{x:Str}{pos' Kt:Pos}(hN:X.N.Nodup)(Yq:X.N[i]?=some x)(Es:X.env.scope.names.lookup x=some .local) (S:bA X N src scope) (hc:X.calm=true) (hit:PI X tg iter wi) (hg:∀C s H ex pn,PG (iQ X N scope C s H ex pn) tg g) (hx:A4 g src) (hi:∀C s H ex pn,Rx (iQ X N scope C s H ex pn) ifs tc) (he:∀C s H ex pn,PE (iQ X N scope C s H ex pn) elt te) (Yr:autoParam (swapsWith (.ListComp elt [{tg,iter,ifs,0}] scope pos) (some<|.Name x pos') Kt.line X.env=pure true) qQJ) (hs:autoParam (∀x,foldedSetIterable iter X.env x=pure x) qQ0):PS X (.Assign [.Name x pos'] (.ListComp elt [{tg,iter,ifs,0}] scope pos) Kt) (Oe (GN wi src g tc te)<|iP i):=by
 intro pins s σ H D I h;rw[exec_Assign_Name_used _ _ _ _ Yr];refine zb<|wpAny_standAt<|zb ?_;have A5:closureFor scope X.env=pure (clOf X.env.cells scope.names):=gB λy hy hf=>I.ok.has y.1<|S.As y hy hf;show wpAny _ X.A (do let _ <-comprehension (.ListComp elt [⟨tg,iter,ifs,0⟩] scope pos) scope X.env _ (newList []) false (eval iter X.env) (some (assign (.Name x pos') X.env))) _ _ s;refine zb<|yj (wpAny_comprehension_free (use:=some<|assign (.Name x pos') X.env) (Q:=λ_ s'=>∃av H',Inv X pins av H' s'/\D.nx av H') rfl hs A5 S.kind S.loc<|aX (hit pins s σ H _ I h) λv s1 h1=>aX h1 λWr s2 h2=>?_) (λ_ s' hq=>zw<|zw hq) λ_ _ e=>e;obtain⟨it,fp,tn,J,H2,e,I2,T,AM,f2,W,w0,turn⟩:=h2;subst e;refine ua (Q:=λv H1=>D.nx (σ.set i<|some v) H1) (RR:=λacc C=>compPost (model X.prog X.w) X.A X.xe (some<|assign (.Name x pos') X.env) (λ_ s'=>∃av H',Inv X pins av H' s'/\D.nx av H') acc C) S hc hg hx hi he I2 T AM f2 W w0 turn λD' C s' ⟨H',m,I',q,hm,hn,h1,h2,h3,h4⟩=>?_;show wpAny _ X.A (assign (.Name x pos') X.env<|.ref D') _ _ _;refine wpAny_assign_Name<|tP I' hN Yq (.inl Es) (v:=.ref D') rfl (λAX I'' ⟨a,sb,ha⟩=>?_)<|.inr Es;have hCa:C≠a:=by rcases ha with ha|ha;rw[ha];exact h1;exact Ne.symm<|h3 _ _ ha
 refine{m,hm.sameBut sb hCa,λh'' Et=>{_,H',I''.turned (t':=AX.toks) (it:=C) (λb o hb e=>(Et.2 b hb).trans e) hn h1 (.inr h2) h3 h4,q}}
end
theorem nh{σ:St}{src:List<|Option Nat}{i:Nat}(h:src[i]?=some none):(pick σ src)[i]?=some none:=by unfold pick;rw[zr,h];rfl
theorem Ext.set(h:σ0[i]?=some none)(e:Ext σ0 σ):Ext σ0 (σ.set i<|some v):=by
 refine{by rw[List.length_set];exact e.1,λj w hj=>?_};have:i≠j:=by rintro rfl;rw[h]at hj;cases hj
 rw[List.getElem?_set_ne this];exact e.2 j w hj
theorem Ext.refl(σ:St):Ext σ σ:={rfl,λ_ _ h=>h}
theorem aY{src:List<|Option Nat}{i:Nat}(h:src[i]?=some none):A4 (iP i) src:=λx σ H Q q=>{(Ext.refl _).set<|nh h,q}
theorem CM{K:Frag}{n:Nat}{src:List<|Option Nat}{i j:Nat}(h:src[i]?=some none)(h':src[j]?=some none):A4 (JZ K n<|qk (iP i)<|qk (iP j) JY) src:=λx σ H Q q=>by obtain⟨a,xs,e1,hs,hl,v,r,e2,v2,r2,e3,e4,q⟩:=q;exact{a,xs,e1,hs,hl,v,r,e2,v2,r2,e3,e4,((Ext.refl _).set<|nh h).set<|nh h',q}
theorem all_bools{xs:List V}{az:List Value}{bs:List Bool}(hv:Vals xs az)(hb:xs=bs.map V.bl):∀(i:Nat)(v:Value),az.toArray[i]?=some v->v=Value.bool ((bs[i]?).getD false):=by
 subst hb;intro i v h;have h':az[i]?=some v:=by simpa using h
 have hl:=hv.length;rw[zc]at hl;have hi:i<az.length:=(zg.mp h').1;have hb:bs[i]?=some (bs[i]'(by lia)):=by simp
 obtain⟨u,hu,r⟩:=hv.get (i:=i) (x:=V.bl<|bs[i]'(by lia)) (by rw[zr,hb];rfl);rw[h']at hu;cases hu;rw[hb];exact r
theorem range_all{bs:List Bool} : (List.range bs.length).all (λi=>(bs[i]?).getD false)=bs.all id:=by rw[yB,ye,ye];constructor;intro h b hb;obtain⟨i,hi,rfl⟩:=List.mem_iff_getElem.mp hb;have:=h i<|zT.mpr hi;simpa [hi]using this;intro h i hi;have hi:=zT.mp hi;simpa [hi]using h _ (List.getElem_mem hi)
theorem range_any{bs:List Bool} : (List.range bs.length).any (λi=>(bs[i]?).getD false)=bs.any id:=by rw[yB,List.any_eq_true,List.any_eq_true];constructor;rintro⟨i,hi,h⟩;have hi:=zT.mp hi;exact{bs[i],List.getElem_mem hi,by simpa [hi]using h};rintro⟨b,hb,h⟩;obtain⟨i,hi,rfl⟩:=List.mem_iff_getElem.mp hb;exact{i,zT.mpr hi,by simpa [hi]using h}
section
variable{X:Cx}
theorem sP(hc:X.calm=true):dy X (.builtin "all") (λxs H Q=>∃(a:Addr)(bs:List Bool),xs=[.ref a]/\jd X.K H a (bs.map V.bl)/\Q (.bl<|bs.all id) H):=by
 intro pins s σ H xs us Q I r h;obtain⟨a,bs,rfl,hq,q⟩:=h;obtain⟨u,rfl,ru⟩:=vals1 r;cases ru;obtain⟨az,rv,p,hz⟩:=I.list hq;have hl:=rv.length;rw[zc]at hl;refine call_all_walk<|wpAny_pyIter_list p.isList ?_;refine{s.heap.objs.size,_,_,_,_,_,λi=>(bs[i]?).getD false,rfl,Walks.list (A:=X.A.in1) (I.ok.hd hc) s.heap.objs.size a (zy p.lt) az.toArray,{{_,zk _ rfl,rfl,rfl},p.isList.at λo e=>za _ e},?_,λh' tk hk=>?_};intro i v s' Q' E' hv hQ;rw[all_bools rv rfl i v hv];exact yq hQ;have e:az.toArray.size=bs.length:=by rw[zm,<-hl]
 rw[e,range_all];exact{.bl<|bs.all id,H,I.kept (h':=h') (t':=tk) λb o e=>hk b o (by simpa using zy (zt e))<|za _ e,rfl,q}
theorem sQ(hc:X.calm=true):dy X (.builtin "any") (λxs H Q=>∃(a:Addr)(bs:List Bool),xs=[.ref a]/\jd X.K H a (bs.map V.bl)/\Q (.bl<|bs.any id) H):=by
 intro pins s σ H xs us Q I r h;obtain⟨a,bs,rfl,hq,q⟩:=h;obtain⟨u,rfl,ru⟩:=vals1 r;cases ru;obtain⟨az,rv,p,hz⟩:=I.list hq;have hl:=rv.length;rw[zc]at hl;refine call_any_walk<|wpAny_pyIter_list p.isList ?_;refine{s.heap.objs.size,_,_,_,_,_,λi=>(bs[i]?).getD false,rfl,Walks.list (A:=X.A.in1) (I.ok.hd hc) s.heap.objs.size a (zy p.lt) az.toArray,{{_,zk _ rfl,rfl,rfl},p.isList.at λo e=>za _ e},?_,λh' tk hk=>?_};intro i v s' Q' E' hv hQ;rw[all_bools rv rfl i v hv];exact yq hQ;have e:az.toArray.size=bs.length:=by rw[zm,<-hl]
 rw[e,range_any];exact{.bl<|bs.any id,H,I.kept (h':=h') (t':=tk) λb o e=>hk b o (by simpa using zy (zt e))<|za _ e,rfl,q}
end
noncomputable def ownOf:HO->Option Addr|.ins _ dx _=>some dx|.k7 _ u=>ownOf u|_=>none
structure Fg(H H' G:Hp):Prop where
 sub:∀b o,G b=some o->H' b=some o
 dom:∀b o,H b=some o->∃o',G b=some o'
 own:∀a o dx,G a=some o->ownOf o=some dx->(∃o',H a=some o'/\ownOf o'=some dx)\/∃o',G dx=some o'
theorem aQ:bootBuiltins "len"= some (.builtin "len"):=PySem.boot_len
theorem ij:bootBuiltins "all"= some (.builtin "all"):=boot_all
theorem O6:bootBuiltins "any"= some (.builtin "any"):=boot_any
theorem au:bootBuiltins "isinstance"= some (.builtin "isinstance"):=boot_isinstance
theorem GQ:bootBuiltins "int"= some (.type "int"):=PyProof.Rows.boot_int
theorem Ku:bootBuiltins "bool"= some (.type "bool"):=PyProof.Rows.boot_bool
theorem k_:bootBuiltins "str"= some (.type "str"):=PyProof.Rows.boot_str
theorem bN:bootBuiltins "tuple"= some (.type "tuple"):=PyProof.Rows.boot_tuple
theorem Kv:bootBuiltins "list"= some (.type "list"):=PyProof.Rows.boot_list
theorem Kw:bootBuiltins "dict"= some (.type "dict"):=PyProof.Rows.boot_dict
theorem O7:bootBuiltins "set"= some (.type "set"):=PyProof.Rows.boot_set
set_option genInjectivity true in
set_option genSizeOfSpec true in
inductive Kd where
 |ao|bl|int|str|lst|tup|cY
 deriving DecidableEq
noncomputable def Kd.name:Kd->String|.ao=>"NoneType" |.bl=>"bool" |.int=>"int" |.str=>"str" |.lst=>"list" |.tup=>"tuple" |.cY=>"dict"
inductive qA (H:Hp):V->Kd->Prop where
 |ao:qA H .ao .ao
 |bl (b:Bool):qA H (.bl b) .bl
 |int (i:Int):qA H (.int i) .int
 |str (x:Str):qA H (.str x) .str
 |lst {a:Addr}{xs:List V} (e:H a=some (.lst xs)):qA H (.ref a) .lst
 |tup {a:Addr}{xs:List V} (e:H a=some (.tup xs)):qA H (.ref a) .tup
 |cY {a:Addr}{kvs:List<|Key×V} (e:H a=some (.dK kvs)):qA H (.ref a) .cY
theorem qA.ty{K:Frag}{H:Hp}{x:V}{k:Kd}(h:qA H x k):m8 K H x (.type k.name):=by cases h with|ao=>exact .ao|bl b=>exact .bl b|int i=>exact .int i|str x=>exact .str x|lst e=>exact .lst e|tup e=>exact .tup e|cY e=>exact .dK e
noncomputable def w5(T:String):Option (Kd->Bool):=if T ="int" then some λk=>match k with|.int=>true|.bl=>true|_=>false else if T ="bool" then some λk=>match k with|.bl=>true|_=>false else if T ="str" then some λk=>match k with|.str=>true|_=>false else if T ="tuple" then some λk=>match k with|.tup=>true|_=>false else if T ="list" then some λk=>match k with|.lst=>true|_=>false else if T ="dict" then some λk=>match k with|.cY=>true|_=>false else none
theorem GR{K:Frag}{T:String}{g:Kd->Bool}(h:w5 T=some g)(k:Kd):kitOne K (.type k.name) (.type T)=some (g k):=by unfold w5 at h;split at h;rename_i e;subst e;cases h;cases k<;>rfl;split at h;rename_i e;subst e;cases h;cases k<;>rfl;split at h;rename_i e;subst e;cases h;cases k<;>rfl;split at h;rename_i e;subst e;cases h;cases k<;>rfl;split at h;rename_i e;subst e;cases h;cases k<;>rfl;split at h;rename_i e;subst e;cases h;cases k<;>rfl;cases h
section
variable{X:Cx}
theorem GS:dy X (.builtin "isinstance") (λxs H Q=>∃x T k g,xs=[x,.ty T]/\w5 T=some g/\qA H x k/\Q (.bl<|g k) H):=by intro pins s σ H xs us Q I r h;obtain⟨x,T,k,g,rfl,hg,hk,q⟩:=h;obtain⟨v,w',rfl,rv,m9⟩:=vals2 r;cases m9;exact Eg I rv hk.ty (GR hg k) λtk=>{.bl<|g k,H,I.tok tk,rfl,q}
end
mutual
def Dt(K:Frag)(H:Hp):PyData->V->Prop|.none,v=>v=.ao|.bool b,v=>v=.bl b|.int i,v=>v=.int i|.str z,v=>v=.str z|.list ds,v=>∃a xs,v=.ref a/\jd K H a xs/\DtAll K H ds xs|.tuple ds,v=>∃a xs,v=.ref a/\gM K H a xs/\DtAll K H ds xs|.dict _,_=>False
def DtAll(K:Frag)(H:Hp):List PyData->List V->Prop|[],xs=>xs=[]|d::ds,xs=>∃y ys,xs=y::ys/\Dt K H d y/\DtAll K H ds ys
end
section
variable{X:Cx}{pins:List (Addr×Obj)}{σ:St}{H:Hp}{s:Shared}
mutual
theorem Inv.reads(I:Inv X pins σ H s):∀(d:PyData){x:V}{u:Value},Dt X.K H d x->RelV x u->∃as,Reads s.heap u d as
 |.none,x,u,h,r=>by
  have h:x=.ao:=by simpa only[Dt]using h
  subst h;cases r;exact{_,.none}
 |.bool b,x,u,h,r=>by
  have h:x=.bl b:=by simpa only[Dt]using h
  subst h;cases r;exact{_,.bool b}
 |.int i,x,u,h,r=>by
  have h:x=.int i:=by simpa only[Dt]using h
  subst h;obtain⟨t,rfl⟩:=r;exact{_,.int i t}
 |.str z,x,u,h,r=>by
  have h:x=.str z:=by simpa only[Dt]using h
  subst h;obtain⟨t,rfl⟩:=r;exact{_,.str z t}
 |.list ds,x,u,h,r=>by
  have h:∃a xs,x=.ref a/\jd X.K H a xs/\DtAll X.K H ds xs:=by simpa only[Dt]using h
  obtain⟨a,xs,rfl,hq,hd⟩:=h;cases r;obtain⟨az,rv,p,_⟩:=I.list hq;obtain⟨as,ra⟩:=Inv.readsAll I ds hd rv;obtain⟨o,e,c,n,d⟩:=p.isList;exact{_,.list e c d<|by simpa using ra}
 |.tuple ds,x,u,h,r=>by
  have h:∃a xs,x=.ref a/\gM X.K H a xs/\DtAll X.K H ds xs:=by simpa only[Dt]using h
  obtain⟨a,xs,rfl,hq,hd⟩:=h;cases r;obtain⟨az,rv,p,_⟩:=I.tuple hq;obtain⟨as,ra⟩:=Inv.readsAll I ds hd rv;obtain⟨o,e,c,n,d⟩:=p;exact{_,.tuple e c d<|by simpa using ra}
 |.dict _,x,u,h,r=>by
  have h:False:=by simpa only[Dt]using h
  exact h.elim
theorem Inv.readsAll(I:Inv X pins σ H s):∀(ds:List PyData){xs:List V}{us:List Value},DtAll X.K H ds xs->Vals xs us->∃as,ReadsAll s.heap us ds as
 |[],xs,us,h,r=>by
  have h:xs=[]:=by simpa only[DtAll]using h
  subst h;cases r;exact{_,.nil}
 |d::ds,xs,us,h,r=>by
  have h:∃y ys,xs=y::ys/\Dt X.K H d y/\DtAll X.K H ds ys:=by simpa only[DtAll]using h
  obtain⟨y,ys,rfl,h1,h2⟩:=h;cases r with|cons r1 r2=>obtain⟨as,ra⟩:=Inv.reads I d h1 r1;obtain⟨bs,rb⟩:=Inv.readsAll I ds h2 r2;exact{_,.cons ra rb}
end
end
def TK(K:Frag)(neg:Bool):R2:=λx y H Q=>∃d e,Dt K H d x/\Dt K H e y/\d.canLay0=true/\e.canLay0=true/\(d.depth<=64\/e.depth<=64)/\Q (.bl<|if neg then !PyData.eqv d e else PyData.eqv d e) H
section
variable{X:Cx}
theorem GU(hu:X.A.units+64<cLine):gN X (compareOp .Eq) (TK X.K false):=by intro pins s σ H x y v u Q I rx ry h;obtain⟨d,e,hd,he,cd,ce,dp,q⟩:=h;obtain⟨as,ra⟩:=I.reads d hd rx;obtain⟨bs,rb⟩:=I.reads e he ry;exact SeqAt.compareEq_reads ra rb cd ce (by rcases dp with dp|dp<;>lia)<|aH I q rfl
theorem GV(hu:X.A.units+64<cLine):gN X (compareOp .NotEq) (TK X.K true):=by intro pins s σ H x y v u Q I rx ry h;obtain⟨d,e,hd,he,cd,ce,dp,q⟩:=h;obtain⟨as,ra⟩:=I.reads d hd rx;obtain⟨bs,rb⟩:=I.reads e he ry;exact SeqAt.compareNe_reads ra rb cd ce (by rcases dp with dp|dp<;>lia)<|aH I q rfl
end
theorem j0(a b:Nat):FP ⟨#[a]⟩ ⟨#[b]⟩=decide (a<=b):=by
 unfold FP;have e:([b]<[a])↔b<a:=by rw[List.cons_lt_cons_iff];constructor;rintro (h|⟨_,h⟩);exact h;exact absurd h<|List.not_lt_nil _;exact .inl
 rw[yB];show(!decide ([b]<[a]))=true↔_;rw[Bool.not_eq_true',decide_eq_false_iff_not,e,decide_eq_true_iff];lia
def chkC(sc:Scope)(N0 N:List Str)(src:List<|Option Nat)(scope:Scope):Bool :=
 decide (scope.kind=.function)&&(scope.names.all (λy=>decide (y.2≠.cell)&&(decide (y.2≠.local)||decide (scope.names.lookup y.1=some .local))&&(decide (y.2≠.free)||(decide (sc.names.lookup y.1=some .cell)||decide (sc.names.lookup y.1=some .free)))) &&
  (decide (src.length=N.length)&&(List.range src.length).all λi=>match src[i]?,N[i]? with
   |some (some j),some x=>decide (N0[j]?=some x)&&(decide (scope.names.lookup x=some .free)&&(decide (sc.names.lookup x=some .cell)||decide (sc.names.lookup x=some .free)))
   |_,_=>true))
theorem oy(sc:Scope)(N0:List Str)(hs:X.env.scope=sc)(hN:X.N=N0)(h:chkC sc N0 N src scope=true):bA X N src scope:=by unfold chkC at h;simp only[zQ,yr,ye,yH]at h;obtain⟨h1,h2,h3,h4⟩:=h;refine{h1,λy hy=>(h2 y hy).1.1,λy hy e=>?_,λy hy e=>?_,h3,λi j x e1 e2=>?_};rcases (h2 y hy).1.2 with z|z;exact absurd e z;exact z;rcases (h2 y hy).2 with z|z;exact absurd e z;show X.env.scope.names.lookup y.1=some .cell\/X.env.scope.names.lookup y.1=some .free;rw[hs];exact z;have hi:i<src.length:=(zg.mp e1).1;have q:=h4 i<|zT.mpr hi;rw[e1,e2]at q;simp only[zQ,yr,yH]at q;refine{by rw[hN];exact q.1,q.2.1,?_};unfold NY;rw[hs];exact .inr q.2.2
theorem uZ(h0:0<=i)(h1:i<l.length):∃v,kJ l i=some v/\l[i.toNat]?=some v:=by
 obtain⟨j,rfl⟩:=Int.eq_ofNat_of_zero_le h0;have hj:j<l.length:=by lia
 exact{l[j],eM<|by simp[hj],by simp[hj]}
theorem bB{c:Bool}{A B:Prop}(h:c=true->A)(h':c=false->B):if c=true then A else B:=by cases c with|true=>exact h rfl|false=>exact h' rfl
theorem nt(h:(!b)=true):b=false:=by cases b<;>simp_all
theorem nf(h:(!b)=false):b=true:=by cases b<;>simp_all
noncomputable def A7:Kd->Bool|.int=>true|.bl=>true|_=>false
noncomputable def u0:Kd->Bool|.bl=>true|_=>false
noncomputable def A8:Kd->Bool|.str=>true|_=>false
noncomputable def qB:Kd->Bool|.tup=>true|_=>false
theorem Kx:w5 "int"= some A7:=if_pos rfl
theorem GW:w5 "bool"= some u0:=(if_neg<|by decide).trans<|if_pos rfl
theorem ik:w5 "str"= some A8:=(if_neg<|by decide).trans<|(if_neg<|by decide).trans<|if_pos rfl
theorem cI:w5 "tuple"= some qB:=(if_neg<|by decide).trans<|(if_neg<|by decide).trans<|(if_neg<|by decide).trans<|if_pos rfl
theorem len_pos{z:Str}(h:1<=z.cps.size):∃c r,z.cps.toList=c::r:=by cases e:z.cps.toList with|nil=>have:z.cps.toList.length=0:=(by rw[e];rfl);rw[yp]at this;lia|cons c r=>exact⟨c,r,rfl⟩
theorem w6(e:l=c::r):kJ l 0=some c:=by
 have:l[0]?=some c:=by rw[e];rfl
 exact eM (j:=0) this
def isPlain:Expr->Bool|.Starred _ _=>false|_=>true
theorem A9(h:isPlain e=true):starEach (e::es) env=(false,eval e env)::starEach es env:=by cases e<;>first|rfl|exact absurd h zd
theorem Ys{t:TA}(ha:PE X e te)(hr:PA X es t)(hp:autoParam (isPlain e=true) qQJ):PA X (e::es) (MJ te t):=Kb ha hr<|A9 hp
end L2
namespace HT
open PySem PyProof.Rows
open PySem.SeqAt
open PySem.AutoSeq1 (wpAny_loadPart')
open PySem.MeetsSeq PySem.MeetsSeq2 PySem.MeetsSeq3
end HT
namespace L2
open PySem PySem.Spec PyProof.Rows
def FQ(c:Value)(e:Addr)(h:Heap):Prop:=∃o vs,h.get? e=some o/\o.data=.fields vs/\vs[2]?=some c
section
variable{M:Model}{A:Around}{E:Value->Shared->Prop}{s:Shared}{base:Heap}{env:Env}{outer:List Env}{L e:Addr}{a0 c fl:Value}
theorem TL(ub:A.frames=some (env::outer))(hl:s.heap.FunFrames base<|env::outer)(hf:env.frame=some L) (he:s.heap.get? e=some oe) (FR:base.StaysIn s.heap) (Au:base.get? e=none) (hd:oe.data=.fields vs) (h0:vs[0]?=some a0) (h2:vs[2]?=some c) (h:∀h',Heap.NotedW base (env::outer) e oe.cls a0 (rawInt L) s.heap h'->FQ c e h'->Q () {s with heap:=h'}): wpAny M A (do let x <-frameOf env;let y <-entryPlaceOf L nx;let z <-EntryCells.newEntry head x .none (rawInt L) .none y;setField (.ref e) 1 z) Q E s:=by
 have hsz:1<vs.size:=by have:=(Array.getElem?_eq_some_iff.mp h2).1;lia
 have nfr:e∉(env::outer).filterMap (·.frame):=λm=>by obtain⟨_,o,q,n⟩:=hl.mem m;rw[he]at q;cases q;exact n vs hd
 refine zb<|wpAny_frameOf_fun ub hl hf λg sg=>?_;refine zb<|wpAny_entryPlaceOf λpl eX=>?_;unfold EntryCells.newEntry newFields;refine zb<|yF ?_<|eX.sizeOk5 _ _ _ _ _;have g1:g.get? e=some oe:=(sg.2.1 e nfr).trans he;have kg:base.StaysIn g:=λb o q=>(sg.2.1 b λm=>by rw[(hl.mem m).1]at q;cases q).trans<|FR b o q;have t3:((([head,.ref L,.none,rawInt L,.none]++(if pl.isEmpty then List.replicate 6 Value.none else pl)).toArray:Array Value))[3]?=some (rawInt L):=by rcases eX with rfl|⟨_,_,_,_,_,_,_,rfl⟩<;>simp
 generalize htb:(([head,.ref L,.none,rawInt L,.none]++(if pl.isEmpty then List.replicate 6 Value.none else pl)).toArray:Array Value)=ts at t3;have g2:=za (h:=g) {cls:=.type "traceback",dict:=none,data:=.fields ts} g1;refine yQ g2 hd hsz<|h _ ?_ ?_;have ne:g.objs.size≠e:=yk<|zt g1;have d3:=yw hd (·.setIfInBounds 1 (Value.ref g.objs.size));have e3:=yt (Obj.mapFields (·.setIfInBounds 1 (Value.ref g.objs.size))) g2<|Obj.isFreed_of_fields d3;have T3:=(yo (g.push {cls:=.type "traceback",dict:=none,data:=.fields ts}) (Obj.mapFields (·.setIfInBounds 1 (Value.ref g.objs.size)))<|Ne.symm ne).trans<|zk g rfl;have keep:∀b o,b≠e->g.get? b=some o->((g.push {cls:=.type "traceback",dict:=none,data:=.fields ts}).update e (Obj.mapFields (·.setIfInBounds 1 (Value.ref g.objs.size)))).get? b=some o:=λb o n q=>by rw[yo _ _<|Ne.symm n];exact za _ q
 have w9:∀b o,s.heap.get? b=some o->(∀vs,o.data≠.fields vs)->b≠e:=λb o q n z=>by rw[z,he]at q;cases q;exact n vs hd
 refine{λb o q=>keep b o (λz=>by rw[z,Au]at q;cases q)<|kg b o q,hl.of_keeps λb o q n=>?_,?_,λb o q n=>?_};obtain⟨sl,z⟩:=sg.2.2 b o q;exact{_,keep b _ (w9 b o q n) z,rfl};exact{_,_,g.objs.size,_,_,e3,{Obj.cls_mapFields _ _,by rw[Array.getElem?_setIfInBounds_ne<|by decide];exact h0},d3,by simp[hsz],kg.fresh,ne,T3,rfl,t3};obtain⟨sl,z⟩:=sg.2.2 b o q;exact{sl,keep b _ (w9 b o q n) z};have d3:=yw hd (·.setIfInBounds 1 (Value.ref g.objs.size));exact{_,_,yt (Obj.mapFields (·.setIfInBounds 1 (Value.ref g.objs.size))) g2<|Obj.isFreed_of_fields d3,d3,by rw[Array.getElem?_setIfInBounds_ne<|by decide];exact h2}
theorem setC(FR:base.StaysIn s.heap)(Au:base.get? e=none)(hl:s.heap.FunFrames base l)(ht:s.heap.TracedAtW base e cls a0 fl)(hc:FQ c e s.heap) (h:∀h',Heap.FlyingW base l e cls a0 h'->s.heap.UpToSlots h'->FQ c e h'->Q () {s with heap:=h'}):wpAny M A (setFlight (.ref e) none) Q E s:=by
 obtain⟨o,vs,T,oT,ts,q,hk,hd,q1,nT,ne,qT,dT,q3⟩:=ht;obtain⟨o',Yt,q',AH,q2⟩:=hc;rw[q]at q';cases q';rw[hd]at AH;cases AH;have hs3:3<ts.size:=(Array.getElem?_eq_some_iff.mp q3).1;have Ky:∀b,b≠T->(s.heap.update T (Obj.mapFields (·.setIfInBounds 3 ((none:Option Addr).elim Value.none λf=>rawInt f)))).get? b=s.heap.get? b:=λb n=>yo _ _<|Ne.symm n;have w9:∀b o,s.heap.get? b=some o->(∀vs,o.data≠.fields vs)->b≠T:=λb o z n w=>by rw[w,qT]at z;cases z;exact n ts dT
 have qe:=(Ky e<|Ne.symm ne).trans q;unfold setFlight;refine zb<|yc q hd q1 ?_;rw[if_pos<|show(Value.ref T != Value.none)=true by simp];refine yQ qT dT hs3<|h _ {λb o z=>(Ky b λw=>by rw[w,nT]at z;cases z).trans<|FR b o z,Au,hl.of_keeps λb o z n=>{o,(Ky b<|w9 b o z n).trans z,rfl},?_} (λb o z n=>{o.slots,(Ky b<|w9 b o z n).trans z}) ⟨o,vs,qe,hd,q2⟩;exact{o,vs,T,_,_,qe,hk,hd,q1,nT,ne,yt _ qT<|Obj.isFreed_of_fields<|yw dT _,yw dT _,by simp[hs3]}
theorem TM(ub:A.frames=some (env::outer))(hf:env.frame=some L)(FR:base.StaysIn s.heap)(Au:base.get? e=none)(hl:s.heap.FunFrames base<|env::outer)(ht:s.heap.TracedAtW base e cls a0 fl)(hc:FQ c e s.heap) (h:∀h',Heap.HeldW base (env::outer) e cls a0 L h'->s.heap.UpToSlots h'->FQ c e h'->Q () {s with heap:=h'}):wpAny M A (noteFrame (.ref e) env) Q E s:=by
 by_cases RB:fl=rawInt L;subst RB;exact wpAny_noteFrame_againW hf ht<|h s.heap ⟨FR,Au,hl,ht⟩ (.refl _) hc;obtain⟨o,vs,T,oT,ts,q,⟨hk,h0⟩,hd,q1,nT,ne,qT,dT,q3⟩:=ht;obtain⟨o',Yt,q',AH,q2⟩:=hc;rw[q]at q';cases q';rw[hd]at AH;cases AH;subst hk;have Ky:∀b,b≠T->(s.heap.update T (Obj.mapFields (·.setIfInBounds 3 Value.none))).get? b=s.heap.get? b:=λb n=>yo _ _<|Ne.symm n;have w9:∀b o,s.heap.get? b=some o->(∀vs,o.data≠.fields vs)->b≠T:=λb o z n w=>by rw[w,qT]at z;cases z;exact n ts dT
 unfold noteFrame;simp only[hf];refine zb<|yc q hd q1 ?_;rw[if_pos<|show(Value.ref T != Value.none)=true by simp];refine zb<|yc qT dT q3 ?_;rw[if_neg<|show ¬((fl==rawInt L)=true) by simpa using RB];refine zb<|yQ qT dT (Array.getElem?_eq_some_iff.mp q3).1 ?_;refine TL ub (hl.of_keeps λb o z n=>{o,(Ky b<|w9 b o z n).trans z,rfl}) hf ((Ky e<|Ne.symm ne).trans q) (λb o z=>(Ky b λw=>by rw[w,nT]at z;cases z).trans<|FR b o z) Au hd h0 q2 λh' x y=>?_;obtain⟨x1,x2,x3,x4⟩:=x;exact h h' ⟨x1,Au,x2,x3⟩ (λb o z n=>x4 b o ((Ky b<|w9 b o z n).trans z) n) y
theorem O8(ub:A.frames=some (env::outer))(hf:env.frame=some L)(FR:base.StaysIn s.heap)(Au:base.get? e=none)(hl:s.heap.FunFrames base<|env::outer) (he:s.heap.get? e=some oe) (hd:oe.data=.fields vs) (h0:vs[0]?=some a0) (h1:vs[1]?=some .none) (h2:vs[2]?=some c) (h:∀h',Heap.HeldW base (env::outer) e oe.cls a0 L h'->s.heap.UpToSlots h'->FQ c e h'->Q () {s with heap:=h'}):wpAny M A (noteFrame (.ref e) env) Q E s:=by unfold noteFrame;simp only[hf];refine zb<|yc he hd h1 ?_;rw[if_neg<|by decide];refine TL ub hl hf he FR Au hd h0 h2 λh' x y=>?_;obtain⟨x1,x2,x3,x4⟩:=x;exact h h' ⟨x1,Au,x2,x3⟩ x4 y
theorem O9(ub:A.frames=some (env::outer))(hf:env.frame=some L)(FR:base.StaysIn s.heap)(Au:base.get? e=none)(hl:s.heap.FunFrames base<|env::outer)(ht:s.heap.TracedAtW base e cls a0 fl)(hc:FQ c e s.heap) (h:∀h',Heap.FlyingW base outer e cls a0 h'->s.heap.UpToSlots h'->FQ c e h'->Q () {s with heap:=h'}):wpAny M A (leaving env<|.ref e) Q E s:=by unfold leaving;refine zb<|TM ub hf FR Au hl ht hc λh' x u y=>?_;obtain⟨x1,x2,x3,x4⟩:=x;refine setC x1 x2 x3 x4 y λh2 z u2 y2=>?_;obtain⟨z1,z2,⟨_,_,z3⟩,z4⟩:=z;exact h h2 ⟨z1,z2,z3,z4⟩ (u.trans u2) y2
theorem Kz(ub:A.frames=some (env::outer))(hf:env.frame=some L)(FR:base.StaysIn s.heap)(Au:base.get? e=none)(hl:s.heap.FunFrames base<|env::outer) (he:s.heap.get? e=some oe) (hd:oe.data=.fields vs) (h0:vs[0]?=some a0) (h1:vs[1]?=some .none) (h2:vs[2]?=some c) (h:∀h',Heap.FlyingW base outer e oe.cls a0 h'->s.heap.UpToSlots h'->FQ c e h'->Q () {s with heap:=h'}):wpAny M A (leaving env<|.ref e) Q E s:=by unfold leaving;refine zb<|O8 ub hf FR Au hl he hd h0 h1 h2 λh' x u y=>?_;obtain⟨x1,x2,x3,x4⟩:=x;refine setC x1 x2 x3 x4 y λh2 z u2 y2=>?_;obtain⟨z1,z2,⟨_,_,z3⟩,z4⟩:=z;exact h h2 ⟨z1,z2,z3,z4⟩ (u.trans u2) y2
end
theorem aV.get(x:aV P w H h a o):∃u,h.get? a=some u:=by cases o with|lst xs=>(obtain⟨_,_,_,_,e⟩:=x;exact{_,e})|tup xs=>(obtain⟨_,_,_,ob,e,_⟩:=x;exact{_,e})|dK kvs=>(obtain⟨_,_,_,_,o,_,_,e,_⟩:=x;exact{_,e})|dT kvs=>exact False.elim x|set S n=>(obtain⟨o,_,_,_,e,_⟩:=x;exact{_,e})|ins C dx fs=>(obtain⟨_,_,_,e,_⟩:=x;exact{_,e})|own y=>(obtain⟨_,e⟩:=x;exact{_,e})|xd fs=>(obtain⟨_,⟨_,_,_,e,_⟩,_⟩:=x;exact{_,e})|Wj lo hi=>(obtain⟨_,_,_,e⟩:=x;exact{_,e})|k7 ob u=>(obtain⟨e,_⟩:=x;exact{_,e})|pQ ps=>exact{_,show h.get? a=some _ from x}|met f y=>exact{_,show h.get? a=some _ from x}|ext φ=>obtain⟨_,e,_⟩:=x;exact e
structure qC(P:Program)(w:World)(mg:Str->Option Value)(outer:List Env)(H H':Hp)(h0:Heap)(a:Addr)(cls a0:Value)(B h:Heap):Prop where
 fl:Heap.FlyingW B outer a cls a0 h
 aG:kr P w H' B
 keep:∀b o,h0.get? b=some o->H b=none->b∉k9 outer->B.get? b=some o
 there:∀b o,h0.get? b=some o->b∉k9 outer->∃o',B.get? b=some o'
 slot:∀b o,h0.get? b=some o->b∈k9 outer->∃sl,h.get? b=some {o with slots:=sl}
 free:∀b o,h0.get? b=some o->H b=none->H' b=none
 fZ:∀b xs,H b=some (.tup xs)->H' b=some (.tup xs)
 fG:∀b o u,H b=some (.k7 o u)->H' b=some (.k7 o u)
 fH:∀b ps,H b=some (.pQ ps)->∃more,H' b=some (.pQ<|ps++more)
 cx:FQ .none a h\/mg "NoMark"= some cls
section
variable{P:Program}{w:World}{mg:Str->Option Value}{outer:List Env}{H H':Hp}{h0:Heap}{a:Addr}{cls a0:Value}{B h h2:Heap}
theorem qC.un(F:qC P w mg outer H H' h0 a cls a0 B h):Un (k9 outer) [] H H' h0 h where
 keep:=λb o e n hf _=>F.fl.1 b o<|F.keep b o e n hf
 slot:=λb o e _ hf _=>F.slot b o e hf
 free:=λb o e n _=>F.free b o e n
 there:=λb o e _=>by
  by_cases hf:b∈k9 outer
  ·obtain⟨sl,q⟩:=F.slot b o e hf;exact{_,q}
  ·obtain⟨o',q⟩:=F.there b o e hf;exact{o',F.fl.1 b o' q}
 fZ:=F.fZ
 fG:=F.fG
 fH:=F.fH
theorem qC.Yu(F:qC P w mg outer H H' h0 a cls a0 B h):kr P w H' h:=F.aG.kept F.fl.1
theorem qC.hn(F:qC P w mg outer H H' h0 a cls a0 B h):H' a=none:=by cases q:H' a with|none=>rfl|some o=>obtain⟨u,e⟩:=(F.aG a o q).get;rw[F.fl.2.1]at e;cases e
theorem qC.loose(F:qC P w mg outer H H' h0 a cls a0 B h):qC P w (λ_=>some cls) outer H H' h0 a cls a0 B h:={F.fl,F.aG,F.keep,F.there,F.slot,F.free,F.fZ,F.fG,F.fH,.inr rfl}
theorem qC.on(F:qC P w mg outer H H' h0 a cls a0 B h)(f2:Heap.FlyingW B outer a cls a0 h2)(u2:h.UpToSlots h2)(c2:FQ .none a h2\/mg "NoMark"= some cls):qC P w mg outer H H' h0 a cls a0 B h2 where
 cx:=c2
 fl:=f2
 aG:=F.aG
 keep:=F.keep
 there:=F.there
 slot:=λb o e hf=>by
  obtain⟨sl,q⟩:=F.slot b o e hf
  obtain⟨_,o1,q1,hd⟩:=F.fl.2.2.1.mem hf
  obtain⟨wU,q2⟩:=u2 b o1 q1 hd
  rw[q]at q1;cases q1
  exact⟨wU,q2⟩
 free:=F.free
 fZ:=F.fZ
 fG:=F.fG
 fH:=F.fH
end
def fi(P:Program)(w:World)(mg:Str->Option Value):AW:=λouter H s E e s'=>∃a cls a0 B H',e=.ref a/\s'.os=s.os/\AllBare s'.gens/\qC P w mg outer H H' s.heap a cls a0 B s'.heap/\E cls none H'
structure cO(X:Cx)(E:XK):Prop where
 ex:X.ex=[]
 st:X.stack=X.env::X.outer
 fr:X.env.frame=some X.env.locals
 xe:∀e s',wpAny (model X.prog X.w) X.A (leaving X.env e) (λ_ AX=>fi X.prog X.w X.mg X.outer X.uO X.cZ E e AX) (λe' AX=>fi X.prog X.w X.mg X.outer X.uO X.cZ E e' AX) s'->X.xe e s'
theorem ud{P:Program}{w:World}{K:Frag}{mg:Str->Option Value}{base:Heap}{N:List Str}{qual:Str}{scope:Scope}{f:Addr}{cd:Value}{A:Around}{outer:List Env}{s:Shared}{H:Hp}{E:XK} : cO (ig (fi P w mg) P w K mg base N qual scope f cd A outer s H E) E:={rfl,rfl,rfl,λ_ _ h=>h}
section
variable{X:Cx}{pins:List (Addr×Obj)}{σ:St}{H H':Hp}{s:Shared}{E E':XK}
theorem cO.mem(L:cO X E):b∈k9 X.stack↔b=X.env.locals\/b∈X.fs:=by unfold Cx.fs k9;rw[L.st,List.filterMap_cons,L.fr];exact zf
theorem cO.D6(L:cO X E)(I:Inv X pins σ H s)(e:X.cZ.heap.get? b=some o)(h:b∉X.fs):b∉k9 X.stack:=λz=>by rcases L.mem.mp z with z|z;have:=zt e;have h2:=I.ok.above;rw[z]at this;exact absurd (zl this h2)<|yx _;exact h z
theorem cO.fly(L:cO X E)(I:Inv X pins σ H s)(F:qC X.prog X.w X.mg X.stack H H' s.heap a cls a0 B h)(f2:Heap.FlyingW B X.outer a cls a0 h2)(u2:h.UpToSlots h2)(c2:FQ .none a h2\/X.mg "NoMark"= some cls):
  qC X.prog X.w X.mg X.outer X.uO H' X.cZ.heap a cls a0 B h2 where
 cx:=c2
 fl:=f2
 aG:=F.aG
 keep:=λb o e n hf=>F.keep b o (I.base.keep b o e n hf<|by rw[L.ex];simp) (I.base.free b o e n<|by rw[L.ex];simp)<|L.D6 I e hf
 there:=λb o e hf=>by
  obtain⟨o',q⟩:=I.base.there b o e<|by rw[L.ex];simp
  exact F.there b o' q<|L.D6 I e hf
 slot:=λb o e hf=>by
  obtain⟨sl,q⟩:=I.base.slot b o e (I.ok.D5 b hf) hf<|by rw[L.ex];simp
  obtain⟨sl1,q1⟩:=F.slot b _ q<|L.mem.mpr<|.inr hf
  obtain⟨_,o2,q2,hd⟩:=F.fl.2.2.1.mem<|L.mem.mpr<|.inr hf
  obtain⟨wU,q3⟩:=u2 b o2 q2 hd
  rw[q1]at q2;cases q2
  exact⟨wU,q3⟩
 free:=λb o e n=>by
  obtain⟨o',q⟩:=I.base.there b o e<|by rw[L.ex];simp
  exact F.free b o' q<|I.base.free b o e n<|by rw[L.ex];simp
 fZ:=λb xs e=>F.fZ b xs<|I.base.fZ b xs e
 fG:=λb o u e=>F.fG b o u<|I.base.fG b o u e
 fH:=λb ps e=>by
  obtain⟨m1,q1⟩:=I.base.fH b ps e
  obtain⟨m2,q2⟩:=F.fH b _ q1
  exact{m1++m2,by rw[q2,Array.append_assoc]}
theorem TN(L:cO X E)(hE:∀c d H',E' c d H'->E c d H'):Passes (fi X.prog X.w X.mg) X E':=λpins σ H s e s' I h=>by
 obtain⟨a,cls,a0,B,H',rfl,os,bare,F,q⟩:=h;refine L.xe _ _ ?_;have ub:X.A.frames=some (X.env::X.outer):=by rw[I.ok.frames,L.st]
 have fl:Heap.FlyingW B (X.env::X.outer) a cls a0 s'.heap:=by rw[<-L.st];exact F.fl
 rcases F.cx with hc|hc;obtain⟨f1,f2,f3,f4⟩:=fl;exact O9 ub L.fr f1 f2 f3 f4.at hc λh2 f2 u2 c2=>{a,cls,a0,B,H',rfl,os.trans I.os,bare,L.fly I F f2 u2<|.inl c2,hE _ _ _ q};exact wpAny_leaves_onW ub L.fr fl λh2 f2 u2=>{a,cls,a0,B,H',rfl,os.trans I.os,bare,L.fly I F f2 u2<|.inr hc,hE _ _ _ q}
theorem O_(I:Inv X pins σ H s):kr X.prog X.w H (hideAll s.heap<|k9 X.stack):=λa o e=>(I.aG a o e).lR (λb u hb q=>hideAll_get _ q λz=>by have n:=I.pR b z;rcases hb with rfl|hb;rw[e]at n;cases n;rw[hb]at n;cases n) (λ_ q=>q) λ_ _ q=>q
theorem A_(L:cO X E)(I:Inv X pins σ H s)(hk:∀b o,s.heap.get? b=some o->h'.get? b=some o)(hn:s.heap.get? a=none)(he:h'.get? a=some oe)(hd:oe.data=.fields vs) (h0:vs[0]?=some a0) (h1:vs[1]?=some .none) (h2:vs[2]?=some c) (hc:c=.none\/X.mg "NoMark"= some oe.cls) (hE:E oe.cls none H):X.xe (.ref a) {s with heap:=h'}:=by
 refine L.xe _ _ ?_;have ub:X.A.frames=some (X.env::X.outer):=by rw[I.ok.frames,L.st]
 have RC:∀env∈X.stack,∀b,env.frame=some b->b∈k9 X.stack:=λenv he b hb=>List.mem_filterMap.mpr ⟨env,he,hb⟩;have ff:s.heap.FunFrames (hideAll s.heap<|k9 X.stack) (X.env::X.outer):=by rw[<-L.st];exact PySem.W.funFrames_hide I.stack RC
 have hb:(hideAll s.heap<|k9 X.stack).get? a=none:=by cases z:(hideAll s.heap<|k9 X.stack).get? a with|none=>rfl|some o=>have:=of_hideAll _ z;rw[hn]at this;cases this
 refine Kz (base:=hideAll s.heap<|k9 X.stack) ub L.fr (λb o q=>hk b o<|of_hideAll _ q) hb (ff.of_keeps λb o q _=>{o,hk b o q,rfl}) he hd h0 h1 h2 λh2 x1 x4 c2=>?_;refine{a,oe.cls,a0,_,H,rfl,I.os,I.bare,{x1,O_ I,λb o e n hf=>?_,λb o e hf=>?_,λb o e hf=>?_,λb o e n=>I.base.free b o e n<|by rw[L.ex];simp,I.base.fZ,I.base.fG,I.base.fH,?_},hE};exact hideAll_get _ (I.base.keep b o e n hf<|by rw[L.ex];simp)<|L.D6 I e hf;obtain⟨o',q⟩:=I.base.there b o e (by rw[L.ex];simp);exact{o',hideAll_get _ q<|L.D6 I e hf};obtain⟨sl,q⟩:=I.base.slot b o e (I.ok.D5 b hf) hf (by rw[L.ex];simp);obtain⟨_,o2,q2,hd⟩:=I.i6.mem hf;obtain⟨wU,q3⟩:=x4 b o2 (hk _ _ q2) hd;rw[q]at q2;cases q2;exact⟨wU,q3⟩;rcases hc with rfl|hc;exact .inl c2;exact .inr hc
theorem oz(L:cO X E)(I:Inv X pins σ H s)(hx:Heap.MadeExcOf s.heap h' a cls args)(hE:E cls none H):X.xe (.ref a) {s with heap:=h'}:=by obtain⟨t,he,_,_⟩:=hx.there;exact A_ L I (λb o q=>hx.keeps b o q) hx.new he rfl rfl rfl rfl (.inl rfl) hE
end
abbrev nj:List Value:=[.type "ValueError",.type "Exception",.type "BaseException",.type "object"]
structure XC(K:Frag)(C:Addr):Prop where
 q:excIn K C nj "ValueError.__new__"= true
def qD(h:Heap)(C:Addr)(bm:List Value):Prop:=∃N nm q bs hdct sn sub ab col dd k0 k1 k2 k3 k5 mN,h.get? C=some (excClassObj nm q C N bs bm hdct sn sub ab col dd k0 k1 k2 k3 k5 "ValueError.__new__")/\h.Ns N mN/\mN "__init__"= none/\OwnTail h nj bm
theorem XC.at{K:Frag}{C:Addr}{h:Heap}(x:XC K C)(X:K.In h):∃bm,qD h C bm:=by have q:=x.q;unfold excIn at q;split at q;rename_i dd cd sl ho;split at q;rename_i C' bm' k0 k1 k2 k3 n k5 hm hs;simp only[zQ,beq_iff_eq,Bool.not_eq_true']at q;obtain⟨⟨⟨⟨⟨q1,q2⟩,TQ⟩,ht⟩,aG⟩,WB⟩:=q;subst q1;subst q2;obtain⟨nm,bs,mro,ns,qn,hd,sn,sub,ab,col,del⟩:=cd;dsimp only at hm TQ aG WB;subst hm;subst TQ;obtain⟨sl⟩:=sl;dsimp only at hs;subst hs;exact{bm',ns,nm,qn,bs,hd,sn,sub,ab,col,dd,k0,k1,k2,k3,k5,_,X _ _ ho,.of_isNs<|PySem.W.isNs_of_in X aG,PySem.W.nsMap_none_of_in X aG WB,PySem.W.tail_of_in X ht};cases q;cases q
theorem qD.base(x:qD h C bm):bm.contains (.type "BaseException")=true:=by obtain⟨_,_,_,_,_,_,_,_,_,_,_,_,_,_,_,_,_,_,_,T⟩:=x;exact T.hasType<|by decide
section
variable{C D:Addr}{bmD:List Value}{E:XK}
theorem w_{M:Model}{A:Around}{E:Value->Shared->Prop}{h:Heap}{g:Array GenState}{d:Drawn}{tk:Nat}{os:OsState}{a:Addr}{oe:Obj}{b:Bool}{Q:Bool->Shared->Prop}(L:Looks M h (isSubtype (.ref C)<|.ref D) b)(cD:qD h D bmD) (he:h.get? a=some oe) (FY:oe.cls=.ref C) (hq:Q b ⟨h,g,d,tk,os⟩):wpAny M A (excMatches (.ref a)<|.ref D) Q E ⟨h,g,d,tk,os⟩:=by
 have Yv:=cD.base;obtain⟨N',nm',q',bs',aa7,sn',acW,ab',acX,JI,k0',k1',k2',k3',k5',mN',hD,_,_,_⟩:=cD;have Yw:(Value.ref D::bmD).contains (.type "BaseException")=true:=by rw[List.contains_cons,Yv,Bool.or_true]
 have f:=tc_notTuple;unfold excMatches;repeat (first|(with_reducible refine wpAny_loadPart_at he ?_;rw[FY])|with_reducible refine wpAny_loadPart_at hD ?_|with_reducible refine L.at ?_|(with_reducible refine wpAny_isSubtype_exc hD ?_;rw[Yw])|wp_step)
 cases b<;>(wp_walk;exact hq)
end
def sR(a:Addr)(cls:Value):HO:=.ext λh=>∃o vs,h.get? a=some o/\o.cls=cls/\o.data=.fields vs
section
variable{P:Program}{w:World}{mg:Str->Option Value}{outer:List Env}{H H':Hp}{h0:Heap}{a:Addr}{cls a0:Value}{B h:Heap}
theorem qC.fresh(F:qC P w mg outer H H' h0 a cls a0 B h)(e:h0.get? b=some o):b≠a:=by rintro rfl;by_cases hf:b∈k9 outer;obtain⟨_,o1,q1,hd⟩:=F.fl.2.2.1.mem hf;obtain⟨oe,vs,he,_,hdd,_⟩:=F.fl.first;rw[q1]at he;cases he;exact hd vs hdd;obtain⟨o',q⟩:=F.there b o e hf;rw[F.fl.2.1]at q;cases q
theorem qC.unT(F:qC P w mg outer H H' h0 a cls a0 B h):Un (k9 outer) [] H (upd H' a u) h0 h where
 keep:=F.un.keep
 slot:=F.un.slot
 free:=λb o e n x=>by rw[ar<|F.fresh e];exact F.un.free b o e n x
 there:=F.un.there
 fZ:=λb xs e=>by
  have q:=F.fZ b xs e
  rw[ar<|ax q F.hn];exact q
 fG:=λb o xs e=>by
  have q:=F.fG b o xs e
  rw[ar<|ax q F.hn];exact q
 fH:=λb ps e=>by
  obtain⟨m,q⟩:=F.fH b ps e
  exact{m,by rw[ar<|ax q F.hn];exact q}
theorem qC.TR(F:qC P w mg outer H H' h0 a cls a0 B h):kr P w (upd H' a<|sR a cls) h:=λb u e=>by by_cases hb:b=a;subst hb;rw[aC]at e;cases e;obtain⟨oe,vs,he,hc,hd,_⟩:=F.fl.first;exact{⟨oe,vs,he,hc,hd⟩,⟨oe,he⟩,by rintro h1 h2 ⟨o,vs,q,r⟩ k;exact{o,vs,k o q,r}};rw[ar hb]at e;exact(F.Yu b u e).lR (λ_ _ _ q=>q) (λc q=>by rw[ar<|ax q F.hn];exact q) λc xs q=>by rw[ar<|ax q F.hn];exact q
end
def XE(X:Cx)(pins:List<|Addr×Obj)(E:St->XK)(e:Value)(s':Shared):Prop:=∃av H1 s1,Inv X pins av H1 s1/\fi X.prog X.w X.mg X.stack H1 s1 (E av) e s'
abbrev TX:=(St->XK)->TS
def TU(X:Cx)(st:List Stmt)(t:TX):Prop:=∀(pins:List (Addr×Obj))(s:Shared)(σ:St)(H:Hp)(D:Ends)(E:St->XK),Inv X pins σ H s->t E D σ H->wpAny (model X.prog X.w) X.A (execs st X.env) (SP X pins D) (XE X pins E) s
noncomputable abbrev Cx.ji(X:Cx)(a:Addr):Cx:={X with A:=X.A.mark<|some<|.ref a,calm:=false,xe:=λ_ _=>False}
section
variable{X:Cx}{pins:List (Addr×Obj)}{σ:St}{H:Hp}{s:Shared}
theorem Cx.Ok.ji(ok:X.Ok)(a:Addr):(X.ji a).Ok:={ok.mod,ok.kind,ok.glob,ok.blt,ok.above,ok.inj,ok.has,ok.MB,λz=>(nomatch (show false=true from z)),ok.frames,ok.NZ,ok.Sj,ok.bs,ok.AE,ok.wO,ok.AF,ok.i6,ok.D5}
theorem Inv.ji(I:Inv X pins σ H s)(a:Addr):Inv (X.ji a) pins σ H s:={I.ok.ji a,I.os,I.bare,I.base,I.loc,I.cell,I.free,I.c8,I.pin,I.aG,I.len}
theorem Inv.u1(I:Inv (X.ji a) pins σ H s)(ok:X.Ok):Inv X pins σ H s:=⟨ok,I.os,I.bare,I.base,I.loc,I.cell,I.free,I.c8,I.pin,I.aG,I.len⟩
theorem name_goes(I:Inv X pins σ H s)(hN:X.N.Nodup)(hi:X.N[i]?=some n)(hx:X.env.scope.names.lookup n=some .local) (h:∀s',Inv X pins (σ.set i none) H s'->Q () s'):wpAny M A (do bindName X.env n .none;unbindBehindTheSuite X.env n pos) Q E s:=by
 obtain⟨m,hn,hl⟩:=id I.loc;have FY:(X.env.scope.kind==.class||(X.env.scope.kind==.module&&X.env.locals != X.env.globals))=false:=by rw[I.ok.kind];rfl
 have JU:i<σ.length:=by rw[I.len];exact(zg.mp hi).1
 have old:∀b o,X.cZ.heap.get? b=some o->b≠X.env.locals:=λb o e=>zy<|zl (zt e) I.ok.above;refine wpAny_nameGoes_keeps hx hn FY λh' v JG hs=>h _ ?_;refine{I.ok,I.os,I.bare,{λb o e n hb hx=>(hs.2 b<|old b o e).trans<|I.base.keep b o e n hb hx,λb o e n hb hx=>?_,I.base.free,λb o e hx=>?_,I.base.fZ,I.base.fG,I.base.fH},{_,JG,λj y v' e1 e2 e3=>?_},λy c e=>?_,I.free,I.c8,λp hp=>?_,λb ob e=>?_,by simpa using I.len};obtain⟨sl,e1⟩:=I.base.slot b o e n hb hx;exact{sl,(hs.2 b<|old b o e).trans e1};obtain⟨o',e1⟩:=I.base.there b o e hx;exact{o',(hs.2 b<|old b o e).trans e1};have hj:j≠i:=by rintro rfl;rw[List.getElem?_set_self JU]at e2;cases e2
 rw[List.getElem?_set_ne<|Ne.symm hj]at e2;obtain⟨u',r',q⟩:=hl j y v' e1 e2 e3;refine{u',r',?_};have hy:y≠n:=λe=>hj<|qj hN e1<|e ▸ hi;rcases q with⟨k,e⟩|⟨k,c,e,z⟩;exact .inl {k,by show(if y=n then v else m y)=some u';rw[if_neg hy];exact e};exact .inr {k,c,e,z.sameBut hs<|I.JT y c e};obtain⟨w',z⟩:=I.cell y c e;exact{w',z.sameBut hs<|I.JT y c e};obtain⟨e,n,ne,nf,d⟩:=I.pin p hp;exact{(hs.2 p.1 ne).trans e,n,ne,nf,d};refine(I.aG b ob e).lR (λc w' hc q=>(hs.2 c ?_).trans q) (λ_ q=>q) λ_ _ q=>q;rintro rfl;rcases hc with z|z;rw[<-z,I.free]at e;cases e;rw[I.free]at z;cases z
end
noncomputable def Ends.less(D:Ends)(i:Nat):Ends:={nx:=λσ H=>D.nx (σ.set i none) H,rt:=D.rt,bk:=λσ H=>D.bk (σ.set i none) H,ct:=λσ H=>D.ct (σ.set i none) H}
def Yx(K:Frag)(i:Nat)(C0:Addr)(tb:TX)(ts:TS):TS:=λD σ H=>tb (λav cls _ H'=>∃C,cls=.ref C/\mroIn K C (.ref C0)=some true/\∀a,H' a=none->ts (D.less i) (av.set i<|some<|.ref a) (upd H' a<|sR a<|.ref C)) D σ H
section
variable{X:Cx}{i:Nat}{n x:Str}{C0:Addr}{body xb:List Stmt}{GX:Stmt}{np Eu pos:Pos}{tb:TX}{ts:TS}
theorem Pa(om:X.stack=X.env::X.outer)(fr:X.env.frame=some X.env.locals)(hN:X.N.Nodup)(hi:X.N[i]?=some n)(hx:X.env.scope.names.lookup n=some .local)(Yy:Gl X x)(hm:X.mg x=some (.ref C0))(c0:XC X.K C0) (hb:TU X body tb) (hs:∀a,AI (X.ji a) (GX::xb) ts) (i8:autoParam ((x==("__debug__": Str))=false) qQZ): PS X (.Try body [.ExceptHandler (some<|.Name x np) (some n) (GX::xb) Eu] [] [] pos) (Yx X.K i C0 tb ts):=by intro pins s σ H D I h;refine wpAny_Try_except<|yj (hb pins s σ H D _ I h) (λf s1 q=>?_) λe s1 q=>?_;{cases f with|next=>(obtain⟨av,H',I',q⟩:=q;exact Cz pins s1 av H' D I' q)|ret v=>exact q|brk=>exact q|cont=>exact q};{obtain⟨av,H1,s2,I2,a,cls,a0,B,H',rfl,os,bare,F,C,rfl,Pb,hq⟩:=q;have ub:X.A.frames=some (X.env::X.outer):=(by rw[I.ok.frames,om]);have fl:Heap.FlyingW B (X.env::X.outer) a (.ref C) a0 s1.heap:=(by rw[<-om];exact F.fl);refine wpAny_looks_onW ub fr fl λh4 TV u4=>?_;refine wpAny_landsW TV λh5 f5 u5=>?_;have F5:qC X.prog X.w (λ_=>some<|.ref C) X.stack H1 H' s2.heap a (.ref C) a0 B h5:=F.loose.on (by rw[om];exact f5) (u4.trans u5)<|.inr rfl;have I5:Inv X pins av (upd H' a<|sR a<|.ref C) {s1 with heap:=h5}:=I2.FZ (ch:=[]) os F5.unT F5.TR bare λb z=>absurd z (by simp);refine wpAny_handleBy_cons (codeAny_handlers_test<|ic (I5.ji a) Yy hm ?_ i8) (by intro q;cases q);obtain⟨oe,vs,he,hc,hd,_⟩:=F5.fl.first;obtain⟨bm0,c0'⟩:=c0.at I5.ku;refine w_ (PySem.W.looks_mroIn I5.ku Pb) c0' he hc ?_;refine codeAny_handlers_suite_as ?_;refine lands_againW f5 λh6 f6 u6=>?_;have F6:qC X.prog X.w (λ_=>some<|.ref C) X.stack H1 H' s2.heap a (.ref C) a0 B h6:=F5.on (by rw[om];exact f6) u6<|.inr rfl;have I6:Inv X pins av (upd H' a<|sR a<|.ref C) {s1 with heap:=h6}:=I2.FZ (ch:=[]) os F6.unT F6.TR bare λb z=>absurd z (by simp);refine lT (X:=X.ji a) (I6.ji a) hN hi (.inl hx) (v:=.ref a) rfl (λs7 I7=>?_)<|.inr hx;refine yj (hs a pins s7 _ _ _ I7<|hq a F.hn) (λf s8 q8=>?_) λ_ _ z=>False.elim z;cases f with|next=>(obtain⟨KA,H8,I8,q8⟩:=q8;exact name_goes (I8.u1 I.ok) hN hi hx λs9 I9=>{_,H8,I9,q8})|brk=>(obtain⟨KA,H8,I8,q8⟩:=q8;exact name_goes (I8.u1 I.ok) hN hi hx λs9 I9=>{_,H8,I9,q8})|cont=>(obtain⟨KA,H8,I8,q8⟩:=q8;exact name_goes (I8.u1 I.ok) hN hi hx λs9 I9=>{_,H8,I9,q8})|ret u=>obtain⟨v,KA,H8,I8,r8,q8⟩:=q8;exact name_goes (I8.u1 I.ok) hN hi hx λs9 I9=>{v,_,H8,I9,r8,q8}}
end
structure XA(K:Frag)(C:Addr):Prop where
 ga:findIn K (.ref C) "__getattribute__"= some (some<|.builtin "BaseException.__getattribute__")
 gh:findIn K (.ref C) "__getattr__"= some none
 cl:findIn K (.ref C) "__class__"= some (some<|.builtin "object.__class__")
section
variable{prog:Program}{w:World}{A:Around}{E:Value->Shared->Prop}{h:Heap}{g:Array GenState}{d:Drawn}{t:Nat}{os:OsState}{a:Addr}{o:Obj}{C:Addr}{bm:List Value}{K:Frag}
theorem Pc(c:qD h C bm)(Pd:bm.contains (.type "object")=true)(hx:h.get? a=some o)(hc:o.cls=.ref C)(hq:R (.ok<|.ret<|.ref C) ⟨h,g,d,t,os⟩): codeAny (model prog w) A (.call (.builtin "getset_descriptor.__get__") {[.builtin "object.__class__",.ref a,.ref C],[]}) R ⟨h,g,d,t,os⟩:=by
 obtain⟨N,nm,q,bs,hdct,sn,sub,ab,col,dd,k0,k1,k2,k3,k5,mN,hC,_,_,_⟩:=c;have hT5:(⟨h,g,d,t,os⟩:Shared).TypeIs (.builtin "object.__class__") "getset_descriptor":=F.typeOf_object_class;have ow: ".".intercalate ("object.__class__".cutAt '.').dropLast ="object":=by trivial
 have Yw:(Value.ref C::bm).contains (.type<|".".intercalate ("object.__class__".cutAt '.').dropLast)=true:=by rw[ow,List.contains_cons,Pd,Bool.or_true]
 refine codeAny_call_builtin F.slot_gs_get.plain F.entry_gs_get<|F.slot_gs_get.check _ _ _ _ _ _ _ _ hT5 (F.args_gs_get _ _ _) ?_;repeat (any_goals (first|assumption|(with_reducible refine wpAny_loadPart_at hx ?_;rw[hc])|(with_reducible refine wpAny_isSubtype_exc hC ?_;rw[Yw])|wp_step))
 refine{Code.quiet_builtin _<|by trivial,yI F.entry_object_class ?_};repeat (any_goals (first|assumption|(with_reducible refine wpAny_loadPart_at hx ?_;rw[hc])|wp_step))
theorem GY(c:qD h C bm)(hx:h.get? a=some o)(hc:o.cls=.ref C)(hq:Q () ⟨h,g,d,t,os⟩):wpAny M A (checkBuiltinCall "BaseException.__getattribute__" {[.ref a,nameV],[]}) Q E ⟨h,g,d,t,os⟩:=by
 have hb:=c.base;obtain⟨N,nm,q,bs,hdct,sn,sub,ab,col,dd,k0,k1,k2,k3,k5,mN,hC,_,_,_⟩:=c;have k1:builtinKind "BaseException.__getattribute__"= some .slot:=by trivial
 have k2:splitId "BaseException.__getattribute__"= some ("BaseException","__getattribute__"):=by trivial
 have hB:(Value.ref C::bm).contains (.type "BaseException")=true:=by rw[List.contains_cons,hb,Bool.or_true]
 have ha:=F.args_bexc_ga (.ref a) nameV;simp only[checkBuiltinCall,k1,k2];refine zb ?_;unfold isInstance;repeat (first|(with_reducible refine wpAny_loadPart_at hx ?_;rw[hc])|(with_reducible refine wpAny_isSubtype_exc hC ?_;rw[hB])|wp_step)
 exact hq
theorem GZ(X:K.In h)(xa:XA K C)(c:qD h C bm)(Pd:bm.contains (.type "object")=true)(hx:h.get? a=some o)(hc:o.cls=.ref C)(hq:Q (.done<|.ret<|.ref C) ⟨h,g,d,t,os⟩): wpAny (model prog w) A (Builtin.«object.__getattribute__» {[.ref a,.str "__class__" tk],[]}) Q E ⟨h,g,d,t,os⟩:=by
 have hT5:(⟨h,g,d,t,os⟩:Shared).TypeIs (.builtin "object.__class__") "getset_descriptor":=F.typeOf_object_class;have L1:=looks_findIn (M:=model prog w) X xa.cl;have f5:=F.typeOf_object_class;have f6:=F.slot_gs_get.lookup;have f7:=F.slot_gs_set.lookup;repeat (any_goals (first|assumption|(with_reducible refine wpAny_loadPart_at hx ?_;rw[hc])|with_reducible refine L1.at ?_|wp_step))
 refine Pc c Pd hx hc ?_;repeat (any_goals (first|assumption|wp_step))
theorem TY(X:K.In h)(xa:XA K C)(c:qD h C bm)(Pd:bm.contains (.type "object")=true)(hx:h.get? a=some o)(hc:o.cls=.ref C)(hq:Q (.ref C) ⟨h,g,d,t,os⟩): wpAny (model prog w) A (getAttrBy (.ref a) (.str "__class__" tk) false) Q E ⟨h,g,d,t,os⟩:=by
 have FB:=F.attrBase_ValueError;have f3:=FB.ga.bind<|.ref a;have L1:=looks_findIn (M:=model prog w) X xa.ga;have L2:=looks_findIn (M:=model prog w) X xa.gh;have G0:(Value.builtin "BaseException.__getattribute__"== Value.builtin "object.__getattribute__")=false:=by trivial
 have hx0:(false&&onTheHeap (Value.builtin "BaseException.__getattribute__"))=false:=rfl;have Ew:(onTheHeap (Value.ref C)&&Value.builtin "BaseException.__getattribute__"== Value.builtin "object.__getattribute__")=false:=by rw[G0];rfl
 repeat (any_goals (first|assumption|(with_reducible refine wpAny_loadPart_at hx ?_;rw[hc])|with_reducible refine L1.at ?_|with_reducible refine L2.at ?_|wp_step))
 refine codeAny_call_builtin FB.ga.plain F.entry_bexc_ga<|GY c hx hc<|GZ X xa c Pd hx hc ?_;repeat (any_goals (first|assumption|wp_step))
theorem G1(X:K.In h)(xa:XA K C)(c:qD h C bm)(Pd:bm.contains (.type "object")=true)(hx:h.get? a=some o)(hc:o.cls=.ref C)(hq:Q (some<|.ref C) {h,g,d,t+1,os}): wpAny (model prog w) A (getAttr? (.ref a) "__class__") Q E ⟨h,g,d,t,os⟩:=by unfold getAttr? getAttrBy?;repeat (any_goals (first|assumption|with_reducible apply TY X xa c Pd hx hc|wp_step))
end
theorem qD.obj(x:qD h C bm):bm.contains (.type "object")=true:=by obtain⟨_,_,_,_,_,_,_,_,_,_,_,_,_,_,_,_,_,_,_,T⟩:=x;exact T.hasType<|by decide
theorem xf{K:Frag}{a C:Addr}(c:XC K C)(xa:XA K C):KitX K (.ref a) (.ref C) (λh=>∃o vs,h.get? a=some o/\o.cls=.ref C/\o.data=.fields vs) where
 ty:=by
  rintro M h X ⟨o,vs,hx,hc,_⟩
  exact hc ▸ (PySem.W.Looks.ld hx).andThen .now
 it:=λM h X _=>by
  obtain⟨bm,N,nm,q,bs,hdct,sn,sub,ab,col,dd,k0,k1,k2,k3,k5,mN,hC,_,_,_⟩:=c.at X
  intro A Q E s k q
  unfold isType loadHead
  exact zb<|wpAny_loadPart (k _ _ hC)<|zw q
 ne:=λh tp dd az n sl X htp=>by
  obtain⟨bm,N,nm,q,bs,hdct,sn,sub,ab,col,JI,k0,k1,k2,k3,k5,mN,hC,_,_,_⟩:=c.at X
  refine Bool.eq_false_iff.mpr λz=>?_
  have e:C=tp:=Value.ref.inj<|beq_iff_eq.mp z
  subst e
  have q:=congrArg (λx=>x.map (·.cls))<|hC.symm.trans htp
  have q:some (Value.type "type")=some (Value.type "tuple"):=q
  exact absurd q<|by decide
 ca:=λ{prog w A E Q s} X ⟨o,vs,hx,hc,_⟩ k=>by
  obtain⟨h,g,d,t,os⟩:=s
  obtain⟨bm,c'⟩:=c.at X
  exact G1 X xa c' c'.obj hx hc k
section
variable{X:Cx}
theorem u3:dy X (.builtin "isinstance") (λxs H Q=>∃a C c u b,xs=[.ref a,c]/\H a=some (sR a<|.ref C)/\XC X.K C/\XA X.K C/\RelV c u/\(∀u',RelV c u'->u'=u)/\kitOne X.K (.ref C) u=some b/\Q (.bl b) H):=by intro pins s σ H xs us Q I r h;obtain⟨a,C,c,u,b,rfl,ha,cC,xa,rc,uc,e,q⟩:=h;obtain⟨v,w',rfl,rv,m9⟩:=vals2 r;have:=uc w' m9;subst this;cases (show v=Value.ref a from rv);obtain⟨p,_⟩:=I.aG a _ ha;exact kia_one (xf cC xa) I.ku p e (λz=>nomatch z) λtk=>{.bl b,H,I.tok tk,rfl,q}
theorem MQ(L:cO X E):Passes (fi X.prog X.w X.mg) X E:=TN L λ_ _ _ h=>h
end
theorem kM{X:Cx}{K:Frag}(hK:X.K=K):dy X (.builtin "isinstance") (λxs H Q=>∃a C c u b,xs=[.ref a,c]/\H a=some (sR a<|.ref C)/\XC K C/\XA K C/\RelV c u/\(∀u',RelV c u'->u'=u)/\kitOne K (.ref C) u=some b/\Q (.bl b) H):=by subst hK;exact u3
noncomputable def iS(l:List Str):List Str:=l.foldl (λc x=>if x∈c then c else c++[x]) []
theorem xg(l:List Str)(x:Str):iS (l++[x])=if x∈iS l then iS l else iS l++[x]:=by unfold iS;rw[List.foldl_append];rfl
theorem KC:∀(l:List Str),(iS l).length<=l.length:=λl=>by
 have all:∀(r c:List Str),(r.foldl (λc x=>if x∈c then c else c++[x]) c).length<=c.length+r.length:=by intro r;induction r with|nil=>intro c;simp|cons x r ih=>intro c;rw[yG];refine zL (ih _) ?_;split<;>simp<;>try lia
 simpa [iS]using all l []
section
variable{prog:Program}{w:World}{A:Around}{R:Result->Shared->Prop}{I:Addr}{fp wr:List Addr}{G:Array GenState->Array GenState->Prop}{n:Nat}{P:Nat->Value->Prop}{St:Nat->Shared->Prop}
theorem G4(W:WalksS prog w A.in1 I fp wr G n P St)(S:Addr)(hSf:S∉fp)(xs:List Str)(hx:xs.length=n)(Pe:∀i v,P i v->∃x t,xs[i]?=some x/\v=.str x t)(hb:n+1<scanBound): ∀(k i:Nat)(s:Shared),i+k=n->St i s->s.heap.SetOf (strKind prog w) S (λy=>decide<|y∈iS (xs.take i)) (iS<|xs.take i).length->(∀s',Moved (S::wr) G s s'->s'.heap.SetOf (strKind prog w) S (λy=>decide<|y∈iS xs) (iS xs).length->R (.ok<|.ret .none) s')->codeAny (model prog w) A (.builtin "set.update.loop" {[.ref S,.ref I],[]}) R s:=by have nw:S∉wr:=λh=>hSf<|W.sub _ h;have up:∀b∈wr,b∈S::wr:=λb hb=>zh _ hb;have mv:∀{i:Nat}{s s':Shared},Moved wr G s s'->s.heap.SetOf (strKind prog w) S (λy=>decide<|y∈iS (xs.take i)) (iS<|xs.take i).length->s'.heap.SetOf (strKind prog w) S (λy=>decide<|y∈iS (xs.take i)) (iS<|xs.take i).length:=λhm ⟨o,es,ep,tb,ho,rest⟩=>{o,es,ep,tb,hm.heap S _ nw ho,rest};intro k;induction k with|zero=>intro i s hk om hS hR;have e:i=n:=(by lia);subst e;refine yI F.entry_set_update_loop ?_;rw[Around.under_plainId F.plain_set_update_loop _];show wpAny _ A.in1 (pyNext (.ref I) >>=_) _ _ s;refine zb<|W.done s _ _ om λs' hm=>?_;show wpAny _ A.in1 (ret Value.none) _ _ s';have q:=mv hm hS;rw[<-hx,List.take_length]at q;exact zw (hR s' (hm.mono up) q)|succ k ih=>intro i s hk om hS hR;have lt:i<n:=(by lia);refine yI F.entry_set_update_loop ?_;rw[Around.under_plainId F.plain_set_update_loop _];show wpAny _ A.in1 (pyNext (.ref I) >>=_) _ _ s;refine zb<|W.item i s _ _ lt om λv s' hP Pf hm=>?_;obtain⟨x,t,ex,rfl⟩:=Pe i v hP;have q:=mv hm hS;show wpAny _ A.in1 (holding [Value.str x t] (setAdd S<|.str x t) >>=_) _ _ s';refine zb<|yJ ?_;unfold setAdd;refine yJ ?_;refine zb<|(strKind prog w).pyHash (k:=x) (strKind_is _ _ _ _) ?_;have room:(iS<|xs.take i).length+1<scanBound:=(by have:=KC<|xs.take i;rw[yh]at this;lia);refine wpAny_setAddHashed_of (knd:=strKind prog w) (s:={s' with toks:=s'.toks+1}) (strKind_is _ _ _ _) rfl q room λh' KG q2=>?_;have tk:xs.take (i+1)=xs.take i++[x]:=(by rw[List.take_succ,ex];rfl);have qi:h'.SetOf (strKind prog w) S (λy=>decide<|y∈iS (xs.take<|i+1)) (iS<|xs.take<|i+1).length:=(by refine SetOf_congr q2 (λy=>?_) ?_;rw[tk,xg];by_cases h:x∈iS (xs.take i);rw[if_pos h];by_cases hy:y=x;subst hy;simp[h];simp[hy];rw[if_neg h];simp;rw[tk,xg];by_cases h:x∈iS (xs.take i);rw[if_pos h,if_pos<|by simpa using h];rw[if_neg h,if_neg<|by simpa using h];simp);refine zw {plainId_quiet F.plain_set_update_loop _,ih (i+1) _ (by lia) (W.frame _ s' _ _ Pf (yS _) λb hb o e=>?_) qi λAX Pg YA=>?_};rw[KG.2 b (λh:b=S=>hSf<|by rw[<-h];exact hb)];exact e;refine hR AX (Moved.trans W.gtrans ((hm.mono up).then_heap (yS _) λb o hb e=>?_) Pg) YA;rw[KG.2 b (λh:b=S=>hb<|by rw[h];exact zp)];exact e
theorem xh(hh:A.handled=none)(hl:s.heap.IsList l items)(hx:xs.length=items.size) (hi:∀(i:Nat)(v:Value),items[i]?=some v->∃x t,xs[i]?=some x/\v=.str x t) (hb:items.size+1<scanBound) (h:∀(h':Heap)(tk:Nat),h'.SetOf (strKind prog w) s.heap.objs.size (λy=>decide<|y∈iS xs) (iS xs).length->(∀b o,b<s.heap.objs.size->s.heap.get? b=some o->h'.get? b=some o)->Q (.ref s.heap.objs.size) {s with heap:=h',toks:=tk}): wpAny (model prog w) A (call (.type "set") [.ref l]) Q E s:=by
 obtain⟨c,tl,m0⟩:=F.called_set.mro;have m1:=F.called_set.made;have m2:=F.called_set.sub;refine wpAny_call<|codeAny_of_tree ?_;show wpAny _ _ (callAny (.type "set") _) _ _ _;refine zw {Code.quiet_builtin _<|by trivial,yI F.entry_type_call ?_};rw[Around.under_plain (weight_type_call_type "set" [.ref l] []) rfl];have m3:=F.called_set.notType;have m4:=F.called_set.canCreate;have m5:=F.typeCall_set_1<|.ref l;repeat (any_goals (first|assumption|wp_step))
 refine yN (code_set_new_1 (.ref l) (E:=E) (Q₁:=λob s1=>∃led:Bool,ob=.ref s.heap.objs.size/\s1={s with heap:=s.heap.push {cls:=.type "set",dict:=none,data:=.set #[] 0 (.fresh 0 0 led)}}) λled=>⟨led,rfl,rfl⟩) λr s1 hr=>?_
 cases r with
 |error e=>exact hr
 |ok fl =>
  cases fl with
  |ret ob =>
   obtain⟨led,rfl,rfl⟩:=hr;generalize hO:({cls:=.type "set",dict:=none,data:=.set #[] 0 (.fresh 0 0 led)} : Obj)=O;have gS:(s.heap.push O).get? s.heap.objs.size=some O:=zk _ (by rw[<-hO];rfl);have tS:Shared.TypeIs {s with heap:=s.heap.push O} (.ref s.heap.objs.size) "set":={_,gS,by rw[<-hO]};have i1:=F.called_set.init.lookup;have i2:=F.called_set.init.bind<|.ref s.heap.objs.size;(repeat (any_goals (first|assumption|wp_step)));refine yN (codeAny_call_builtin (R:=wants (λr s2=>r=.none/\∃h' tk,s2={s with heap:=h',toks:=tk}/\h'.SetOf (strKind prog w) s.heap.objs.size (λy=>decide<|y∈iS xs) (iS xs).length/\(∀b o,b<s.heap.objs.size->s.heap.get? b=some o->h'.get? b=some o)) E) F.called_set.init.plain F.entry_set_init<|check_set_init_1 tS ?_) λr2 s2 YB=>?_
   ·obtain⟨ol,gl,cl,nl,dl⟩:=hl;obtain⟨ac1,TZ,abb,Ph⟩:=ol;simp only at cl dl;subst cl;subst dl;have T4:(s.heap.push O).get? l=some {cls:=.type "list",dict:=TZ,data:=.seq items nl,slots:=Ph}:=za _ gl;have j1:=F.sub_list_set;have j2:=F.sub_list_frozenset;have j3:(Value.type "list"== Value.type "dict")=false:=(by decide);have il:(s.heap.push O).IsList l items:={_,T4,rfl,nl,rfl};subst hO;unfold Builtin.«set.__init__» noKeywords Builtin.Frozenset.updateFrom;generalize hPI:pyIter=PI;wp_walk;subst hPI;refine wpAny_pyIter_list il ?_;refine zb<|wpAny_runValue ?_;have ll:l<s.heap.objs.size:=zt gl;have h3:A.in1.in1.in1.handled=none:=(by simp[hh]);have ne:l≠(s.heap.push {cls:=.type "set",dict:=none,data:=.set #[] 0 (.fresh 0 0 led)}).objs.size:=(by rw[ya];exact zy<|Nat.lt_succ_of_lt ll);have nf:s.heap.objs.size∉[(s.heap.push {cls:=.type "set",dict:=none,data:=.set #[] 0 (.fresh 0 0 led)}).objs.size,l]:=(by rw[ya];simp only[zf,zu,zD,or_false,not_or];exact{zy<|Nat.lt_succ_self _,yk ll});refine G4 ((Walks.list h3 _ l ne items).toS) s.heap.objs.size nf xs hx hi hb (items.size-0) 0 _ (by lia) {{_,zk _ rfl,rfl,rfl},(il.push _)} ?hS0 ?hR
    case hS0 =>
     have gg:=za {cls:=.type "list_iterator",data:=.fields #[.ref l,.int 0 0]} gS
     exact SetOf_congr ((setObjOf_fresh (knd:=strKind prog w) led).setOf gg<|by unfold scanBound;lia) (λ_=>rfl) rfl
    case hR =>
     intro s' hm q
     obtain⟨h',g',d',RD,Tc⟩:=s'
     have eg:g'=s.gens:=hm.gens;have ed:d'=s.drawn:=hm.drawn;have eo:Tc=s.os:=hm.os
     subst eg;subst ed;subst eo
     show wpAny _ _ _ _ _ _;refine zw ?_;show wpAny _ _ (ret Value.none) _ _ _
     refine zw {rfl,h',RD,rfl,q,λb o hb e=>?_}
     have b2:b≠(s.heap.push {cls:=.type "set",dict:=none,data:=.set #[] 0 (.fresh 0 0 led)}).objs.size:=by rw[ya];exact zy<|Nat.lt_succ_of_lt hb
     refine hm.heap b o ?_<|za _<|za _ e
     simp only[zf,zu,zD,or_false,not_or];exact{zy hb,b2}
   {cases r2 with|error e=>exact YB|ok f2=>cases f2 with|ret r=>(obtain⟨rfl,h',tk,rfl,q,k'⟩:=YB;(repeat (any_goals (first|assumption|wp_step)));exact h _ _ q k')|_=>exact YB.elim}
  |_=>exact hr.elim
end
noncomputable def Pj(P:Program)(w:World)(a:Addr)(xs:List Str):HO:=.ext λh=>h.SetOf (strKind P w) a (λy=>decide<|y∈iS xs) (iS xs).length
theorem KH(q:h.SetOf (strKind P w) a (λy=>decide<|y∈iS xs) (iS xs).length):aV P w H h a (Pj P w a xs):=by obtain⟨o,es,ep,t,ho,rest⟩:=id q;exact{q,⟨o,ho⟩,by rintro h1 h2 ⟨o,es,ep,t,ho,rest⟩ k;exact{o,es,ep,t,k _ ho,rest}}
theorem xk:∀{xs:List Str}{az:List Value},Vals (xs.map V.str) az->∀(i:Nat)(v:Value),az[i]?=some v->∃x t,xs[i]?=some x/\v=.str x t|[],_,.nil,i,v,e=>by simp at e|x::xs,_,.cons r rs,0,v,e=>(by obtain⟨t,q⟩:=r;simp at e;exact{x,t,rfl,by rw[<-e];exact q})|x::xs,_,.cons r rs,i+1,v,e=>by obtain⟨y,t,e1,e2⟩:=xk rs i v (by simpa using e);exact{y,t,by simpa using e1,e2}
section
variable{X:Cx}
theorem Ex{P:Program}{w:World}{K:Frag}(hP:X.prog=P)(hw:X.w=w)(hK:X.K=K)(hc:X.calm=true): dy X (.type "set") (λvs H Q=>∃p xs,vs=[.ref p]/\jd K H p (xs.map V.str)/\xs.length<4000/\∀l,H l=none->Q (.ref l) (upd H l<|Pj P w l xs)):=by
 subst hP;subst hw;subst hK;intro pins s σ H vs us Q I r h;obtain⟨p,xs,rfl,hq,hz,q⟩:=h;obtain⟨u,rfl,rx⟩:=vals1 r;cases rx;obtain⟨az,r',pl,_⟩:=I.list hq;have hlen:xs.length=az.toArray.size:=by have:=r'.length;simpa using this
 refine xh (I.ok.hd hc) pl.isList hlen (λi v e=>xk r' i v<|by simpa using e) (by rw[<-hlen];unfold scanBound;lia) λh' tk qs kp=>?_;refine{.ref s.heap.objs.size,_,I.laid (t':=tk) (λb o e=>kp b o (zt e) e) (zo _)<|KH qs,rfl,q _<|I.aG.fresh<|zo _}
theorem Ey(hP:X.prog=P)(hw:X.w=w):dy X (.builtin "len") (λvs H Q=>∃a xs,vs=[.ref a]/\H a=some (Pj P w a xs)/\Q (.int (iS xs).length) H):=by subst hP;subst hw;intro pins s σ H vs us Q I r h;obtain⟨a,xs,rfl,ha,q⟩:=h;obtain⟨u,rfl,rx⟩:=vals1 r;cases rx;obtain⟨⟨o,es,ep,t,ho,hex,hd,YC,Pk,hb,hf,hn⟩,_⟩:=I.aG a _ ha;refine call_len_set ho hex hd hf (by unfold scanBound at hb;lia) ?_;exact{.int (iS xs).length,H,I.tok _,{_,by rw[hn]},q}
end
theorem ue(l:List Str):(iS l).length=l.length↔l.Nodup:=by
 have all:∀(r c:List Str),c.Nodup->((r.foldl (λc x=>if x∈c then c else c++[x]) c).length=c.length+r.length↔(c++r).Nodup):=by intro r;induction r with|nil=>intro c hc;simpa using hc|cons x r ih=>intro c hc;rw[yG];by_cases h:x∈c;{rw[if_pos h];have le:(r.foldl (λc x=>if x∈c then c else c++[x]) c).length<=c.length+r.length:=(by have all2:∀(r c:List Str),(r.foldl (λc x=>if x∈c then c else c++[x]) c).length<=c.length+r.length:=(by intro r;induction r with|nil=>intro c;simp|cons x r ih=>intro c;rw[yG];refine zL (ih _) ?_;split<;>simp<;>try lia);exact all2 r c);refine{λe=>by simp at e;lia,λe=>?_};exact absurd rfl<|(List.nodup_append.mp e).2.2 x h x<|by simp};rw[if_neg h];have N2:(c++[x]).Nodup:=lY hc h;have:=ih (c++[x]) N2;simp only[zA,zG,List.length_nil,List.append_assoc,List.singleton_append]at this⊢;rw[<-this];constructor<;>intro e<;>lia
 simpa [iS]using all l [] List.nodup_nil
theorem iT:entryFor table "dict.update.loop"= some Builtin.«dict.update.loop»:=entryFor_of_tree<|by kernel_rfl
theorem dh:plainId "dict.update.loop"= true:=by trivial
theorem sS:typeLookup (.type "tuple") "keys"= pure none:=by rw[typeLookup_type,builtinLookup_eq_fast];kernel_rfl
section
variable{prog:Program}{w:World}{A:Around}{E:Value->Shared->Prop}{s:Shared}
theorem sT(hx:s.heap.get? a=some o)(hc:o.cls=.type "tuple")(T5:o.data=.seq xs k)(hd:o.dict=none)(hA:A.handled=none) (h:∀h' tk,(∀b ob,s.heap.get? b=some ob->h'.get? b=some ob)->Q none {s with heap:=h',toks:=tk}):wpAny (model prog w) A (getAttr? (.ref a) "keys") Q E s:=by
 obtain⟨c,cY,dat,sl⟩:=o;simp only at hc T5 hd;subst hc T5 hd;obtain⟨hp,g,d,tk,os⟩:=s;have hT:∀RD,(⟨hp,g,d,RD,os⟩:Shared).TypeIs (.ref a) "tuple":=λ_=>{_,hx,rfl};have f1:=sub_AttributeError;have f3:=F.slot_tuple_getattribute.lookup;have f4:=F.slot_tuple_getattribute.bind<|.ref a;have f5:=am_tuple_getattr_none;unfold getAttr? getAttrBy? getAttrBy;repeat (any_goals (first|assumption|exact hT _|((with_reducible show wpAny _ _ (call (Value.builtin "tuple.__getattribute__") _ _) _ _ _);refine call_meets F.slot_tuple_getattribute (hT _) am_entry_tuple_getattribute (F.args_tuple_getattribute_2 _ _) (meets_getattribute_miss_tuple a xs k sl "keys" _ sS (by trivial)<|by size_fits) {hx,hA,λh' RD e G5=>?_})|wp_step))
 obtain⟨t',u',he⟩:=G5.there;show wpAny _ _ (getattributeRaised _ _ _ _ _ _ _) _ _ _;unfold getattributeRaised;repeat (any_goals (first|assumption|wp_step))
 exact h _ _ G5.keeps
end
section
variable{prog:Program}{w:World}{A:Around}{R:Result->Shared->Prop}{I:Addr}{fp wr:List Addr}{G:Array GenState->Array GenState->Prop}{n:Nat}{P:Nat->Value->Prop}{St:Nat->Shared->Prop}
theorem Ez(W:WalksS prog w A.in1 I fp wr G n P St)(D:Addr)(hDf:D∉fp)(kvs:List<|Key×Value)(hx:kvs.length=n)(base:Heap) (Pe:∀i v,P i v->∃(b:Addr) (k:Key) (key val:Value) (o:Obj) (m:Nat),kvs[i]?=some (k,val)/\v=.ref b/\(aE prog w).is k key=true/\base.get? b=some o/\o.cls=.type "tuple"/\o.data=.seq #[key,val] m/\b≠D/\b∉wr) (hb:n<=sizeLine): ∀(k i:Nat) (s:Shared) (c:Int) (t:Tok),i+k=n->St i s->s.heap.DictOf (aE prog w) D (merged []<|kvs.take i)->(∀b o,base.get? b=some o->b≠D->b∉wr->s.heap.get? b=some o)->(∀s',Moved (D::wr) G s s'->s'.heap.DictOf (aE prog w) D (merged [] kvs)->R (.ok<|.ret .none) s')->codeAny (model prog w) A (.builtin "dict.update.loop" {[.ref D,.ref I,.int c t,.none],[]}) R s:=by have nw:D∉wr:=λh=>hDf<|W.sub _ h;have up:∀b∈wr,b∈D::wr:=λb hb=>zh _ hb;intro k;induction k with|zero=>(intro i s c t hk om hS hB hR;have e:i=n:=(by lia);subst e;refine yI iT ?_;rw[Around.under_plainId dh _];show wpAny _ A.in1 (pyNext (.ref I) >>=_) _ _ s;refine zb<|W.done s _ _ om λs' hm=>?_;show wpAny _ A.in1 (Builtin.Dict.addKeywords D [] >>=_) _ _ s';have q:s'.heap.DictOf (aE prog w) D (merged []<|kvs.take i):=(by obtain⟨o,es,ep,ho,rest⟩:=hS;exact{o,es,ep,hm.heap D _ nw ho,rest});rw[<-hx,List.take_length]at q;exact zb<|zw<|zw<|hR s' (hm.mono up) q)|succ k ih=>intro i s c t hk om hS hB hR;have lt:i<n:=(by lia);refine yI iT ?_;rw[Around.under_plainId dh _];show wpAny _ A.in1 (pyNext (.ref I) >>=_) _ _ s;refine zb<|W.item i s _ _ lt om λv s' hP Pf hm=>?_;obtain⟨b,ky,key,val,o,m,ek,rfl,Oz,ho,hc,hd,Yv,hbw⟩:=Pe i v hP;have q:s'.heap.DictOf (aE prog w) D (merged []<|kvs.take i):=(by obtain⟨o,es,ep,ho,rest⟩:=hS;exact{o,es,ep,hm.heap D _ nw ho,rest});have hb':s'.heap.get? b=some o:=hm.heap b o hbw<|hB b o ho Yv hbw;have room:(merged []<|kvs.take i).length<=sizeLine:=(by have:=merged_length_le ([]:List (Key×Value))<|kvs.take i;rw[yh]at this;simp at this;lia);have tk:merged [] (kvs.take<|i+1)=stored (merged []<|kvs.take i) ky val:=merged_take_succ [] kvs i (ky,val) ek;refine zb<|yJ<|zb<|wpAny_tryCatch ?_;unfold Builtin.Dict.pairItems;refine zb<|wpAny_typeOf (T:="tuple") ⟨o,hb',hc⟩ ?_;show wpAny _ A.in1 (seqItems? (.ref b) >>=_) _ _ s';refine zb<|wpAny_seqItems hb' hd<|zw ?_;show wpAny _ A.in1 (holding [key,val]<|dictSet D key val) _ _ s';refine yJ<|wpAny_dictSet_pairs Oz q (λh' q2 KG=>?_) room;rw[<-tk]at q2;refine zw {plainId_quiet dh _,ih (i+1) _ _ _ (by lia) (W.frame _ s' _ _ Pf (yS _) λb hb o e=>?_) q2 (λb o e h1 h2=>?_) λAX Pg YA=>?_};rw[KG.2 b (λh:b=D=>hDf<|by rw[<-h];exact hb)];exact e;rw[KG.2 b h1];exact hm.heap b o h2<|hB b o e h1 h2;refine hR AX (Moved.trans W.gtrans ((hm.mono up).then_heap (yS _) λb o hb e=>?_) Pg) YA;rw[KG.2 b (λh:b=D=>hb<|by rw[h];exact zp)];exact e
theorem sU(hh:A.handled=none)(gl:s.heap.get? l=some ol)(cl:ol.cls=.type "tuple")(dl:ol.data=.seq items m)(nl:ol.dict=none)(hx:kvs.length=items.size) (hi:∀(i:Nat) (v:Value),items[i]?=some v->∃(b:Addr) (k:Key) (key val:Value) (o:Obj) (m:Nat),kvs[i]?=some (k,val)/\v=.ref b/\(aE prog w).is k key=true/\s.heap.get? b=some o/\o.cls=.type "tuple"/\o.data=.seq #[key,val] m) (hb:items.size<=sizeLine) (h:∀(h':Heap) (tk:Nat),h'.DictOf (aE prog w) s.heap.objs.size (merged [] kvs)->(∀b o,s.heap.get? b=some o->h'.get? b=some o)->Q (.ref s.heap.objs.size) {s with heap:=h',toks:=tk}): wpAny (model prog w) A (call (.type "dict") [.ref l]) Q E s:=by
 refine callType_codes (Q₁:=λobj aU=>obj=.ref s.heap.objs.size/\aU={s with heap:=s.heap.push {cls:=.type "dict",data:=.dict #[]}}) F.kt_called_dict (F.kt_typeCall_dict_1 _) F.entry_dict_init (kt_code_dict_new _ ⟨rfl,rfl⟩) ?_;rintro obj aU ⟨rfl,rfl⟩;have Pl:(s.heap.push {cls:=.type "dict",data:=.dict #[]}).DictOf (aE prog w) s.heap.objs.size []:=Heap.DictOf.new s.heap;have T4:(s.heap.push {cls:=.type "dict",data:=.dict #[]}).get? l=some ol:=za _ gl;refine{Pl.typeIs,F.args_dict_init_2 _ _,?_};unfold Builtin.«dict.__init__»;refine zb ?_;unfold Builtin.Dict.selfAndRest;refine zb<|wpAny_notOrdered_dict Pl.typeIs ?_;show wpAny _ _ (pure (s.heap.objs.size,[Value.ref l])) _ _ _;refine zw ?_;show wpAny _ _ (Builtin.Dict.updateFrom "dict.__init__" s.heap.objs.size (.ref l) [] .none) _ _ _;unfold Builtin.Dict.updateFrom;refine zb<|wpAny_typeOf (T:="tuple") ⟨ol,T4,cl⟩ ?_;rw[if_pos<|by decide];have h3:A.in1.in1.handled=none:=by simp[hh]
 refine zb<|sT T4 cl dl nl h3 λh1 tk1 WC=>?_;have g1:h1.get? l=some ol:=WC _ _ T4;have d1:h1.DictOf (aE prog w) s.heap.objs.size []:=by obtain⟨o,es,ep,ho,rest⟩:=Pl;exact{o,es,ep,WC _ _ ho,rest}
 have lD:s.heap.objs.size<h1.objs.size:=by obtain⟨o,es,ep,ho,rest⟩:=d1;exact zt ho
 have ll:l<s.heap.objs.size:=zt gl;show wpAny _ _ (rule _ >>=_) _ _ _;refine zb<|wpAny_rule ?_;have it1:h1.IsTuple l items:=⟨ol,g1,cl,m,dl⟩;refine zb<|wpAny_pyIter_tuple (s:=⟨h1,s.gens,s.drawn,tk1,s.os⟩) it1 ?_;have ne:l≠h1.objs.size:=zy<|Nat.lt_trans ll lD;have nf:s.heap.objs.size∉[h1.objs.size,l]:=by simp only[zf,zu,zD,or_false,not_or];exact{zy lD,yk ll}
 refine zw {plainId_quiet dh _,?_};refine Ez ((Walks.tuple h3 _ l ne items).toS) s.heap.objs.size nf kvs hx s.heap (λi v e=>?_) hb (items.size-0) 0 _ _ _ (by lia) {{_,zk _ rfl,rfl,rfl},it1.push _} ?hS0 ?hB ?hR;obtain⟨b,k,key,val,o,m',e1,e2,e3,e4,e5,e6⟩:=hi i v e;have lb:=zt e4;exact{b,k,key,val,o,m',e1,e2,e3,e4,e5,e6,zy lb,by simp;exact zy<|Nat.lt_trans lb lD};case hS0=>exact d1.push _
 case hB=>exact λb o e EA YD=>za _<|WC _ _<|za _ e
 case hR =>
  intro s' hm q
  obtain⟨h',g',d',RD,Tc⟩:=s'
  have eg:g'=s.gens:=hm.gens;have ed:d'=s.drawn:=hm.drawn;have eo:Tc=s.os:=hm.os
  subst eg;subst ed;subst eo
  refine{rfl,h h' RD q λb o e=>?_}
  have lb:=zt e
  refine hm.heap b o ?_<|za _<|WC _ _<|za _ e
  simp only[zf,zu,zD,or_false,not_or];exact{zy lb,zy<|Nat.lt_trans lb lD}
end
noncomputable def CO(l:List<|Str×V):List (Key×V):=l.foldl (λc p=>putK c (.inr p.1) p.2) []
def Prs(H:Hp)(ps:List V)(kvs:List<|Str×V):Prop:=kvs.length=ps.length/\∀(i:Nat)(x:V)(p:Str×V),ps[i]?=some x->kvs[i]?=some p->∃b,x=.ref b/\H b=some (.tup [.str p.1,p.2])
section
variable{X:Cx}
theorem Ba(hc:X.calm=true):dy X (.type "dict") (λvs H Q=>∃p ps kvs,vs=[.ref p]/\H p=some (.tup ps)/\Prs H ps kvs/\∀l,H l=none->Q (.ref l) (upd H l<|.dK<|CO kvs)):=by
 intro pins s σ H vs us Q I r h;obtain⟨p,ps,kvs,rfl,hp,⟨hl,hq⟩,q⟩:=h;obtain⟨u,rfl,rx⟩:=vals1 r;cases rx;obtain⟨hz,az,rv,ol,gl,cl,nl,m,dl⟩:=(show aV X.prog X.w H s.heap p (.tup ps) from I.aG p _ hp);have hlen:=rv.length;have each:∀(i:Nat)(x:V)(pr:Str×V),ps[i]?=some x->kvs[i]?=some pr->∃(b:Addr)(key val:Value)(o:Obj)(m:Nat),az[i]?=some (.ref b)/\(aE X.prog X.w).is (.inr pr.1) key=true/\RelV pr.2 val/\s.heap.get? b=some o/\o.cls=.type "tuple"/\o.data=.seq #[key,val] m:=by intro i x pr e1 e2;obtain⟨b,rfl,hb⟩:=hq i x pr e1 e2;obtain⟨u,e3,ru⟩:=rv.get e1;cases ru;obtain⟨_,it2,r2,o,go,co,no,m2,do2⟩:=(show aV X.prog X.w H s.heap b (.tup [.str pr.1,pr.2]) from I.aG b _ hb);obtain⟨k',v',rfl,⟨tk,rfl⟩,rv'⟩:=r2.two;exact{b,_,v',o,m2,e3,jc _ _ _ _,rv',go,co,by simpa using do2}
 have kv:∃vals:List (Key×Value),KV (kvs.map λp=>((.inr p.1:Key),p.2)) vals/\∀(i:Nat)(x:V),ps[i]?=some x->∃(b:Addr)(k:Key)(key val:Value)(o:Obj)(m:Nat),vals[i]?=some (k,val)/\az[i]?=some (.ref b)/\(aE X.prog X.w).is k key=true/\s.heap.get? b=some o/\o.cls=.type "tuple"/\o.data=.seq #[key,val] m:=by clear hp q rv dl hz;induction kvs generalizing ps az with|nil=>refine{[],.nil,λi x e=>?_};have:ps=[]:=List.eq_nil_of_length_eq_zero (by simpa using hl.symm);subst this;simp at e|cons pr r ih=>cases ps with|nil=>simp at hl|cons y ys=>cases az with|nil=>simp at hlen|cons w0 ws=>obtain⟨b,key,val,o,m,e1,e2,e3,e4,e5,e6⟩:=each 0 y pr rfl rfl;obtain⟨vals,k1,k2⟩:=ih ys (by simpa using hl) (λi x p a b=>hq (i+1) x p (by simpa using a)<|by simpa using b) ws (by simpa using hlen) (λi x p a b=>by simpa using each (i+1) x p (by simpa using a) (by simpa using b));refine{(.inr pr.1,val)::vals,.cons ⟨rfl,e3⟩ k1,λi x e=>?_};cases i with|zero=>exact{b,.inr pr.1,key,val,o,m,rfl,e1,e2,e4,e5,e6}|succ i=>simpa using k2 i x (by simpa using e)
 obtain⟨vals,kv1,kv2⟩:=kv;have lv:vals.length=az.length:=by have:=kv1.length;rw[zc]at this;lia
 refine sU (kvs:=vals) (I.ok.hd hc) gl cl dl nl (by simpa using lv) (λi v e=>?_) (by simp;lia) λh' tk qs kp=>?_;have e':az[i]?=some v:=by simpa using e
 have hi:i<az.length:=(zg.mp e').1;obtain⟨b,k,key,val,o,m',e1,e2,e3,e4,e5,e6⟩:=kv2 i (ps[i]'(by lia))<|ze _;rw[e']at e2;exact{b,k,key,val,o,m',e1,zU e2,e3,e4,e5,e6};have rel:KV (CO kvs) (merged [] vals):=by have all:∀(l:List (Str×V))(vl:List (Key×Value))(c:List (Key×V))(cv:List (Key×Value)),KV (l.map λp=>((.inr p.1:Key),p.2)) vl->KV c cv->KV (l.foldl (λc p=>putK c (.inr p.1) p.2) c) (merged cv vl):=(by intro l;induction l with|nil=>(intro vl c cv h1 h2;cases h1;exact h2)|cons p r ih=>intro vl c cv h1 h2;cases h1 with|@cons _ q _ qs r1 r2=>obtain⟨k,v⟩:=q;obtain⟨rfl,rv⟩:=r1;exact ih qs _ _ r2<|h2.put _ rv);exact all kvs vals [] [] kv1 .nil
 have big:=I.big;refine{.ref s.heap.objs.size,_,I.laid (t':=tk) (λb o e=>kp b o e) (zo _) (o:=.dK<|CO kvs) {?_,?_,_,rel,qs},rfl,q _<|I.aG.fresh<|zo _};have e1:=rel.length;have e2:=merged_length_le ([]:List (Key×Value)) vals;simp at e2;lia;simp;exact yk big
def T6(K:Frag):R2:=λx y H Q=>∃a b xs ys,x=.ref a/\y=.ref b/\gM K H a xs/\gM K H b ys/\xs.length+ys.length<=sizeLine/\(xs=[]->Q (.ref b) H)/\(xs≠[]->ys=[]->Q (.ref a) H)/\(xs≠[]->ys≠[]->∀p,H p=none->Q (.ref p) (upd H p<|.tup<|xs++ys))
theorem KJ:gN X (binaryOp .Add) (T6 X.K):=by intro pins s σ H x y v u Q I rx ry h;obtain⟨a,b,xs,ys,rfl,rfl,ha,hb,hz,q0,q1,q2⟩:=h;by_cases hx:xs=[];cases rx;cases ry;obtain⟨az,r1,p1,_⟩:=I.tuple ha;obtain⟨lU,r2,p2,_⟩:=I.tuple hb;obtain⟨⟨cls,dd,data,sl⟩,ho,hc,n,hd⟩:=id p1;obtain⟨⟨X2,Ww,data2,wU⟩,OG,Ke,n2,hd2⟩:=id p2;simp only at hc hd Ke hd2;subst hc hd Ke hd2;have e:az=[]:=r1.pX.mpr hx;exact concat_meets {_,ho,rfl} {_,OG,rfl} noFill_tuple_add seq_tuple_add PySem.F.slot_tuple_add PySem.F.entry_tuple_add (PySem.F.args_tuple_add_2 _ _) (tuple_addW0 a b az.toArray lU.toArray n n2 dd Ww sl wU<|by simp[e]) {ho,OG,.ref b,H,I,rfl,q0 hx};exact Ki pins s σ H _ _ v u Q I rx ry {a,b,xs,ys,rfl,rfl,ha,hb,hx,hz,q1 hx,q2 hx}
end
noncomputable def uf:PyData->Kd|.none=>.ao|.bool _=>.bl|.int _=>.int|.str _=>.str|.list _=>.lst|.tuple _=>.tup|.dict _=>.cY
section
theorem YE(h:n<=1000):n<=sizeLine:=yM<|jZ h
end
abbrev l4(h:Heap)(T:Addr)(arr:Array Value):Prop:=h.get? T=some {cls:=.type "tuple",data:=.seq arr}
theorem u7(hs:Heap.ExtBut b h h')(n:a≠b)(x:h.IsTupleIter a l i):h'.IsTupleIter a l i:=x.extBut hs n
theorem MR{h h':Heap}{a l:Addr}{i:Nat}(k:∀o,h.get? a=some o->h'.get? a=some o)(x:h.IsTupleIter a l i):h'.IsTupleIter a l i:=by obtain⟨o,e,r⟩:=x;exact{o,k o e,r}
section
variable{prog:Program}{w:World}{A:Around}{E:Value->Shared->Prop}{s:Shared}
theorem YF(h:n<=3):n<=sizeLine:=YE<|zL h<|by decide
theorem EB(hT:l4 s.heap T arr)(hz:arr.size<=3)(h:∀h',l4 h' T (arr.setIfInBounds k x)->Heap.SameBut T s.heap h'->Q () {s with heap:=h'}):wpAny (model prog w) A (updateSeq T (·.setIfInBounds k x)) Q E s:=by refine wpAny_updateSeq hT rfl (h _ ?_<|yy ..) (hz:=YF hz) (_hz':=by have:=YF hz;simp;lia);show Heap.get? _ _=_;rw[yt _ hT rfl];simp[Obj.mapSeq]
theorem Bb(hit:s.heap.IsTupleIter it l i)(hl:s.heap.IsTuple l items)(hx:items[i]?=some x)(hQ:∀h',h'.IsTupleIter it l (i+1)->Heap.SameBut it s.heap h'->Q x {s with heap:=h'}): wpAny (model prog w) A (Builtin.SmallTypes.nextOf<|.ref it) Q E s:=by obtain⟨o,ho,hc,hd⟩:=id hit;obtain⟨ol,YG,_,nl,KL⟩:=hl;unfold Builtin.SmallTypes.nextOf;refine zb<|wpAny_callSpecial?_slot (name:=Str.ofString "__next__") hit.typeIs F.slot_tuple_iterator_next<|yK F.slot_tuple_iterator_next hit.typeIs F.entry_tuple_iterator_next ?_<|F.args_tuple_iterator_next_1 _;show wpAny _ _ (field (.ref it) 0 >>=_) _ _ s;refine zb<|yc ho hd (x:=.ref l) rfl ?_;show wpAny _ _ (if (Value.ref l==Value.none)=true then _ else _) _ _ s;rw[if_neg<|show ¬((Value.ref l==Value.none)=true) from zd];show wpAny _ _ (field (.ref it) 1 >>=_) _ _ s;refine zb<|yc ho hd (x:=.int i 0) rfl ?_;show wpAny _ _ (seqItems? (.ref l) >>=_) _ _ s;refine zb<|wpAny_seqItems YG KL ?_;simp only[Int.toNat_natCast,hx];refine zb<|yQ ho hd (by simp)<|zw {x,rfl,zw<|hQ _ {_,yt _ ho<|Obj.isFreed_of_fields<|yw hd _,(Obj.cls_mapFields ..).trans hc,by rw[yw hd];simp[rawInt]}<|yy ..}
theorem qE(hh:A.handled=none)(hit:s.heap.IsTupleIter it l i)(hl:s.heap.IsTuple l items)(hx:items[i]?=none) (hE:∀h' e,Heap.ExtBut it s.heap h'->(∃o,h'.get? e=some o/\o.cls=.type "StopIteration")->E (.ref e) {s with heap:=h'}):wpAny (model prog w) A (Builtin.SmallTypes.nextOf<|.ref it) Q E s:=by
 obtain⟨o,ho,hc,hd⟩:=id hit;obtain⟨ol,YG,_,nl,KL⟩:=hl;unfold Builtin.SmallTypes.nextOf;refine zb<|wpAny_callSpecial?_slot (name:=Str.ofString "__next__") hit.typeIs F.slot_tuple_iterator_next<|yK F.slot_tuple_iterator_next hit.typeIs F.entry_tuple_iterator_next ?_<|F.args_tuple_iterator_next_1 _;show wpAny _ _ (field (.ref it) 0 >>=_) _ _ s;refine zb<|yc ho hd (x:=.ref l) rfl ?_;show wpAny _ _ (if (Value.ref l==Value.none)=true then _ else _) _ _ s;rw[if_neg<|show ¬((Value.ref l==Value.none)=true) from zd];show wpAny _ _ (field (.ref it) 1 >>=_) _ _ s;refine zb<|yc ho hd (x:=.int i 0) rfl ?_;show wpAny _ _ (seqItems? (.ref l) >>=_) _ _ s;refine zb<|wpAny_seqItems YG KL ?_;simp only[Int.toNat_natCast,hx];refine zb<|wpAny_rule<|zb<|yQ ho hd (by simp) ?_;show wpAny _ _ (newExc (.type "StopIteration") [] >>=_) _ _ _;refine zb ?_;simp only[newExc,newTuple];refine zb<|yF ?_ (by size_fits);refine zb (m:=firstArgMember _ _)<|yT (a:=Value.none) (by first|rfl|(simp only[firstArgMember];rfl)) ?_;refine yF ?_ (by size_fits);simp only[raiseNew];refine zb<|wpAny_handled ?_;first|rw[show A.in1.handled=none from hh]|rw[hh]
 refine zb<|zw<|wpAny_throw<|hE _ _ (((yy ..).extBut.push _).push _) {_,zk _ rfl,rfl}
end
def ZS2(n l0 l1:Nat)(i:Nat)(h:Heap):Prop:=IsZip h (n+4) (n+2) (n+3) .none/\l4 h (n+2) #[.ref n,.ref<|n+1]/\(∃arr:Array Value,arr.size=2/\l4 h (n+3) arr)/\h.IsTupleIter n l0 i/\h.IsTupleIter (n+1) l1 i
section
variable{X:Cx}{pins:List (Addr×Obj)}{σ:St}{H:Hp}{s:Shared}{h':Heap}
theorem Inv.KN(I:Inv X pins σ H s)(wr:List Addr)(hw:∀b∈wr,sN X pins H b)(k:∀b o,b∉wr->s.heap.get? b=some o->h'.get? b=some o):Inv X pins σ H {s with heap:=h',toks:=t'}:=by refine I.step (g':=s.gens) (d':=s.drawn) (ch:=wr) (λb hb=>by obtain⟨_,a,_,c,d,e⟩:=hw b hb;exact⟨c,a,d,e⟩) (λb o _ _ hc e _=>k b o hc e) (λb o _ _ hc e _=>{o.slots,k b o hc e}) (λ_ _ _ _ n=>n) (λb o hc e=>{o,k b o hc e}) (λ_ _ e=>e) (λ_ _ _ e=>e) (λb ps e=>{#[],by rw[e];simp}) (λm hm=>?_) (λb u e=>?_) I.bare;obtain⟨o,es,ep,ho,r⟩:=hm;exact{o,es,ep,k _ o (λz=>(hw _ z).2.1 rfl) ho,r};refine(I.aG b u e).lR (λc v hc q=>k c v (λz=>?_) q) (λ_ q=>q) λ_ _ q=>q;have n:=(hw c z).1;rcases hc with rfl|hc;rw[n]at e;cases e;rw[n]at hc;cases hc
theorem Inv.KO(I:Inv X pins σ H s)(wr:List Addr)(hw:∀b∈wr,sN X pins H b)(k:∀b o,b∉wr->s.heap.get? b=some o->h'.get? b=some o)(hT:s.heap.get? T=none)(new:aV X.prog X.w (upd H T o) h' T o): Inv X pins σ (upd H T o) {s with heap:=h',toks:=t'}:=by
 have fr:H T=none:=by cases q:H T with|none=>rfl|some u=>obtain⟨z,e⟩:=(I.aG T u q).get;rw[hT]at e;cases e
 have ne:∀b u,H b=some u->b≠T:=λb u e z=>by rw[z,fr]at e;cases e
 refine I.step (g':=s.gens) (d':=s.drawn) (ch:=wr) (λb hb=>by obtain⟨_,a,_,c,d,e⟩:=hw b hb;exact⟨c,a,d,e⟩) (λb o _ _ hc e _=>k b o hc e) (λb o _ _ hc e _=>{o.slots,k b o hc e}) (λb ob _ e n=>?_) (λb o hc e=>{o,k b o hc e}) (λb xs e=>by rw[ar<|ne b _ e];exact e) (λb ob u e=>by rw[ar<|ne b _ e];exact e) (λb ps e=>{#[],by rw[ar<|ne b _ e,e];simp}) (λm hm=>?_) (λb u e=>?_) I.bare;have:b≠T:=λz=>by rw[z,hT]at e;cases e
 rw[ar this];exact n;obtain⟨o,es,ep,ho,r⟩:=hm;exact{o,es,ep,k _ o (λz=>(hw _ z).2.1 rfl) ho,r};by_cases hb:b=T;subst hb;rw[aC]at e;cases e;exact new;rw[ar hb]at e;refine(I.aG b u e).lR (λc v hc q=>k c v (λz=>?_) q) (λc q=>by rw[ar<|ne c _ q];exact q) λc xs q=>by rw[ar<|ne c _ q];exact q
 have n:=(hw c z).1;rcases hc with rfl|hc;rw[n]at e;cases e;rw[n]at hc;cases hc
end
noncomputable abbrev KP(h:Heap)(l0:Addr):Heap:=(h).push {cls:=.type "tuple_iterator",data:=.fields #[.ref l0,.int 0 0]}
noncomputable abbrev KQ(h:Heap)(l0 l1:Addr):Heap:=(KP h l0).push {cls:=.type "tuple_iterator",data:=.fields #[.ref l1,.int 0 0]}
noncomputable abbrev KR(h:Heap)(l0 l1:Addr):Heap:=(KQ h l0 l1).push {cls:=.type "tuple",data:=.seq #[.ref h.objs.size,.ref (KP h l0).objs.size]}
noncomputable abbrev KY(h:Heap)(l0 l1:Addr):Heap:=(KR h l0 l1).push {cls:=.type "tuple",data:=.seq #[.none,.none]}
noncomputable abbrev Bf(h:Heap)(l0 l1:Addr):Heap:=(KY h l0 l1).push {cls:=.type "zip",data:=.fields #[.none,.bool false,.bool false,.ref (KQ h l0 l1).objs.size,.ref (KR h l0 l1).objs.size]}
theorem Bg(l0 l1:Addr)(Bc Be:Array Value):Meets (Builtin.«zip.__new__» {[.type "zip",.ref l0,.ref l1],[]}) (λ_ R s=>s.heap.IsTuple l0 Bc/\s.heap.IsTuple l1 Be/\R (.ok<|.ret<|.ref (KY s.heap l0 l1).objs.size) {s with heap:=Bf s.heap l0 l1}):=.of_wp λprog w A R s h=>by obtain⟨hp,g,d,tk,os⟩:=s;obtain⟨t0,t1,h⟩:=h;have Pb:=sub_zip;have L0:Heap.IsTuple (Shared.heap ⟨hp,g,d,tk,os⟩) l0 Bc:=t0;have L1:Heap.IsTuple (Shared.heap {hp.push {cls:=.type "tuple_iterator",data:=.fields #[.ref l0,.int 0 0]},g,d,tk,os}) l1 Be:=Heap.IsTuple.push (t1) _;wp_walk using wpAny_pyIter_tuple L0,wpAny_pyIter_tuple L1;exact{_,rfl,h}
theorem Bh(t0:s.heap.IsTuple l0 Bc)(t1:s.heap.IsTuple l1 Be) (h:∀h',ZS2 s.heap.objs.size l0 l1 0 h'->(∀c o,s.heap.get? c=some o->h'.get? c=some o)->Q (.ref<|s.heap.objs.size+4) {s with heap:=h'}):wpAny (model prog w) A (call (.type "zip") [.ref l0,.ref l1]) Q E s:=by
 refine callType_new F.called_zip (by decide) (F.typeCall_zip_2 _ _) (F.newCall_zip_2 _ _) (λobj=>F.args_object_init_3 obj _ _) F.entry_zip_new (Bg l0 l1 Bc Be) {t0,t1,?_};have z1:(KP s.heap l0).objs.size=s.heap.objs.size+1:=ya ..;have z2:(KQ s.heap l0 l1).objs.size=s.heap.objs.size+2:=by rw[ya,z1]
 have z3:(KR s.heap l0 l1).objs.size=s.heap.objs.size+3:=by rw[ya,z2]
 have z4:(KY s.heap l0 l1).objs.size=s.heap.objs.size+4:=by rw[ya,z3]
 have z5:(Bf s.heap l0 l1).objs.size=s.heap.objs.size+5:=by rw[ya,z4]
 have g0:(Bf s.heap l0 l1).get? (s.heap).objs.size=some _:=za _<|za _<|za _<|za _<|zk _ rfl;have g1:(Bf s.heap l0 l1).get? (KP s.heap l0).objs.size=some _:=za _<|za _<|za _<|zk _ rfl;have g2:(Bf s.heap l0 l1).get? (KQ s.heap l0 l1).objs.size=some _:=za _<|za _<|zk _ rfl;have g3:(Bf s.heap l0 l1).get? (KR s.heap l0 l1).objs.size=some _:=za _<|zk _ rfl;have g4:(Bf s.heap l0 l1).get? (KY s.heap l0 l1).objs.size=some _:=zk _ rfl;show _/\_;rw[z2,z3,z4]at g4;rw[z3]at g3;rw[z1,z2]at g2;rw[z1]at g1;rw[z4];exact{{_,g4,rfl},h _ {g4,g2,!⟨g3⟩,{_,g0,rfl,rfl},{_,g1,rfl,rfl}} λc o x=>za _<|za _<|za _<|za _<|za _ x}
def KZ(K:Frag):V->List V->Hp->VK->Prop:=λx vs H Q=>∃(a:Addr)(xs:List V)(y z:V)(j:Nat),x=.ref a/\vs=[y]/\jd K H a xs/\gQ y=true/\xs.all gQ=true/\xs[j]?=some z/\eqV z y=true/\(∀m u,m<j->xs[m]?=some u->eqV u y=false)/\Q (.int j) H
theorem EC:Ru X "list.index" (KZ X.K):=by
 intro pins s σ H x vs v us Q I rx rv h;obtain⟨a,xs,y,z,j,rfl,rfl,hq,fy,fx,hj,hit,YH,q⟩:=h;cases rx;obtain⟨u,rfl,ru⟩:=rv.one;obtain⟨az,r,p,hz⟩:=I.list hq;obtain⟨⟨cls,dd,data,sl⟩,ho,hc,n,hd⟩:=p.isList;simp only at hc hd;subst hc hd;have hl:=r.length;have eY:j<xs.length:=(zg.mp hj).1;have fl:∀(m:Nat)(w:V),xs[m]?=some w->gQ w=true:=λm w e=>ye.mp fx w<|zI e;have at':∀(m:Nat)(hm:m<az.toArray.size)(w:V),xs[m]?=some w->Gw y az.toArray[m]=eqV w y:=λm hm w e=>by obtain⟨u',e',ru'⟩:=r.get e;have:az.toArray[m]=u':=(by have:=zg.mp e';simpa using this.2);rw[this];exact AZ ru'<|fl m w e
 have hs:sizeLine=16777216:=zY;refine call_meets PySem.F.slot_list_index {_,ho,rfl} PySem.F.entry_list_index (PySem.F.args_list_index_2 _ _) (SeqAt.list_indexAt a az.toArray n dd sl u (Gw y) j (by simp;lia) (by lia) ?_ ?_) {ho,λw hw=>lV ru fy r fx w<|by simpa using hw,{.int j,H,I.tok _,{_,rfl},q}};rw[at' j _ z hj];exact hit;intro m hm hmj;have hmx:m<xs.length:=by lia
 rw[at' m hm _<|ze hmx];exact YH m _ hmj<|ze hmx
def T7:R2:=λx y H Q=>∃z n,x=.str z/\y=.int n/\MulOk z n/\Q (.str<|PySem.Txt.mul z n) H
theorem Bi:gN X (binaryOp .Mult) T7:=by intro pins s σ H x y v u Q I rx ry h;obtain⟨z,n,rfl,rfl,hm,q⟩:=h;obtain⟨t,rfl⟩:=rx;obtain⟨t',rfl⟩:=ry;exact SB.mul hm λt'' k=>{.str _,H,I.tok k,{_,rfl},q}
def K0(w:World)(K:Frag)(a:Addr)(kvs:List<|Str×V):Prop:=(a==sysModules)=false/\∃(o:Obj)(es:Array DictEntry)(ep:Nat),K.lookup a=some o/\o.ExactDict/\o.data=.dict es ep/\Paired (λ(e:DictEntry)(kv:Str×V)=>e.hash=hashStr w kv.1/\(∃t,e.key=.str kv.1 t)/\RelV kv.2 e.val) es.toList kvs/\(kvs.map Prod.fst).Nodup
theorem qF(z:Str):∀kvs:List (Str×V),f9 (kvs.map λp=>((.inr p.1:Key),p.2)) (.inr z)=kvs.lookup z
 |[]=>rfl
 | (x,v)::r=>by
  rw[zJ,zN];by_cases e:z=x;subst e;rw[qv rfl];simp;have e1:(z==x)=false:=by simpa using e
  rw[qw λq=>e (yL q).symm,e1];exact qF z r
section
variable{X:Cx}{pins:List (Addr×Obj)}{σ:St}{H:Hp}{s:Shared}{a:Addr}{kvs:List (Str×V)}
theorem Bj(I:Inv X pins σ H s)(d:K0 X.w X.K a kvs):(a==sysModules)=false/\∃vs,KV (kvs.map λp=>((.inr p.1:Key),p.2)) vs/\s.heap.DictOf (aE X.prog X.w) a vs:=by
 obtain⟨ns,o,es,ep,hk,hx,hd,hp,hn⟩:=d;have all:∀(es:List DictEntry)(kvs:List (Str×V)),Paired (λ(e:DictEntry)(kv:Str×V)=>e.hash=hashStr X.w kv.1/\(∃t,e.key=.str kv.1 t)/\RelV kv.2 e.val) es kvs->∃vs:List (Key×Value),KV (kvs.map λp=>((.inr p.1:Key),p.2)) vs/\Pairs (aE X.prog X.w) es vs/\vs.map (·.1)=kvs.map (λp=>(.inr p.1:Key))/\∀e∈es,∃k,(aE X.prog X.w).is k e.key=true/\e.hash=(aE X.prog X.w).hash k:=by intro es kvs hp;induction hp with|nil=>exact{[],.nil,.nil,rfl,by simp}|@cons e kv Wn kvs' h t ih=>obtain⟨vs,k1,k2,k3,k4⟩:=ih;obtain⟨h1,⟨tk,h2⟩,h3⟩:=h;have hi:(aE X.prog X.w).is (.inr kv.1) e.key=true:=(by rw[h2];exact jc _ _ _ _);refine{(.inr kv.1,e.val)::vs,.cons ⟨rfl,h3⟩ k1,.cons hi rfl k2,by rw[zJ,zJ,k3],λe' he=>?_};rcases zf.mp he with rfl|he;exact{.inr kv.1,hi,h1};exact k4 e' he
 obtain⟨vs,k1,k2,k3,k4⟩:=all _ _ hp;refine{ns,vs,k1,o,es,ep,I.ku a o hk,hx,hd,λe he=>k4 e<|by simpa using he,k2,?_};rw[k3];have:(kvs.map λp=>(.inr p.1:Key))=(kvs.map Prod.fst).map Sum.inr:=by rw[zB];rfl
 rw[this];exact List.Pairwise.map _ (λx y h q=>h<|yL q) hn
theorem G6{w:World}{K:Frag}(hw:X.w=w)(hK:X.K=K):gN X (compareOp .In) (λx y H Q=>∃z a kvs,x=.str z/\y=.ref a/\K0 w K a kvs/\Q (.bl (kvs.lookup z).isSome) H):=by subst hw hK;intro pins s σ H x y v u Q I rx ry h;obtain⟨z,a,kvs,rfl,rfl,d,q⟩:=h;cases ry;obtain⟨ns,vs,rel,dd⟩:=Bj I d;refine wpAny_in_of (kL (k:=.inr z) rx) ns dd.mapOf ?_;rw[<-(rel.val<|.inr z).ng,qF];exact{.bl _,H,I.tok _,rfl,q}
def T8(w:World)(K:Frag):V->List V->Hp->VK->Prop:=λx vs H Q=>∃a z kvs,x=.ref a/\vs=[.str z]/\K0 w K a kvs/\Q ((kvs.lookup z).getD .ao) H
theorem K1{w:World}{K:Frag}(hw:X.w=w)(hK:X.K=K):Ru X "dict.get" (T8 w K):=by subst hw hK;intro pins s σ H x vs v us Q I rx rv h;obtain⟨a,z,kvs,rfl,rfl,d,q⟩:=h;cases rx;obtain⟨u,rfl,ru⟩:=rv.one;obtain⟨ns,vs,rel,dd⟩:=Bj I d;refine call_meetsIn yu dd.typeIs PySem.F.entry_dict_get (PySem.F.args_dict_get_2 _ _) (meets_dict_get (aE X.prog X.w) a (kL (k:=.inr z) ru) ns) {_,dd.mapOf,_,H,I.tok _,?_,q};rw[<-qF];exact(rel.val<|.inr z).getD rfl
theorem G7{w:World}{K:Frag}{o e:Expr}{apos aN:Pos}{td ty:TE}(hw:X.w=w)(hK:X.K=K)(ho:PE X o td)(he:PE X e ty)(m:M1 X o "get" apos e aN):PE X (.Call (.Attribute o "get" apos) [e] [] aN) (λσ H Q=>td σ H λx H1=>∃a kvs,x=.ref a/\K0 w K a kvs/\ty σ H1 λy H2=>∃z,y=.str z/\Q ((kvs.lookup z).getD .ao) H2):=by subst hw hK;intro pins s σ H Q I h;refine wpAny_Call_method m.base m.FO m.line PySem.F.plainAttrs_dict yu PySem.F.type_dict_get<|aX (ho pins s σ H _ I h) λu s1 ⟨x,H1,I1,rx,a,kvs,ex,d,q1⟩=>?_;subst ex;obtain rfl:u=Value.ref a:=rx;obtain⟨ns,vs,rel,dd⟩:=Bj I1 d;obtain⟨ob,_,_,h1,h2,_⟩:=id dd;refine{dd.typeIs,λb q=>by cases q;exact⟨ob,h1,h2.2.1⟩,?_};rw[m.trees];refine Calls.callWith_builtin rfl<|Calls.evalArgs_plain<|yC<|aX (he pins s1 σ H1 _ I1 q1) λiv s2 ⟨y,H2,I2,ry,z,ey,q2⟩=>Calls.spliced_nil ?_;subst ey;exact K1 rfl rfl pins s2 σ H2 (.ref a) [.str z] _ [iv] Q I2 rfl (.cons ry .nil) ⟨a,z,kvs,rfl,rfl,d,q2⟩
end
theorem G8:bootBuiltins "min"= some (.builtin "min"):=by trivial
def ZS3(n l0 l1 l2:Nat)(i:Nat)(h:Heap):Prop:=IsZip h (n+5) (n+3) (n+4) .none/\l4 h (n+3) #[.ref n,.ref<|n+1,.ref<|n+2]/\(∃arr:Array Value,arr.size=3/\l4 h (n+4) arr)/\h.IsTupleIter n l0 i/\h.IsTupleIter (n+1) l1 i/\h.IsTupleIter (n+2) l2 i
noncomputable abbrev K2(h:Heap)(l0:Addr):Heap:=(h).push {cls:=.type "tuple_iterator",data:=.fields #[.ref l0,.int 0 0]}
noncomputable abbrev K3(h:Heap)(l0 l1:Addr):Heap:=(K2 h l0).push {cls:=.type "tuple_iterator",data:=.fields #[.ref l1,.int 0 0]}
noncomputable abbrev K4(h:Heap)(l0 l1 l2:Addr):Heap:=(K3 h l0 l1).push {cls:=.type "tuple_iterator",data:=.fields #[.ref l2,.int 0 0]}
noncomputable abbrev K5(h:Heap)(l0 l1 l2:Addr):Heap:=(K4 h l0 l1 l2).push {cls:=.type "tuple",data:=.seq #[.ref h.objs.size,.ref (K2 h l0).objs.size,.ref (K3 h l0 l1).objs.size]}
noncomputable abbrev K6(h:Heap)(l0 l1 l2:Addr):Heap:=(K5 h l0 l1 l2).push {cls:=.type "tuple",data:=.seq #[.none,.none,.none]}
noncomputable abbrev xl(h:Heap)(l0 l1 l2:Addr):Heap:=(K6 h l0 l1 l2).push {cls:=.type "zip",data:=.fields #[.none,.bool false,.bool false,.ref (K4 h l0 l1 l2).objs.size,.ref (K5 h l0 l1 l2).objs.size]}
theorem Bk(l0 l1 l2:Addr)(Bc Be RE:Array Value):Meets (Builtin.«zip.__new__» {[.type "zip",.ref l0,.ref l1,.ref l2],[]}) (λ_ R s=>s.heap.IsTuple l0 Bc/\s.heap.IsTuple l1 Be/\s.heap.IsTuple l2 RE/\R (.ok<|.ret<|.ref (K6 s.heap l0 l1 l2).objs.size) {s with heap:=xl s.heap l0 l1 l2}):=.of_wp λprog w A R s h=>by obtain⟨hp,g,d,tk,os⟩:=s;obtain⟨t0,t1,t2,h⟩:=h;have Pb:=sub_zip;have L0:Heap.IsTuple (Shared.heap ⟨hp,g,d,tk,os⟩) l0 Bc:=t0;have L1:Heap.IsTuple (Shared.heap {hp.push {cls:=.type "tuple_iterator",data:=.fields #[.ref l0,.int 0 0]},g,d,tk,os}) l1 Be:=Heap.IsTuple.push (t1) _;have L2:Heap.IsTuple (Shared.heap {(hp.push {cls:=.type "tuple_iterator",data:=.fields #[.ref l0,.int 0 0]}).push {cls:=.type "tuple_iterator",data:=.fields #[.ref l1,.int 0 0]},g,d,tk,os}) l2 RE:=Heap.IsTuple.push (Heap.IsTuple.push (t2) _) _;wp_walk using wpAny_pyIter_tuple L0,wpAny_pyIter_tuple L1,wpAny_pyIter_tuple L2;exact{_,rfl,h}
theorem Bl(a0 a1 a2:Value):checkTypeCall "zip" {[a0,a1,a2],[]}=pure ():=by kernel_rfl
theorem Bn(a0 a1 a2:Value):checkBuiltinCall "zip.__new__" {[.type "zip",a0,a1,a2],[]}=pure ():=by kernel_rfl
theorem Pm(x a0 a1 a2:Value):argsOk "object.__init__" {[x,a0,a1,a2],[]}:=by unfold argsOk;rw[signature?_of (id:="object.__init__") (n:=['_','_','t','i','n','i','_','_']) (o:=['t','c','e','j','b','o']) (by kernel_rfl) F.owner_object];kernel_rfl
theorem Bo(t0:s.heap.IsTuple l0 Bc)(t1:s.heap.IsTuple l1 Be)(t2:s.heap.IsTuple l2 RE) (h:∀h',ZS3 s.heap.objs.size l0 l1 l2 0 h'->(∀c o,s.heap.get? c=some o->h'.get? c=some o)->Q (.ref<|s.heap.objs.size+5) {s with heap:=h'}):wpAny (model prog w) A (call (.type "zip") [.ref l0,.ref l1,.ref l2]) Q E s:=by
 refine callType_new F.called_zip (by decide) (Bl _ _ _) (Bn _ _ _) (λobj=>Pm obj _ _ _) F.entry_zip_new (Bk l0 l1 l2 Bc Be RE) {t0,t1,t2,?_};have z1:(K2 s.heap l0).objs.size=s.heap.objs.size+1:=ya ..;have z2:(K3 s.heap l0 l1).objs.size=s.heap.objs.size+2:=by rw[ya,z1]
 have z3:(K4 s.heap l0 l1 l2).objs.size=s.heap.objs.size+3:=by rw[ya,z2]
 have z4:(K5 s.heap l0 l1 l2).objs.size=s.heap.objs.size+4:=by rw[ya,z3]
 have z5:(K6 s.heap l0 l1 l2).objs.size=s.heap.objs.size+5:=by rw[ya,z4]
 have z6:(xl s.heap l0 l1 l2).objs.size=s.heap.objs.size+6:=by rw[ya,z5]
 have g0:(xl s.heap l0 l1 l2).get? (s.heap).objs.size=some _:=za _<|za _<|za _<|za _<|za _<|zk _ rfl;have g1:(xl s.heap l0 l1 l2).get? (K2 s.heap l0).objs.size=some _:=za _<|za _<|za _<|za _<|zk _ rfl;have g2:(xl s.heap l0 l1 l2).get? (K3 s.heap l0 l1).objs.size=some _:=za _<|za _<|za _<|zk _ rfl;have g3:(xl s.heap l0 l1 l2).get? (K4 s.heap l0 l1 l2).objs.size=some _:=za _<|za _<|zk _ rfl;have g4:(xl s.heap l0 l1 l2).get? (K5 s.heap l0 l1 l2).objs.size=some _:=za _<|zk _ rfl;have g5:(xl s.heap l0 l1 l2).get? (K6 s.heap l0 l1 l2).objs.size=some _:=zk _ rfl;show _/\_;rw[z3,z4,z5]at g5;rw[z4]at g4;rw[z1,z2,z3]at g3;rw[z1]at g1;rw[z2]at g2;rw[z5];exact{{_,g5,rfl},h _ {g5,g3,!⟨g4⟩,{_,g0,rfl,rfl},{_,g1,rfl,rfl},{_,g2,rfl,rfl}} λc o x=>za _<|za _<|za _<|za _<|za _<|za _ x}
theorem Vals.three(h:Vals [x,y,z] us):∃u v w,us=[u,v,w]/\RelV x u/\RelV y v/\RelV z w:=by cases h with|cons r h=>cases h with|cons q h=>cases h with|cons p h=>cases h;exact{_,_,_,rfl,r,q,p}
section
variable{X:Cx}
def K7:V->List V->Hp->VK->Prop:=λx vs H Q=>∃z y,x=.str z/\vs=[.str y]/\Q (.bl<|PySem.Txt.startswith z y) H
theorem sV:Ru X "str.startswith" K7:=by intro pins s σ H x vs v us Q I rx rv h;obtain⟨z,y,rfl,rfl,q⟩:=h;obtain⟨t,rfl⟩:=rx;obtain⟨u,rfl,ru⟩:=rv.one;obtain⟨t',rfl⟩:=ru;exact PySem.SC.startswith {.bl _,H,I,rfl,q}
end
end L2
namespace L2
open PySem PySem.Spec PyProof.Rows PySem.SeqAt
end L2
namespace L2
open PySem PySem.Spec PyProof.Rows
theorem u9(l:Addr)(items:Array Value)(n:Nat)(b:Addr)(qG:Array Value)(n2:Nat)(sl:Array<|Option Value)(RF:¬(!items.isEmpty&&Builtin.List.listTooLong (items.size+qG.size))=true)(hs1:items.size<=sizeLine)(uQ:items.size+qG.size<=sizeLine+1): Meets (Builtin.«list.extend» {[.ref l,.ref b],[]}) (λ_ R s=>s.heap.get? l=some {cls:=.type "list",dict:=none,data:=.seq items n,slots:=#[]}/\s.heap.get? b=some {cls:=.type "tuple",dict:=none,data:=.seq qG n2,slots:=sl}/\R (.ok<|.ret Value.none) {s with heap:=s.heap.update l<|Obj.mapSeq λx=>x++qG,toks:=s.toks}):=.of_wp λprog w A R s h=>by
 obtain⟨hp,g,d,tk,os⟩:=s;obtain⟨hl,hb,h⟩:=h;have f1:=AutoSeq1.idx_int;have f2:=AutoSeq1.sub_tuple_tuple;have f3:=AutoSeq1.sub_list_list;have f4:=AutoSeq1.sub_tuple_list;have f5:=AutoSeq1.sub_list_tuple;have YI:(items++qG).size<=sizeLine+1:=by rw[Array.size_append];exact uQ
 wp_walk using (wpAny_updateSeq hl rfl (hz:=hs1) (_hz':=YI)),AutoSeq1.wpAny_loadPart' hl,AutoSeq1.wpAny_loadPart' hb;exact{_,rfl,h}
theorem nq:fillsNumberSlot (.type "tuple") "mul"= pure false:=PySem.fillsNumberSlot_seq (id:="tuple.__mul__") (r:=some<|.builtin "tuple.__rmul__") F.slot_tuple_mul.lookup (by trivial) F.slot_tuple_rmul.lookup<|by trivial
theorem u_:seqRepeat? (.type "tuple")=pure (some<|.builtin "tuple.__mul__"):=by unfold seqRepeat?;rw[PySem.seqSlot_of (T:="tuple") (name:="__mul__") (id:="tuple.__mul__") F.slot_tuple_mul.lookup<|by trivial,PySem.seqSlot_of (T:="tuple") (name:="__rmul__") (id:="tuple.__rmul__") F.slot_tuple_rmul.lookup<|by trivial];rfl
theorem qH(a:Int)(t:Tok)(l:Addr)(items:Array Value)(n:Nat)(dd:Option Addr)(sl:Array<|Option Value): Meets (Builtin.«int.__rmul__» {[.int a t,.ref l],[]}) (λ_ R s=>s.heap.get? l=some {cls:=.type "tuple",dict:=dd,data:=.seq items n,slots:=sl}/\R (.ok<|.ret Value.notImplemented) s):=.of_wp λprog w A R s h=>by obtain⟨hp,g,d,tk,os⟩:=s;obtain⟨hl,h⟩:=h;wp_walk;exact{_,rfl,h}
theorem xm(l:Addr)(v:Value)(n:Nat)(dd:Option Addr)(sl:Array<|Option Value)(u:Tok): Meets (Builtin.«tuple.__mul__» {[.ref l,.int 1 u],[]}) (λ_ R s=>s.heap.get? l=some {cls:=.type "tuple",dict:=dd,data:=.seq #[v] n,slots:=sl}/\R (.ok<|.ret<|.ref l) {s with heap:=s.heap,toks:=s.toks}):=.of_wp λprog w A R s h=>by obtain⟨hp,g,d,tk,os⟩:=s;obtain⟨hl,h⟩:=h;have f1:=AutoSeq1.idx_int;have f2:=AutoSeq1.sub_tuple_tuple;wp_walk using AutoSeq1.wpAny_loadPart' hl;exact{_,rfl,h}
theorem Bp(l:Addr)(v:Value)(n:Nat)(dd:Option Addr)(sl:Array<|Option Value)(x:Int)(u:Tok)(h1:2<=x)(h2:x<=1000): Meets (Builtin.«tuple.__mul__» {[.ref l,.int x u],[]}) (λ_ R s=>s.heap.get? l=some {cls:=.type "tuple",dict:=dd,data:=.seq #[v] n,slots:=sl}/\R (.ok<|.ret<|Value.ref s.heap.objs.size) {s with heap:=s.heap.push {cls:=Value.type "tuple",data:=Data.seq<|List.foldl (λx1 x2=>x1++x2) #[] (List.replicate x.toNat #[v])},toks:=s.toks}):=.of_wp λprog w A R s h=>by
 obtain⟨hp,g,d,tk,os⟩:=s;obtain⟨hl,h⟩:=h;have f1:=AutoSeq1.idx_int;have f2:=AutoSeq1.sub_tuple_tuple;have c0:-9223372036854775808<=x:=by lia
 have c1:x<9223372036854775808:=by lia
 have c2:¬x=1:=by lia
 have c3:0<x:=by lia
 have c4:x<=1152921504606846975:=by lia
 have c5:Builtin.Tuple.tupleTooMany x=false:=by simp[Builtin.Tuple.tupleTooMany,sizeLine];lia
 have hsz:(List.foldl (λx1 x2=>x1++x2) #[] (List.replicate x.toNat #[v])).size<=sizeLine:=by rw[AutoSeq1.size_joined];show 0+x.toNat*1<=16777216;lia
 wp_walk using AutoSeq1.wpAny_loadPart' hl;exact{_,rfl,h}
section
variable{X:Cx}{K:Frag}
def G9:V->List V->Hp->VK->Prop:=λx vs H Q=>∃l b xs zs,x=.ref l/\vs=[.ref b]/\H l=some (.lst xs)/\H b=some (.tup zs)/\xs.length+zs.length<=sizeLine/\Q .ao (upd H l<|.lst<|xs++zs)
theorem Bq:X9 X "list.extend" G9:=by
 intro pins s σ H x vs v us Q I rx rv h;obtain⟨l,b,xs,zs,rfl,rfl,hH,hB,hz,q⟩:=h;cases rx;obtain⟨u,rfl,ru⟩:=rv.one;cases ru;obtain⟨z,az,n,r,hl,e⟩:=I.Gy hH;obtain⟨z2,lU,r2,⟨c2,d2,dt2,wU⟩,e2,ec,ed,n2,en⟩:=(show aV X.prog X.w H s.heap b (.tup zs) from I.aG b _ hB);dsimp only at ec ed en;subst ec ed en;have JH:=r2.length;have hsz:az.toArray.size+lU.toArray.size<=sizeLine:=by rw[zm,zm];lia
 have T9:¬(!az.toArray.isEmpty&&Builtin.List.listTooLong (az.toArray.size+lU.toArray.size))=true:=by rw[Gz hsz,Bool.and_false];exact zd
 refine call_meets F.slot_list_extend {_,e,rfl} F.entry_list_extend (F.args_list_extend_2 _ _) (u9 l az.toArray n b lU.toArray n2 wU T9 (by rw[zm];lia)<|by lia) {e,e2,?_};refine{.ao,_,I.OO (its':=az++lU) hH e (by simp) (r.append r2) ?_,rfl,q};rw[zA];lia
theorem sW(hK:X.K=K):dy X (.builtin "isinstance") (λxs H Q=>∃a C b cs r,xs=[.ref a,.ref b]/\H a=some (sR a<|.ref C)/\XC K C/\XA K C/\H b=some (.tup cs)/\(∀az,Vals cs az->kitAny K (.ref C) az=some r)/\Q (.bl r) H):=by subst hK;intro pins s σ H xs us Q I r h;obtain⟨a,C,b,cs,r',rfl,ha,cC,xa,hb,e,q⟩:=h;obtain⟨v,w',rfl,rv,m9⟩:=vals2 r;cases (show v=Value.ref a from rv);cases (show w'=Value.ref b from m9);obtain⟨p,_⟩:=I.aG a _ ha;obtain⟨z2,lU,r2,⟨c2,d2,dt2,wU⟩,e2,ec,ed,n2,en⟩:=(show aV X.prog X.w H s.heap b (.tup cs) from I.aG b _ hb);dsimp only at ec ed en;subst ec ed en;exact PySem.W.kia_tup (xf cC xa) I.ku p e2 (e _ r2) (λz=>nomatch z) λtk=>{.bl r',H,I.tok tk,rfl,q}
theorem CP(v:Value):∀(n:Nat)(acc:List Value),List.foldl (λx1 x2=>x1++x2) acc.toArray (List.replicate n #[v])=(acc++List.replicate n v).toArray|0,acc=>by simp|n+1,acc=>by rw[List.replicate_succ,yG,show acc.toArray++#[v]=(acc++[v]).toArray by simp,CP v n,List.append_assoc];rfl
theorem xn(r:RelV x v):∀n,Vals (List.replicate n x) (List.replicate n v)|0=>.nil|n+1=>.cons r<|xn r n
def T_:R2:=λx y H Q=>∃a z n,x=.ref a/\y=.int n/\H a=some (.tup [z])/\1<=n/\n<=1000/\(n=1->Q (.ref a) H)/\(2<=n->∀p,H p=none->Q (.ref p) (upd H p<|.tup<|List.replicate n.toNat z))
theorem K8:gN X (binaryOp .Mult) T_:=by
 intro pins s σ H x y v u Q I rx ry h;obtain⟨a,z,n,rfl,rfl,ha,h1,h2,q1,q2⟩:=h;cases rx;obtain⟨t',rfl⟩:=ry;obtain⟨z2,lU,r2,⟨c2,d2,dt2,wU⟩,ho,ec,ed,n2,en⟩:=(show aV X.prog X.w H s.heap a (.tup [z]) from I.aG a _ ha);dsimp only at ec ed en;subst ec ed en;obtain⟨w,rfl,m9⟩:=r2.one;refine wpAny_binaryOp_repeat_ref (T:="tuple") (U:="int") (by decide) {_,ho,rfl} (λs'=>typeIs_int s' n t') nq F.fills_int_mul F.slot_int_rmul u_ F.slot_int_index.lookup<|call_meets F.slot_int_rmul (typeIs_int s n t') F.entry_int_rmul (F.args_int_rmul_2 _ _) (qH n t' a #[w] n2 none wU) {ho,rfl,{_,ho,rfl},?_};by_cases e:n=1;subst e;exact call_meets F.slot_tuple_mul {_,ho,rfl} F.entry_tuple_mul (F.args_tuple_mul_2 _ _) (xm a w n2 none wU t') {ho,.ref a,H,I.tok _,rfl,q1 rfl};have h3:2<=n:=by lia
 refine call_meets F.slot_tuple_mul {_,ho,rfl} F.entry_tuple_mul (F.args_tuple_mul_2 _ _) (Bp a w n2 none wU n t' h3 h2) {ho,?_};rw[show(#[]:Array Value)=([]:List Value).toArray from rfl,CP,List.nil_append];refine{.ref s.heap.objs.size,_,I.laid (t':=s.toks) (λ_ _ q=>za _ q) (zo _) ?_,rfl,q2 h3 _ I.fresh};exact(show aV X.prog X.w _ _ _ (.tup<|List.replicate n.toNat z) from{by rw[yf];exact YE<|by lia,_,xn m9 _,gz.new _ _})
end
set_option genInjectivity true in
set_option genSizeOfSpec true in
inductive D where
 |ao|bl (b:Bool)|int (i:Int)|str (x:Str)|tup (ds:List D)|iU (ds:List D)|kt (ds:List D)|ref (a:Addr)|ty (n:String)
def YJ(K:Frag)(a:Addr)(xs:List V):Prop:=∃(o:Obj)(az:Array Value)(n:Nat),K.lookup a=some o/\o.cls=.type "tuple"/\o.data=.seq az n/\az.size<=sizeLine/\Vals xs az.toList
def MS(K:Frag)(H:Hp)(a:Addr)(xs:List V):Prop:=(∃o,H a=some (.k7 o<|.lst xs))\/∃(o:Obj)(az:Array Value)(n:Nat),K.lookup a=some o/\o.cls=.type "list"/\o.dict=none/\o.data=.seq az n/\az.size<=sizeLine/\Vals xs az.toList
theorem MS.sq{K:Frag}{H:Hp}{a:Addr}{xs:List V}(h:MS K H a xs):jd K H a xs:=by rcases h with h|h;exact .inl<|.inr h;exact .inr h
structure Kp(K:Frag)(H H':Hp):Prop where
 t:∀a xs,H a=some (.tup xs)->H' a=some (.tup xs)
 r:∀a xs,MS K H a xs->MS K H' a xs
 f:∀a o u,H a=some (.k7 o u)->H' a=some (.k7 o u)
theorem Kp.refl{K:Frag}(H:Hp):Kp K H H:={λ_ _ h=>h,λ_ _ h=>h,λ_ _ _ h=>h}
theorem Kp.trans{K:Frag}{H H1 H2:Hp}(a:Kp K H H1)(b:Kp K H1 H2):Kp K H H2:={λp xs h=>b.t p xs<|a.t p xs h,λp xs h=>b.r p xs<|a.r p xs h,λp o u h=>b.f p o u<|a.f p o u h}
theorem Kp.of{K:Frag}{H H':Hp}(h:∀b o,H b=some o->H' b=some o\/(∀xs,o≠.tup xs)/\∀u v,o≠.k7 u v):Kp K H H' where
 t:=λa xs q=>(h _ _ q).resolve_right λz=>z.1 _ rfl
 r:=λa xs q=>by
  rcases q with⟨o,q⟩|q
  ·exact .inl {o,(h _ _ q).resolve_right λz=>z.2 _ _ rfl}
  ·exact .inr q
 f:=λa o u q=>(h _ _ q).resolve_right λz=>z.2 _ _ rfl
theorem Kp.new{K:Frag}{H:Hp}{a:Addr}{o:HO}(h:H a=none):Kp K H (upd H a o):=.of λb u e=>.inl<|by rw[ar<|ax e h];exact e
theorem Kp.put{K:Frag}{H:Hp}{a:Addr}{o u:HO}(h:H a=some o)(h1:∀xs,o≠.tup xs)(h2:∀u v,o≠.k7 u v):Kp K H (upd H a u):=.of λb v e=>by by_cases q:b=a;subst q;rw[h]at e;cases e;exact .inr ⟨h1,h2⟩;exact .inl<|by rw[ar q];exact e
mutual
def Rv(K:Frag)(H:Hp):D->V->Prop|.ao,v=>v=.ao|.bl b,v=>v=.bl b|.int i,v=>v=.int i|.str z,v=>v=.str z|.tup ds,v=>∃a xs,v=.ref a/\H a=some (.tup xs)/\RvAll K H ds xs|.iU ds,v=>∃a xs,v=.ref a/\MS K H a xs/\RvAll K H ds xs|.kt ds,v=>∃a xs,v=.ref a/\YJ K a xs/\RvAll K H ds xs|.ref a,v=>v=.ref a|.ty n,v=>v=.ty n
def RvAll(K:Frag)(H:Hp):List D->List V->Prop|[],xs=>xs=[]|d::ds,xs=>∃y ys,xs=y::ys/\Rv K H d y/\RvAll K H ds ys
end
section
variable{K:Frag}{H H':Hp}
theorem ip:Rv K H .ao .ao:=by simp only[Rv]
theorem bx(b:Bool):Rv K H (.bl b) (.bl b):=by simp only[Rv]
theorem aP(i:Int):Rv K H (.int i) (.int i):=by simp only[Rv]
theorem e8(z:Str):Rv K H (.str z) (.str z):=by simp only[Rv]
theorem d9(a:Addr):Rv K H (.ref a) (.ref a):=by simp only[Rv]
theorem Ua(n:String):Rv K H (.ty n) (.ty n):=by simp only[Rv]
theorem MT(h:YJ K a xs)(t:RvAll K H ds xs):Rv K H (.kt ds) (.ref a):=by simp only[Rv];exact⟨a,xs,rfl,h,t⟩
theorem jj(h:H a=some (.tup xs))(t:RvAll K H ds xs):Rv K H (.tup ds) (.ref a):=by simp only[Rv];exact⟨a,xs,rfl,h,t⟩
theorem G_(h:MS K H a xs)(t:RvAll K H ds xs):Rv K H (.iU ds) (.ref a):=by simp only[Rv];exact⟨a,xs,rfl,h,t⟩
theorem Rv.ao(h:Rv K H .ao v):v=.ao:=by simpa only[Rv]using h
theorem Rv.bl(h:Rv K H (.bl b) v):v=.bl b:=by simpa only[Rv]using h
theorem Rv.int(h:Rv K H (.int i) v):v=.int i:=by simpa only[Rv]using h
theorem Rv.str(h:Rv K H (.str z) v):v=.str z:=by simpa only[Rv]using h
theorem Rv.ref(h:Rv K H (.ref a) v):v=.ref a:=by simpa only[Rv]using h
theorem Rv.ty(h:Rv K H (.ty n) v):v=.ty n:=by simpa only[Rv]using h
theorem Rv.kt(h:Rv K H (.kt ds) v):∃a xs,v=.ref a/\YJ K a xs/\RvAll K H ds xs:=by simpa only[Rv]using h
theorem Rv.tup(h:Rv K H (.tup ds) v):∃a xs,v=.ref a/\H a=some (.tup xs)/\RvAll K H ds xs:=by simpa only[Rv]using h
theorem Rv.iU(h:Rv K H (.iU ds) v):∃a xs,v=.ref a/\MS K H a xs/\RvAll K H ds xs:=by simpa only[Rv]using h
theorem bh:RvAll K H [] []:=by simp only[RvAll]
theorem aT(h:Rv K H d x)(t:RvAll K H ds xs):RvAll K H (d::ds) (x::xs):=by simp only[RvAll];exact⟨x,xs,rfl,h,t⟩
theorem RvAll.nil(h:RvAll K H [] xs):xs=[]:=by simpa only[RvAll]using h
theorem RvAll.cons(h:RvAll K H (d::ds) xs):∃y ys,xs=y::ys/\Rv K H d y/\RvAll K H ds ys:=by simpa only[RvAll]using h
mutual
theorem Rv.ts(s:Kp K H H'):∀(d:D){v:V},Rv K H d v->Rv K H' d v|.ao,v,h=>by simpa only[Rv]using h|.bl b,v,h=>by simpa only[Rv]using h|.int i,v,h=>by simpa only[Rv]using h|.str z,v,h=>by simpa only[Rv]using h|.tup ds,v,h=>(by obtain⟨a,xs,rfl,e,t⟩:=h.tup;exact jj (s.t _ _ e)<|RvAll.ts s ds t)|.iU ds,v,h=>(by obtain⟨a,xs,rfl,e,t⟩:=h.iU;exact G_ (s.r _ _ e)<|RvAll.ts s ds t)|.kt ds,v,h=>(by obtain⟨a,xs,rfl,e,t⟩:=h.kt;exact MT e<|RvAll.ts s ds t)|.ref a,v,h=>by simpa only[Rv]using h|.ty n,v,h=>by simpa only[Rv]using h
theorem RvAll.ts(s:Kp K H H'):∀(ds:List D){xs:List V},RvAll K H ds xs->RvAll K H' ds xs|[],xs,h=>by rw[h.nil];exact bh|d::ds,xs,h=>by obtain⟨y,ys,rfl,h1,h2⟩:=h.cons;exact aT (Rv.ts s d h1)<|RvAll.ts s ds h2
end
theorem RvAll.len:∀{ds:List D}{xs:List V},RvAll K H ds xs->xs.length=ds.length|[],xs,h=>by rw[h.nil];rfl|d::ds,xs,h=>by obtain⟨y,ys,rfl,_,h2⟩:=h.cons;rw[zG,zG,h2.len]
theorem RvAll.get:∀{ds:List D}{xs:List V}{i:Nat}{d:D},RvAll K H ds xs->ds[i]?=some d->∃v,xs[i]?=some v/\Rv K H d v|[],xs,i,d,h,e=>by simp at e|d0::ds,xs,0,d,h,e=>(by obtain⟨y,ys,rfl,h1,h2⟩:=h.cons;simp at e;subst e;exact⟨y,rfl,h1⟩)|d0::ds,xs,i+1,d,h,e=>by obtain⟨y,ys,rfl,h1,h2⟩:=h.cons;obtain⟨v,e1,e2⟩:=h2.get (i:=i) (by simpa using e);exact{v,by simpa using e1,e2}
theorem RvAll.app:∀{ds es:List D}{xs ys:List V},RvAll K H ds xs->RvAll K H es ys->RvAll K H (ds++es) (xs++ys)|[],es,xs,ys,h,k=>by rw[h.nil];exact k|d::ds,es,xs,ys,h,k=>by obtain⟨y,zs,rfl,h1,h2⟩:=h.cons;exact aT h1<|h2.app k
theorem RvAll.take:∀{ds:List D}{xs:List V}(n:Nat),RvAll K H ds xs->RvAll K H (ds.take n) (xs.take n)|[],xs,n,h=>by rw[h.nil];simp only[List.take_nil];exact bh|d::ds,xs,0,h=>by simp only[List.take_zero];exact bh|d::ds,xs,n+1,h=>by obtain⟨y,zs,rfl,h1,h2⟩:=h.cons;exact aT h1<|h2.take n
theorem RvAll.drop:∀{ds:List D}{xs:List V}(n:Nat),RvAll K H ds xs->RvAll K H (ds.drop n) (xs.drop n)|[],xs,n,h=>by rw[h.nil];simp only[List.drop_nil];exact bh|d::ds,xs,0,h=>h|d::ds,xs,n+1,h=>by obtain⟨y,zs,rfl,h1,h2⟩:=h.cons;exact h2.drop n
theorem RvAll.set:∀{ds:List D}{xs:List V}{d:D}{v:V}(n:Nat),RvAll K H ds xs->Rv K H d v->RvAll K H (ds.set n d) (xs.set n v)|[],xs,d,v,n,h,r=>by rw[h.nil];exact bh|d0::ds,xs,d,v,0,h,r=>(by obtain⟨y,zs,rfl,h1,h2⟩:=h.cons;exact aT r h2)|d0::ds,xs,d,v,n+1,h,r=>by obtain⟨y,zs,rfl,h1,h2⟩:=h.cons;exact aT h1<|h2.set n r
theorem RvAll.dropLast:∀{ds:List D}{xs:List V},RvAll K H ds xs->RvAll K H ds.dropLast xs.dropLast|[],xs,h=>by rw[h.nil];exact bh|[d],xs,h=>(by obtain⟨y,zs,rfl,h1,h2⟩:=h.cons;rw[h2.nil];exact bh)|d::e::ds,xs,h=>by obtain⟨y,zs,rfl,h1,h2⟩:=h.cons;obtain⟨y2,zs2,rfl,h3,h4⟩:=id h2.cons;exact aT h1<|RvAll.dropLast h2
theorem RvAll.bools:∀{bs:List Bool}{xs:List V},RvAll K H (bs.map D.bl) xs->xs=bs.map V.bl|[],xs,h=>h.nil|b::bs,xs,h=>by obtain⟨y,ys,rfl,h1,h2⟩:=h.cons;rw[h1.bl,h2.bools];rfl
theorem RvAll.ints:∀{bs:List Int}{xs:List V},RvAll K H (bs.map D.int) xs->xs=bs.map V.int|[],xs,h=>h.nil|b::bs,xs,h=>by obtain⟨y,ys,rfl,h1,h2⟩:=h.cons;rw[h1.int,h2.ints];rfl
theorem RvAll.strs:∀{bs:List Str}{xs:List V},RvAll K H (bs.map D.str) xs->xs=bs.map V.str|[],xs,h=>h.nil|b::bs,xs,h=>by obtain⟨y,ys,rfl,h1,h2⟩:=h.cons;rw[h1.str,h2.strs];rfl
theorem CQ:∀(bs:List Int),RvAll K H (bs.map D.int) (bs.map V.int)|[]=>bh|b::bs=>aT (aP b)<|CQ bs
theorem vd:∀(bs:List Str),RvAll K H (bs.map D.str) (bs.map V.str)|[]=>bh|b::bs=>aT (e8 b)<|vd bs
def bO{κ:Type}(K:Frag)(H:Hp):List (κ×D)->List (κ×V)->Prop:=Paired λp q=>p.1=q.1/\Rv K H p.2 q.2
theorem bO.ts(s:Kp K H H'):∀{ks:List (κ×D)}{vs:List (κ×V)},bO K H ks vs->bO K H' ks vs|_,_,.nil=>.nil|_,_,.cons r t=>.cons {r.1,Rv.ts s _ r.2}<|bO.ts s t
theorem bO.look(h:bO K H ks vs)(f:Str):(∀d,ks.lookup f=some d->∃v,vs.lookup f=some v/\Rv K H d v)/\(ks.lookup f=none->vs.lookup f=none):=by induction h with|nil=>(exact{λd e=>(by cases e),λ_=>rfl})|@cons a b l m r t ih=>obtain⟨k,d⟩:=a;obtain⟨k',v⟩:=b;obtain⟨rfl,r⟩:=r;simp only[zN];cases q:f==k with|true=>(exact{λd' e=>{v,rfl,(by cases e;exact r)},λe=>(by cases e)})|false=>exact ih
end
set_option genInjectivity true in
set_option genSizeOfSpec true in
inductive Ce where
 |lst (ds:List D)|cY (kvs:List<|Key×D)|ins (c:Addr) (fs:List<|Str×D)|well|exc (c:Addr)|tab (q:Str)
def CT(H:Hp)(q:Str)(ps:Array Value):Prop:=TriplesOk ps.toList/\∀pos cv,codeAmong pos ps.toList=some cv->∃c o vs t,cv=.ref c/\H c=some (.k7 o<|.own 0)/\o.data=.fields vs/\vs[1]?=some (.str q t)
abbrev aw:=Addr->Option Ce
noncomputable def aw.set(S:aw)(a:Addr)(c:Ce):aw:=λb=>if b=a then some c else S b
theorem aa{S:aw}{a:Addr}{c:Ce} : S.set a c a=some c:=by unfold aw.set;rw[if_pos rfl]
theorem ag{S:aw}{a b:Addr}{c:Ce}(h:b≠a):S.set a c b=S b:=by unfold aw.set;rw[if_neg h]
theorem aR{S:aw}{a:Addr}{c e:Ce} : (S.set a c).set a e=S.set a e:=by funext b;unfold aw.set;split<;>rfl
theorem ia{S:aw}{a b:Addr}{c:Ce}(h:S a=some c)(h':S b=none):a≠b:=by intro e;subst e;rw[h]at h';cases h'
def Rc(K:Frag)(H:Hp)(a:Addr):Ce->Prop|.lst ds=>∃xs,H a=some (.lst xs)/\RvAll K H ds xs|.cY kvs=>∃vs,H a=some (.dK vs)/\bO K H kvs vs|.ins c fs=>∃dx vs,H a=some (.ins c dx vs)/\bO K H fs vs|.well=>∃x y z:Int,H a=some (.lst [.int x,.int y,.int z])|.exc c=>H a=some (sR a<|.ref c)|.tab q=>∃ps,H a=some (.pQ ps)/\CT H q ps
def Rs(K:Frag)(S:aw)(H:Hp):Prop:=∀a c,S a=some c->Rc K H a c
section
variable{K:Frag}{H H':Hp}{S:aw}{a b:Addr}{c:Ce}
theorem Rc.has(h:Rc K H a c):∃o,H a=some o/\(∀xs,o≠.tup xs)/\∀u v,o≠.k7 u v:=by cases c with|lst ds=>(obtain⟨xs,e,_⟩:=h;exact{_,e,λ_=>nofun,λ_ _=>nofun})|cY ds=>(obtain⟨xs,e,_⟩:=h;exact{_,e,λ_=>nofun,λ_ _=>nofun})|ins c fs=>(obtain⟨dx,vs,e,_⟩:=h;exact{_,e,λ_=>nofun,λ_ _=>nofun})|well=>(obtain⟨x,y,z,e⟩:=h;exact{_,e,λ_=>nofun,λ_ _=>nofun})|exc c=>exact{_,h,λ_=>nofun,λ_ _=>nofun}|tab q=>obtain⟨ps,e,_⟩:=h;exact{_,e,λ_=>nofun,λ_ _=>nofun}
theorem Rc.keep(h:Rc K H a c)(e:∀o,H a=some o->H' a=some o)(s:Kp K H H'):Rc K H' a c:=by cases c with|lst ds=>(obtain⟨xs,e1,r⟩:=h;exact{xs,e _ e1,RvAll.ts s _ r})|cY ds=>(obtain⟨xs,e1,r⟩:=h;exact{xs,e _ e1,r.ts s})|ins c fs=>(obtain⟨dx,vs,e1,r⟩:=h;exact{dx,vs,e _ e1,r.ts s})|well=>(obtain⟨x,y,z,e1⟩:=h;exact{x,y,z,e _ e1})|exc c=>exact e _ h|tab q=>obtain⟨ps,e1,r,r2⟩:=h;exact{ps,e _ e1,r,λpos cv z=>by obtain⟨c,o,vs,t,z1,z2,z3⟩:=r2 pos cv z;exact{c,o,vs,t,z1,s.f _ _ _ z2,z3}}
theorem Rs.fresh(h:Rs K S H)(e:H a=none):S a=none:=by cases q:S a with|none=>rfl|some c=>obtain⟨o,e1,_⟩:=(h a c q).has;rw[e]at e1;cases e1
theorem Rs.new(h:Rs K S H)(e:H a=none){o:HO}(r:Rc K (upd H a o) a c):Rs K (S.set a c) (upd H a o):=λb x hb=>by by_cases q:b=a;subst q;rw[aa]at hb;cases hb;exact r;rw[ag q]at hb;exact(h b x hb).keep (λo e1=>by rw[ar q];exact e1)<|Kp.new e
theorem Rs.grow(h:Rs K S H)(e:H a=none):Rs K S (upd H a o):=λb x hb=>by obtain⟨u,e1,_⟩:=(h b x hb).has;have q:b≠a:=ax e1 e;exact(h b x hb).keep (λo e1=>by rw[ar q];exact e1)<|Kp.new e
theorem Rs.iq(h:Rs K S H)(ha:S a=some e):Kp K H (upd H a o):=by obtain⟨u,e1,n1,n2⟩:=(h a e ha).has;exact Kp.put e1 n1 n2
theorem Rs.put(h:Rs K S H){e:Ce}(ha:S a=some e){o:HO}(r:Rc K (upd H a o) a c):Rs K (S.set a c) (upd H a o):=λb x hb=>by by_cases q:b=a;subst q;rw[aa]at hb;cases hb;exact r;rw[ag q]at hb;exact(h b x hb).keep (λo e1=>by rw[ar q];exact e1)<|h.iq ha
theorem Rs.lst(h:Rs K S H)(e:S a=some (.lst ds)):∃xs,H a=some (.lst xs)/\RvAll K H ds xs:=h a _ e
theorem Rs.cY(h:Rs K S H)(e:S a=some (.cY ds)):∃xs,H a=some (.dK xs)/\bO K H ds xs:=h a _ e
theorem Rs.ins{c:Addr}{fs:List<|Str×D}(h:Rs K S H)(e:S a=some (.ins c fs)):∃dx vs,H a=some (.ins c dx vs)/\bO K H fs vs:=h a _ e
end
abbrev KD:=D->aw->Prop
abbrev KX:=Addr->aw->Prop
abbrev SD:=List<|Option D
def fX(K:Frag)(H:Hp):SD->St->Prop:=Paired λ(o:Option D)(u:Option V)=>∀d,o=some d->∃v,u=some v/\Rv K H d v
section
variable{K:Frag}{H H':Hp}
theorem fX.ts(s:Kp K H H'):∀{σ:SD}{τ:St},fX K H σ τ->fX K H' σ τ|_,_,.nil=>.nil|_,_,.cons r t=>.cons (λd e=>by obtain⟨v,e1,r1⟩:=r d e;exact{v,e1,Rv.ts s _ r1})<|fX.ts s t
theorem fX.get:∀{σ:SD}{τ:St}{i:Nat}{d:D},fX K H σ τ->σ[i]?=some (some d)->∃v,τ[i]?=some (some v)/\Rv K H d v|_,_,i,d,.nil,e=>by simp at e|_,_,0,d,.cons r t,e=>(by simp at e;obtain⟨v,e1,r1⟩:=r d e;exact{v,by simp[e1],r1})|_,_,i+1,d,.cons r t,e=>by obtain⟨v,e1,r1⟩:=fX.get (i:=i) t (by simpa using e);exact{v,by simpa using e1,r1}
theorem fX.set:∀{σ:SD}{τ:St}(i:Nat){d:D}{v:V},fX K H σ τ->Rv K H d v->fX K H (σ.set i<|some d) (τ.set i<|some v)|_,_,i,d,v,.nil,r=>.nil|_,_,0,d,v,.cons r t,q=>(.cons (λd' e=>by cases e;exact⟨v,rfl,q⟩) t)|_,_,i+1,d,v,.cons r t,q=>.cons r<|fX.set i t q
theorem fX.unset:∀{σ:SD}{τ:St}(i:Nat)(o:Option V),fX K H σ τ->fX K H (σ.set i none) (τ.set i o)|_,_,i,o,.nil=>.nil|_,_,0,o,.cons r t=>(.cons (λd' e=>by cases e) t)|_,_,i+1,o,.cons r t=>.cons r<|fX.unset i o t
theorem l5:∀(n:Nat)(τ:St),τ.length=n->fX K H (List.replicate n none) τ|0,[],_=>.nil|n+1,_::τ,h=>.cons (λd e=>by cases e)<|l5 n τ<|by simpa using h
theorem l6:∀{ds:List D}{vs:List V},RvAll K H ds vs->fX K H (ds.map some) (vs.map some)|[],vs,h=>by rw[h.nil];exact .nil|d::ds,vs,h=>by obtain⟨y,ys,rfl,h1,h2⟩:=h.cons;exact .cons (λd' e=>by cases e;exact⟨y,rfl,h1⟩)<|l6 h2
theorem fX.app:∀{σ av:SD}{τ RG:St},fX K H σ τ->fX K H av RG->fX K H (σ++av) (τ++RG)|_,_,_,_,.nil,h=>h|_,_,_,_,.cons r t,h=>.cons r<|fX.app t h
end
structure Rdy(Y:Cx)(E:St->XK)(b:Bool):Prop where
 call:∀p2 τ H s e s',Inv Y p2 τ H s->fi Y.prog Y.w Y.mg Y.stack H s (E τ) e s'->Y.xe e s'
 own:b=true->∀p2 τ H s h' a cls args,Inv Y p2 τ H s->Heap.MadeExcOf s.heap h' a cls args->E τ cls none H->Y.xe (.ref a) {s with heap:=h'}
 loop:b=true->PassesOwn (model Y.prog Y.w) Y.A Y.env Y.xe
structure Ev(X:Cx)(b:Bool) where
 pn:List (Addr×Obj)
 xe:Value->Shared->Prop
 E:St->XK
 ok:Rdy {X with pn:=pn,xe:=xe} E b
noncomputable abbrev Ev.cx{X:Cx}{b:Bool}(y:Ev X b):Cx:={X with pn:=y.pn,xe:=y.xe}
def Cn(K:Frag)(H:Hp)(R:KD)(Q:VK):Prop:=∀d S v H',R d S->Rv K H' d v->Rs K S H'->Kp K H H'->Q v H'
def ED(K:Frag)(H:Hp)(Z:KX)(e:XK):Prop:=∀C S H',Z C S->Rs K S H'->Kp K H H'->e (.ref C) none H'
theorem Cn.kp{K:Frag}{H H1:Hp}{R:KD}{Q:VK}(h:Cn K H R Q)(k:Kp K H H1):Cn K H1 R Q:=λd S v H' r v1 s1 k1=>h d S v H' r v1 s1<|k.trans k1
theorem ED.kp{K:Frag}{H H1:Hp}{Z:KX}{e:XK}(h:ED K H Z e)(k:Kp K H H1):ED K H1 Z e:=λC S H' r s1 k1=>h C S H' r s1<|k.trans k1
abbrev TD:=SD->aw->KD->KX->Prop
def T(K:Frag)(E:St->XK)(t:TD):TE:=λτ H Q=>∃σ S R Z,fX K H σ τ/\Rs K S H/\t σ S R Z/\Cn K H R Q/\ED K H Z (E τ)
structure DE(K:Frag)(X:Cx)(e:Expr)(t:TD):Prop where
 of:∀{b:Bool}(y:Ev X b),PE y.cx e<|T K y.E t
abbrev l7:=SD->aw->(Bool->aw->Prop)->KX->Prop
def WD(K:Frag)(H:Hp)(R:Bool->aw->Prop)(Q:Bool->Hp->Prop):Prop:=∀b S H',R b S->Rs K S H'->Kp K H H'->Q b H'
theorem WD.kp{K:Frag}{H H1:Hp}{R:Bool->aw->Prop}{Q:Bool->Hp->Prop}(h:WD K H R Q)(k:Kp K H H1):WD K H1 R Q:=λd S H' r s1 k1=>h d S H' r s1<|k.trans k1
def Tt(K:Frag)(E:St->XK)(t:l7):TT:=λτ H Q=>∃σ S R Z,fX K H σ τ/\Rs K S H/\t σ S R Z/\WD K H R Q/\ED K H Z (E τ)
structure DT(K:Frag)(X:Cx)(e:Expr)(t:l7):Prop where
 of:∀{b:Bool}(y:Ev X b),PT y.cx e<|Tt K y.E t
abbrev ir:=SD->aw->(List D->aw->Prop)->KX->Prop
def CnA(K:Frag)(H:Hp)(R:List D->aw->Prop)(Q:List V->Hp->Prop):Prop:=∀ds S vs H',R ds S->RvAll K H' ds vs->Rs K S H'->Kp K H H'->Q vs H'
def Ta(K:Frag)(E:St->XK)(t:ir):TA:=λτ H Q=>∃σ S R Z,fX K H σ τ/\Rs K S H/\t σ S R Z/\CnA K H R Q/\ED K H Z (E τ)
structure DA(K:Frag)(X:Cx)(es:List Expr)(t:ir):Prop where
 of:∀{b:Bool}(y:Ev X b),PA y.cx es<|Ta K y.E t
theorem PE.mono{t t':TE}(h:PE X e t)(i:∀τ H Q,t' τ H Q->t τ H Q):PE X e t':=λpins s τ H Q I q=>h pins s τ H Q I<|i τ H Q q
theorem PT.mono{t t':TT}(h:PT X e t)(i:∀τ H Q,t' τ H Q->t τ H Q):PT X e t':=λpins s τ H Q I q=>h pins s τ H Q I<|i τ H Q q
theorem PA.mono{t t':TA}(h:PA X e t)(i:∀τ H Q,t' τ H Q->t τ H Q):PA X e t':=λpos pins s τ H Q I q=>h pos pins s τ H Q I<|i τ H Q q
section
variable{K:Frag}{X:Cx}
inductive Ub (i:Nat) (σ:SD) (S:aw) (R:KD):Prop where
 |mk (d:D) (h:σ[i]?=some (some d)) (r:R d S)
def Uc(i:Nat):TD:=λσ S R _=>Ub i σ S R
inductive RH (x:D) (S:aw) (R:Bool->aw->Prop):Prop where
 |mk (b:Bool) (h:x=.bl b) (r:R b S)
def dC(d:D):TD:=λ_ S R _=>R d S
theorem dv(i:Nat)(hN:autoParam (X.N[i]?=some x) qQJ)(hv:NY X.env.scope x:=by first|exact Or.inl rfl|exact Or.inr (Or.inl rfl)|exact Or.inr (Or.inr rfl))(hd:autoParam ((x==("__debug__": Str))=false) qQZ) (pT:autoParam ((x==("__classdict__": Str))=false) qQZ):DE K X (.Name x pos) (Uc i):=⟨λy=>(N3 (X:=y.cx) hN hv hd pT).mono <| by rintro τ H Q ⟨σ,S,R,Z,aB,hS,⟨d,e,r⟩,hR,_⟩;exact by obtain⟨v,e1,rv⟩:=aB.get e;exact{v,e1,hR d S v H r rv hS<|Kp.refl _}⟩
theorem DE.const(h:∀Y:Cx,Y.env=X.env->Y.mg=X.mg->PE Y e (tC v))(r:∀H,Rv K H d v):DE K X e (dC d):=⟨λy=>(h y.cx rfl rfl).mono <| by rintro τ H Q ⟨σ,S,R,Z,aB,hS,q,hR,_⟩;exact hR d S v H q (r H) hS<|Kp.refl _⟩
theorem di:DE K X (.Constant (.int i) j pos) (dC<|.int i):=.const (λ_ _ _=>N4) λ_=>aP i
theorem ds:DE K X (.Constant (.str i) j pos) (dC<|.str i):=.const (λ_ _ _=>N6) λ_=>e8 i
theorem db:DE K X (.Constant (.bool i) j pos) (dC<|.bl i):=.const (λ_ _ _=>MD) λ_=>bx i
theorem dn:DE K X (.Constant .none j pos) (dC .ao):=.const (λ_ _ _=>N5) λ_=>ip
theorem dg(hm:X.mg x=some u)(r:RelV v u)(rd:∀H,Rv K H d v)(hg:autoParam (Gl X x) qQJ)(hd:autoParam ((x==("__debug__": Str))=false) qQZ):DE K X (.Name x pos) (dC d):=.const (λY e1 e2=>Cy (X:=Y) (u:=u) (show Y.env.kindOf x=_ by rw[e1];exact hg) (by rw[e2];exact hm) r hd) rd
theorem wI(hm:X.mg x=none)(hv:bootBuiltins x=some (.type n))(hg:autoParam (Gl X x) qQJ)(hn:autoParam (x≠"__name__") qQZ)(hd:autoParam ((x==("__debug__": Str))=false) qQZ):DE K X (.Name x pos) (dC<|.ty n):=.const (λY e1 e2=>JV (X:=Y) (v:=.ty n) (show Y.env.kindOf x=_ by rw[e1];exact hg) (by rw[e2];exact hm) hv rfl hn hd) λ_=>Ua n
def Ha:ir:=λ_ S R _=>R [] S
def MU(t:TD)(u:ir):ir:=λσ S R Z=>t σ S (λd S1=>u σ S1 (λds S2=>R (d::ds) S2) Z) Z
theorem an:DA K X [] Ha:=⟨λy=>(AV (X:=y.cx)).mono <| by rintro τ H Q ⟨σ,S,R,Z,aB,hS,q,hR,_⟩;exact hR [] S [] H q bh hS<|Kp.refl _⟩
theorem ac{t:TD}(h:DE K X e t)(hr:DA K X es u)(hp:autoParam (isPlain e=true) qQJ):DA K X (e::es) (MU t u):=
 ⟨λy=>(Ys (h.of y) (hr.of y) hp).mono <| by rintro τ H Q ⟨σ,S,R,Z,aB,hS,q,hR,hZ⟩;exact
  ⟨σ,S,_,Z,aB,hS,q,λd S1 x H1 r1 v1 s1 k1=>⟨σ,S1,_,Z,aB.ts k1,s1,r1,λds S2 xs H2 r2 v2 s2 k2=>hR (d::ds) S2 (x::xs) H2 r2 (aT (Rv.ts k2 _ v1) v2) s2<|k1.trans k2,hZ.kp k1⟩,hZ⟩⟩
abbrev sX:=D->D->aw->KD->Prop
theorem al{x:Str}{pos:Pos}(i:Nat)(hr:DA K X es u)(hN:autoParam (X.N[i]?=some x) qQJ)(hv:NY X.env.scope x:=by first|exact Or.inl rfl|exact Or.inr (Or.inl rfl)|exact Or.inr (Or.inr rfl))(hd:autoParam ((x==("__debug__": Str))=false) qQZ) (pT:autoParam ((x==("__classdict__": Str))=false) qQZ):DA K X (.Name x pos::es) (MU (Uc i) u):=ac (dv i hN hv hd pT) hr rfl
def Lr(K:Frag)(r:sX):R2:=λx y H Q=>∃d e S R,Rv K H d x/\Rv K H e y/\Rs K S H/\r d e S R/\Cn K H R Q
def nr(K:Frag)(f:Value->Value->Sem Value)(r:sX):Prop:=∀X:Cx,X.K=K->X.A.units+64<cLine->gN X f (Lr K r)
def Pn(r:sX)(ta tb:TD):TD:=λσ S R Z=>ta σ S (λx S1=>tb σ S1 (λy S2=>r x y S2 R) Z) Z
theorem T.op(h:T K E (Pn r ta tb) τ H Q):Rr (Lr K r) (T K E ta) (T K E tb) τ H Q:=by obtain⟨σ,S,R,Z,aB,hS,q,hR,hZ⟩:=h;exact{σ,S,_,Z,aB,hS,q,λd S1 x H1 r1 v1 s1 k1=>{σ,S1,_,Z,aB.ts k1,s1,r1,λe S2 y H2 r2 v2 s2 k2=>{d,e,S2,R,Rv.ts k2 _ v1,v2,s2,r2,hR.kp<|k1.trans k2},hZ.kp k1},hZ}
theorem bo(ho:nr K (binaryOp op) r)(hu:X.A.units+64<cLine)(ha:DE K X a ta)(hb:DE K X b tb)(hK:autoParam (X.K=K) qQJ):DE K X (.BinOp a op b pos) (Pn r ta tb):=⟨λy=>(SO (ho y.cx hK hu) (ha.of y)<|hb.of y).mono λ_ _ _ h=>h.op⟩
theorem cm(ho:nr K (compareOp op) r)(hu:X.A.units+64<cLine)(ha:DE K X a ta)(hb:DE K X b tb)(hm:autoParam (behindInMarks op b=false) qQ2)(hK:autoParam (X.K=K) qQJ):DE K X (.Compare a [op] [b] pos) (Pn r ta tb):=⟨λy=>(CG (ho y.cx hK hu) (ha.of y) (hb.of y) hm).mono λ_ _ _ h=>h.op⟩
def dB(t:TD):l7:=λσ S R Z=>t σ S (λx S1=>RH x S1 R) Z
theorem Tt.b{t:TD}(h:Tt K E (dB t) τ H Q):T K E t τ H λx H'=>∃k,x=.bl k/\Q k H':=by obtain⟨σ,S,R,Z,aB,hS,q,hR,hZ⟩:=h;exact{σ,S,_,Z,aB,hS,q,by rintro d S1 x H1 ⟨b,e,r1⟩ v1 s1 k1;exact by subst e;exact{b,v1.bl,hR b S1 H1 r1 s1 k1},hZ}
theorem Tt.bop(h:Tt K E (dB<|Pn r ta tb) τ H Q):Gk (Rr (Lr K r) (T K E ta)<|T K E tb) τ H Q:=h.b.op
theorem bL(ho:nr K (compareOp op) r)(hu:X.A.units+64<cLine)(ha:DE K X a ta)(hb:DE K X b tb)(hm:autoParam (behindInMarks op b=false) qQ2)(hK:autoParam (X.K=K) qQJ):DT K X (.Compare a [op] [b] pos) (dB<|Pn r ta tb):=⟨λy=>(J6 (ho y.cx hK hu) (ha.of y) (hb.of y) hm).mono λ_ _ _ h=>h.bop⟩
theorem tv{t:TD}(h:DE K X e t)(he:autoParam (∀whole,isTrue e X.env whole=(do let v <-whole;standAt e.pos;holding [v] (truthy v))) qQ0):DT K X e (dB t):=⟨λy=>(N7 (X:=y.cx) (h.of y) he).mono λ_ _ _ h=>h.b⟩
def Br(r r':sX)(ta tb tc:TD):TD:=λσ S R Z=>ta σ S (λx S1=>tb σ S1 (λy S2=>r x y S2 λz S3=>RH z S3 λk S3=>if k=true then tc σ S3 (λw S4=>r' y w S4 R) Z else R (.bl false) S3) Z) Z
theorem T.chain(h:T K E (Br r r' ta tb tc) τ H Q):AN (Lr K r) (Lr K r') (T K E ta) (T K E tb) (T K E tc) τ H Q:=by obtain⟨σ,S,R,Z,aB,hS,q,hR,hZ⟩:=h;refine{σ,S,_,Z,aB,hS,q,λd S1 x H1 r1 v1 s1 k1=>{σ,S1,_,Z,aB.ts k1,s1,r1,λe S2 y H2 r2 v2 s2 k2=>{d,e,S2,_,Rv.ts k2 _ v1,v2,s2,r2,λz S3 v H3 r3 v3 s3 k3=>?_},hZ.kp k1},hZ};obtain⟨k,rfl,r3⟩:=r3;refine{k,v3.bl,?_};cases k with|true=>rw[if_pos rfl]at r3⊢;exact{σ,S3,_,Z,((aB.ts k1).ts k2).ts k3,s3,r3,λw S4 wv H4 r4 v4 s4 k4=>{e,w,S4,R,Rv.ts (k3.trans k4) _ v2,v4,s4,r4,hR.kp<|((k1.trans k2).trans k3).trans k4},hZ.kp<|(k1.trans k2).trans k3}|false=>rw[if_neg zd]at r3⊢;exact hR _ S3 _ H3 r3 (bx false) s3<|(k1.trans k2).trans k3
theorem cc(ho:nr K (compareOp op) r)(AG:nr K (compareOp Ec) r')(hu:X.A.units+64<cLine)(ha:DE K X a ta)(hb:DE K X b tb)(hc:DE K X c tc) (hm:autoParam (lastMarks [op,Ec] [b,c]=false) qQ2) (hK:autoParam (X.K=K) qQJ):DE K X (.Compare a [op,Ec] [b,c] pos) (Br r r' ta tb tc):=⟨λy=>(Gm (ho y.cx hK hu) (AG y.cx hK hu) (ha.of y) (hb.of y) (hc.of y) hm).mono λ_ _ _ h=>h.chain⟩
theorem WE(ho:nr K (compareOp op) r)(AG:nr K (compareOp Ec) r')(hu:X.A.units+64<cLine)(ha:DE K X a ta)(hb:DE K X b tb)(hc:DE K X c tc) (hm:autoParam (lastMarks [op,Ec] [b,c]=false) qQ2) (hK:autoParam (X.K=K) qQJ):DT K X (.Compare a [op,Ec] [b,c] pos) (dB<|Br r r' ta tb tc):=⟨λy=>(Gn (ho y.cx hK hu) (AG y.cx hK hu) (ha.of y) (hb.of y) (hc.of y) hm).mono λ_ _ _ h=>h.b.chain⟩
def Ud(ta tb:TD):TD:=λσ S R Z=>ta σ S (λx S1=>RH x S1 λc S1=>if c=true then tb σ S1 R Z else R (.bl false) S1) Z
def YK(ta tb:TD):TD:=λσ S R Z=>ta σ S (λx S1=>RH x S1 λc S1=>if c=true then R (.bl true) S1 else tb σ S1 R Z) Z
def Ue(ta:TD):TD:=λσ S R Z=>ta σ S (λx S1=>RH x S1 λc S1=>R (.bl<|!c) S1) Z
theorem JJ{t:TD}(h:DE K X a t):DE K X (.BoolOp op [a] pos) t:=⟨λy=>N9<|h.of y⟩
theorem sY{a b:Expr}{rest:List Expr}{ta tb:TD}{pos:Pos}(ha:DE K X a ta)(hb:DE K X (.BoolOp .And (b::rest) pos) tb):DE K X (.BoolOp .And (a::b::rest) pos) (Ud ta tb):=
 ⟨λy=>(N_ (ha.of y)<|hb.of y).mono <| by rintro τ H Q ⟨σ,S,R,Z,aB,hS,q,hR,hZ⟩;exact
  ⟨σ,S,_,Z,aB,hS,q,by
   rintro d S1 x H1 ⟨c,e,r1⟩ v1 s1 k1
   subst e
   refine{c,v1.bl,?_}
   cases c with
   |true=>rw[if_pos rfl]at r1⊢;exact{σ,S1,R,Z,aB.ts k1,s1,r1,hR.kp k1,hZ.kp k1}
   |false=>rw[if_neg zd]at r1⊢;exact hR _ S1 _ H1 r1 (bx false) s1 k1,hZ⟩⟩
theorem eor{a b:Expr}{rest:List Expr}{ta tb:TD}{pos:Pos}(ha:DE K X a ta)(hb:DE K X (.BoolOp .Or (b::rest) pos) tb):DE K X (.BoolOp .Or (a::b::rest) pos) (YK ta tb):=
 ⟨λy=>(So (ha.of y)<|hb.of y).mono <| by rintro τ H Q ⟨σ,S,R,Z,aB,hS,q,hR,hZ⟩;exact
  ⟨σ,S,_,Z,aB,hS,q,by
   rintro d S1 x H1 ⟨c,e,r1⟩ v1 s1 k1
   subst e
   refine{c,v1.bl,?_}
   cases c with
   |false=>rw[if_neg zd]at r1⊢;exact{σ,S1,R,Z,aB.ts k1,s1,r1,hR.kp k1,hZ.kp k1}
   |true=>rw[if_pos rfl]at r1⊢;exact hR _ S1 _ H1 r1 (bx true) s1 k1,hZ⟩⟩
theorem Ug(ha:DE K X a ta):DE K X (.UnaryOp .Not a pos) (Ue ta):=
 ⟨λy=>(Oa<|ha.of y).mono <| by rintro τ H Q ⟨σ,S,R,Z,aB,hS,q,hR,hZ⟩;exact
  ⟨σ,S,_,Z,aB,hS,q,by rintro d S1 x H1 ⟨c,e,r1⟩ v1 s1 k1;exact by subst e;exact⟨c,v1.bl,hR _ S1 _ H1 r1 (bx _) s1 k1⟩,hZ⟩⟩
def YL(t:l7):l7:=λσ S R Z=>t σ S (λc S1=>R (!c) S1) Z
def YM(t u:l7):l7:=λσ S R Z=>t σ S (λc S1=>if c=true then u σ S1 R Z else R false S1) Z
def dOr(t u:l7):l7:=λσ S R Z=>t σ S (λc S1=>if c=true then R true S1 else u σ S1 R Z) Z
theorem dG{t:l7}(ha:DT K X a t):DT K X (.UnaryOp .Not a pos) (YL t):=⟨λy=>(N8<|ha.of y).mono <| by rintro τ H Q ⟨σ,S,R,Z,aB,hS,q,hR,hZ⟩;exact{σ,S,_,Z,aB,hS,q,λc S1 H1 r1 s1 k1=>hR _ S1 H1 r1 s1 k1,hZ}⟩
structure DW(K:Frag)(X:Cx)(e:Expr)(t:l7):Prop where
 of:∀{b:Bool}(y:Ev X b),PW y.cx e<|Tt K y.E t
theorem PW.mono{t t':TT}(h:PW X e t)(i:∀τ H Q,t' τ H Q->t τ H Q):PW X e t':=λwh pins s τ H Q I q=>h wh pins s τ H Q I<|i τ H Q q
theorem twd{t:l7}(h:DW K X e t):DT K X e t:=⟨λy=>(h.of y).pt⟩
theorem tw1{t:l7}(h:DT K X a t):DW K X (.BoolOp op [a] pos) t:=⟨λy=>by cases op with|And=>exact pw_and1 (h.of y)|Or=>exact pw_or1<|h.of y⟩
theorem twand{a b:Expr}{rest:List Expr}{t u:l7}{pos:Pos}(ha:DT K X a t)(hb:DW K X (.BoolOp .And (b::rest) pos) u):DW K X (.BoolOp .And (a::b::rest) pos) (YM t u):=
 ⟨λy=>(pw_and (ha.of y)<|hb.of y).mono <| by rintro τ H Q ⟨σ,S,R,Z,aB,hS,q,hR,hZ⟩;exact
  ⟨σ,S,_,Z,aB,hS,q,λc S1 H1 r1 s1 k1=>by
   cases c with
   |true=>rw[if_pos rfl]at r1⊢;exact{σ,S1,R,Z,aB.ts k1,s1,r1,hR.kp k1,hZ.kp k1}
   |false=>rw[if_neg zd]at r1⊢;exact hR _ S1 H1 r1 s1 k1,hZ⟩⟩
theorem twor{a b:Expr}{rest:List Expr}{t u:l7}{pos:Pos}(ha:DT K X a t)(hb:DW K X (.BoolOp .Or (b::rest) pos) u):DW K X (.BoolOp .Or (a::b::rest) pos) (dOr t u):=
 ⟨λy=>(pw_or (ha.of y)<|hb.of y).mono <| by rintro τ H Q ⟨σ,S,R,Z,aB,hS,q,hR,hZ⟩;exact
  ⟨σ,S,_,Z,aB,hS,q,λc S1 H1 r1 s1 k1=>by
   cases c with
   |false=>rw[if_neg zd]at r1⊢;exact{σ,S1,R,Z,aB.ts k1,s1,r1,hR.kp k1,hZ.kp k1}
   |true=>rw[if_pos rfl]at r1⊢;exact hR _ S1 H1 r1 s1 k1,hZ⟩⟩
def YN(t:l7)(ta tb:TD):TD:=λσ S R Z=>t σ S (λc S1=>if c=true then ta σ S1 R Z else tb σ S1 R Z) Z
theorem Uh{t:l7}(hc:DT K X c t)(ha:DE K X a ta)(hb:DE K X b tb):DE K X (.IfExp c a b pos) (YN t ta tb):=
 ⟨λy=>(F8 (hc.of y) (ha.of y)<|hb.of y).mono <| by rintro τ H Q ⟨σ,S,R,Z,aB,hS,q,hR,hZ⟩;exact
  ⟨σ,S,_,Z,aB,hS,q,λc S1 H1 r1 s1 k1=>by
   cases c with
   |true=>rw[if_pos rfl]at r1⊢;exact{σ,S1,R,Z,aB.ts k1,s1,r1,hR.kp k1,hZ.kp k1}
   |false=>rw[if_neg zd]at r1⊢;exact{σ,S1,R,Z,aB.ts k1,s1,r1,hR.kp k1,hZ.kp k1},hZ⟩⟩
def YO(t:ir):TD:=λσ S R Z=>t σ S (λds S1=>ds.length<=sizeLine/\∀p,S1 p=none->R (.ref p) (S1.set p<|.lst ds)) Z
def YQ(t:ir):TD:=λσ S R Z=>t σ S (λds S1=>ds.length<=sizeLine/\R (.tup ds) S1) Z
theorem bR{t:ir}(h:DA K X es t):DE K X (.List es pos) (YO t):=
 ⟨λy=>(OD<|h.of y).mono <| by rintro τ H Q ⟨σ,S,R,Z,aB,hS,q,hR,hZ⟩;exact
  ⟨σ,S,_,Z,aB,hS,q,by rintro ds S1 xs H1 ⟨hl,r1⟩ v1 s1 k1;exact⟨by rw[v1.len];exact hl,λp hp=>hR _ _ _ _ (r1 p<|s1.fresh hp) (d9 p) (s1.new hp ⟨xs,aC,RvAll.ts (.new hp) _ v1⟩)<|k1.trans<|.new hp⟩,hZ⟩⟩
theorem bw{t:ir}(h:DA K X es t):DE K X (.Tuple es x1 pos) (YQ t):=
 ⟨λy=>(OC<|h.of y).mono <| by rintro τ H Q ⟨σ,S,R,Z,aB,hS,q,hR,hZ⟩;exact
  ⟨σ,S,_,Z,aB,hS,q,by rintro ds S1 xs H1 ⟨hl,r1⟩ v1 s1 k1;exact⟨by rw[v1.len];exact hl,λp hp=>hR _ _ _ _ r1 (jj aC<|RvAll.ts (.new hp) _ v1) (s1.grow hp)<|k1.trans<|.new hp⟩,hZ⟩⟩
def YR:TD:=λ_ S R _=>∀p,S p=none->R (.ref p) (S.set p<|.cY [])
theorem Ui:DE K X (.Dict [] [] pos) YR:=⟨λy=>(GG (X:=y.cx)).mono <| by rintro τ H Q ⟨σ,S,R,Z,aB,hS,q,hR,hZ⟩ p hp;exact hR _ _ _ _ (q p<|hS.fresh hp) (d9 p) (hS.new hp {[],aC,.nil})<|.new hp⟩
def Lc(K:Frag)(r:List D->aw->KD->Prop):List V->Hp->VK->Prop:=λxs H Q=>∃ds S R,RvAll K H ds xs/\Rs K S H/\r ds S R/\Cn K H R Q
def iV(K:Frag)(f:Value)(r:List D->aw->KD->Prop):Prop:=∀X:Cx,X.K=K->X.calm=true->dy X f (Lc K r)
def Uj(r:List D->aw->KD->Prop)(t:ir):TD:=λσ S R Z=>t σ S (λds S1=>r ds S1 R) Z
theorem T.cb{t:ir}(h:T K E (Uj r t) τ H Q):X1 (Lc K r) (Ta K E t) τ H Q:=by obtain⟨σ,S,R,Z,aB,hS,q,hR,hZ⟩:=h;exact{σ,S,_,Z,aB,hS,q,λds S1 xs H1 r1 v1 s1 k1=>{ds,S1,R,v1,s1,r1,hR.kp k1},hZ}
theorem cb{x:Str}{id:String}{r:List D->aw->KD->Prop}{e:Expr}{es:List Expr}{t:ir}{p pos:Pos}(hc:iV K (.builtin id) r)(hm:X.mg x=none)(hv:bootBuiltins x=some (.builtin id))(ha:DA K X (e::es) t)(hg:autoParam (Gl X x) qQJ) (hn:autoParam (x≠"__name__") qQZ) (i8:autoParam ((x==("__debug__": Str))=false) qQZ) (he:autoParam (starEach (e::es) X.env=(false,eval e X.env)::starEach es X.env) qQJ) (eX:autoParam ((backTo pos<|starEach es X.env).any (·.1)=false) qQJ) (hK:autoParam (X.K=K) qQJ) (hC:autoParam (X.calm=true) qQJ): DE K X (.Call (.Name x p) (e::es) [] pos) (Uj r t):=⟨λy=>(qt (X:=y.cx) (hc _ hK hC) hg hm hv (ha.of y) hn i8 he eX).mono λ_ _ _ h=>h.cb⟩
theorem ct{x:Str}{id:String}{r:List D->aw->KD->Prop}{e:Expr}{es:List Expr}{t:ir}{p pos:Pos}(hc:iV K (.type id) r)(hm:X.mg x=none)(hv:bootBuiltins x=some (.type id))(ha:DA K X (e::es) t)(hg:autoParam (Gl X x) qQJ) (hn:autoParam (x≠"__name__") qQZ) (i8:autoParam ((x==("__debug__": Str))=false) qQZ) (he:autoParam (starEach (e::es) X.env=(false,eval e X.env)::starEach es X.env) qQJ) (eX:autoParam ((backTo pos<|starEach es X.env).any (·.1)=false) qQJ) (hK:autoParam (X.K=K) qQJ) (hC:autoParam (X.calm=true) qQJ): DE K X (.Call (.Name x p) (e::es) [] pos) (Uj r t):=⟨λy=>(tY (X:=y.cx) (hc _ hK hC) hg hm hv (ha.of y) hn i8 he eX).mono λ_ _ _ h=>h.cb⟩
end
section
variable{K:Frag}
theorem Cn.now(h:Cn K H R Q)(hS:Rs K S H)(r:R d S)(rv:Rv K H d v):Q v H:=h d S v H r rv hS<|.refl _
theorem Cn.new{H:Hp}{R:KD}{Q:VK}{S:aw}{p:Addr}{ds:List D}{xs:List V}(h:Cn K H R Q)(hS:Rs K S H)(hp:H p=none)(r:S p=none->R (.ref p) (S.set p<|.lst ds))(rv:RvAll K H ds xs):Q (.ref p) (upd H p<|.lst xs):=h _ _ _ _ (r<|hS.fresh hp) (d9 p) (hS.new hp {xs,aC,RvAll.ts (.new hp) _ rv})<|.new hp
theorem Cn.Po{H:Hp}{R:KD}{Q:VK}{S:aw}{p:Addr}{ds:List D}{xs:List V}(h:Cn K H R Q)(hS:Rs K S H)(hp:H p=none)(r:R (.tup ds) S)(rv:RvAll K H ds xs):Q (.ref p) (upd H p<|.tup xs):=h _ _ _ _ r (jj aC<|RvAll.ts (.new hp) _ rv) (hS.grow hp)<|.new hp
theorem Cn.put{H:Hp}{R:KD}{Q:VK}{S:aw}{p:Addr}{ds es:List D}{xs:List V}{d:D}{v:V}(h:Cn K H R Q)(hS:Rs K S H)(hp:S p=some (.lst es))(r:R d<|S.set p<|.lst ds)(rd:Rv K H d v)(rv:RvAll K H ds xs):Q v (upd H p<|.lst xs):=h _ _ _ _ r (Rv.ts (hS.iq hp) _ rd) (hS.put hp {xs,aC,RvAll.ts (hS.iq hp) _ rv})<|hS.iq hp
def ug(S:aw):D->List D->Prop|.ref a,ds=>S a=some (.lst ds)|.iU es,ds=>es=ds|_,_=>False
theorem ug.at{H:Hp}{S:aw}{d:D}{ds:List D}{v:V}(h:ug S d ds)(hS:Rs K S H)(r:Rv K H d v):∃a xs,v=.ref a/\jd K H a xs/\RvAll K H ds xs:=by cases d with|ref a=>(obtain⟨xs,e,q⟩:=hS.lst h;exact{a,xs,r.ref,.of e,q})|iU es=>(have h:es=ds:=h;subst h;obtain⟨a,xs,e,q,t⟩:=r.iU;exact⟨a,xs,e,q.sq,t⟩)|_=>exact h.elim
def YS:sX:=λx y S R=>match x,y with|.int i,.int j=>R (.int<|i+j) S|.str a,.str b=>a.length+b.length<=sizeLine/\R (.str<|a++b) S|.tup a,.tup b=>a.length+b.length<=sizeLine/\R (.tup<|a++b) S|.ref a,.ref b=>∃xs ys,S a=some (.lst xs)/\S b=some (.lst ys)/\xs.length+ys.length<=sizeLine/\∀p,S p=none->R (.ref p) (S.set p<|.lst<|xs++ys)|_,_=>False
theorem Uk:nr K (binaryOp .Add) YS:=by rintro X hK hu pins s σ H x y v u Q I rx ry ⟨d,e,S,R,r1,r2,hS,h,hR⟩;subst hK;cases d with|int i=>(cases e with|int j=>exact Gi pins s σ H x y v u Q I rx ry {i,j,r1.int,r2.int,hR.now hS h<|aP _}|_=>exact h.elim)|str i=>(cases e with|str j=>exact qq pins s σ H x y v u Q I rx ry {i,j,r1.str,r2.str,h.1,hR.now hS h.2<|e8 _}|_=>exact h.elim)|tup i=>(cases e with|tup j=>(obtain⟨a,xs,rfl,q1,t1⟩:=r1.tup;obtain⟨b,ys,rfl,q2,t2⟩:=r2.tup;refine KJ pins s σ H _ _ v u Q I rx ry {a,b,xs,ys,rfl,rfl,.of q1,.of q2,by rw[t1.len,t2.len];exact h.1,λe=>?_,λ_ e=>?_,λ_ _ p hp=>hR.Po hS hp h.2<|t1.app t2};subst e;have:i=[]:=List.length_eq_zero_iff.mp t1.len.symm;subst this;exact hR.now hS h.2<|jj q2 t2;subst e;have:j=[]:=List.length_eq_zero_iff.mp t2.len.symm;subst this;exact hR.now hS h.2<|by rw[ym];exact jj q1 t1)|_=>exact h.elim)|ref a=>(cases e with|ref b=>(obtain⟨xs,ys,e1,e2,hl,q⟩:=h;obtain⟨vs,h1,t1⟩:=hS.lst e1;obtain⟨ws,h2,t2⟩:=hS.lst e2;exact GA pins s σ H x y v u Q I rx ry {a,b,vs,ws,r1.ref,r2.ref,h1,h2,by rw[t1.len,t2.len];exact hl,λp hp=>hR.new hS hp (q p)<|t1.app t2})|_=>exact h.elim)|_=>exact h.elim
def YT:sX:=λx y S R=>match x,y with|.int i,.int j=>R (.int<|i-j) S|_,_=>False
theorem Hb:nr K (binaryOp .Sub) YT:=by rintro X hK hu pins s σ H x y v u Q I rx ry ⟨d,e,S,R,r1,r2,hS,h,hR⟩;cases d<;>cases e<;>first|exact False.elim h|exact Ot pins s σ H x y v u Q I rx ry {_,_,r1.int,r2.int,hR.now hS h<|aP _}
def YU:sX:=λx y S R=>match x,y with|.int i,.int j=>J4 i j/\R (.int<|i*j) S|.str z,.int n=>MulOk z n/\R (.str<|PySem.Txt.mul z n) S|_,_=>False
theorem uh:nr K (binaryOp .Mult) YU:=by rintro X hK hu pins s σ H x y v u Q I rx ry ⟨d,e,S,R,r1,r2,hS,h,hR⟩;cases d<;>cases e<;>first|exact False.elim h|exact Ou pins s σ H x y v u Q I rx ry {_,_,r1.int,r2.int,h.1,hR.now hS h.2<|aP _}|exact Bi pins s σ H x y v u Q I rx ry {_,_,r1.str,r2.int,h.1,hR.now hS h.2<|e8 _}
def YV:sX:=λx y S R=>match x,y with|.int i,.int j=>0<j/\R (.int<|i%j) S|_,_=>False
theorem bZ:nr K (binaryOp .Mod) YV:=by rintro X hK hu pins s σ H x y v u Q I rx ry ⟨d,e,S,R,r1,r2,hS,h,hR⟩;cases d<;>cases e<;>first|exact False.elim h|exact Ov pins s σ H x y v u Q I rx ry {_,_,r1.int,r2.int,h.1,hR.now hS h.2<|aP _}
def Ul:sX:=λx y S R=>match x,y with|.int i,.int j=>GK i j/\R (.int<|i/j) S|_,_=>False
theorem e_:nr K (binaryOp .FloorDiv) Ul:=by rintro X hK hu pins s σ H x y v u Q I rx ry ⟨d,e,S,R,r1,r2,hS,h,hR⟩;cases d<;>cases e<;>first|exact False.elim h|exact GL pins s σ H x y v u Q I rx ry {_,_,r1.int,r2.int,h.1,hR.now hS h.2<|aP _}
def YW:sX:=λx y S R=>match x,y with|.int i,.int j=>SS i j/\R (.int<|i^j.toNat) S|_,_=>False
theorem kN:nr K (binaryOp .Pow) YW:=by rintro X hK hu pins s σ H x y v u Q I rx ry ⟨d,e,S,R,r1,r2,hS,h,hR⟩;cases d<;>cases e<;>first|exact False.elim h|exact Ow pins s σ H x y v u Q I rx ry {_,_,r1.int,r2.int,h.1,hR.now hS h.2<|aP _}
def f_(f:Int->Int->Bool)(g:Str->Str->Bool):sX:=λx y S R=>match x,y with|.int i,.int j=>R (.bl<|f i j) S|.str i,.str j=>R (.bl<|g i j) S|_,_=>False
theorem CU(h1:∀X:Cx,gN X (compareOp op)<|J2 λi j=>.bl<|f i j) (h2:∀X:Cx,gN X (compareOp op) λx y H Q=>∃i j,x=.str i/\y=.str j/\Q (.bl<|g i j) H):nr K (compareOp op) (f_ f g):=by rintro X hK hu pins s σ H x y v u Q I rx ry ⟨d,e,S,R,r1,r2,hS,h,hR⟩;cases d<;>cases e<;>first|exact False.elim h|exact h1 X pins s σ H x y v u Q I rx ry {_,_,r1.int,r2.int,hR.now hS h<|bx _}|exact h2 X pins s σ H x y v u Q I rx ry {_,_,r1.str,r2.str,hR.now hS h<|bx _}
theorem EF:nr K (compareOp .Lt) (f_ (λi j=>decide<|i<j) λi j=>t9 i j):=CU (λ_=>SV) λ_=>Ea
theorem jk:nr K (compareOp .LtE) (f_ (λi j=>decide<|i<=j) λi j=>FP i j):=CU (λ_=>SW) λ_=>Eo
theorem sZ:nr K (compareOp .Gt) (f_ (λi j=>decide<|j<i) λi j=>t9 j i):=CU (λ_=>SX) λ_=>Er
theorem YX:nr K (compareOp .GtE) (f_ (λi j=>decide<|j<=i) λi j=>FP j i):=CU (λ_=>SY) λ_=>Ep
noncomputable def ah:D->Bool|.ao=>true|_=>false
theorem xo(r:Rv K H d v):decide (v=.ao)=ah d:=by cases d with|ao=>rw[r.ao];rfl|bl b=>rw[r.bl];rfl|int b=>rw[r.int];rfl|str b=>rw[r.str];rfl|ref b=>rw[r.ref];rfl|ty b=>rw[r.ty];rfl|tup b=>(obtain⟨a,xs,rfl,_⟩:=r.tup;rfl)|iU b=>(obtain⟨a,xs,rfl,_⟩:=r.iU;rfl)|kt b=>obtain⟨a,xs,rfl,_⟩:=r.kt;rfl
def YY:sX:=λx y S R=>match y with|.ao=>R (.bl<|ah x) S|_=>False
def Um:sX:=λx y S R=>match y with|.ao=>R (.bl<|!ah x) S|_=>False
theorem nv:nr K (compareOp .Is) YY:=by rintro X hK hu pins s σ H x y v u Q I rx ry ⟨d,e,S,R,r1,r2,hS,h,hR⟩;cases e<;>first|exact False.elim h|exact Oy pins s σ H x y v u Q I rx ry {r2.ao,by rw[xo r1];exact hR.now hS h<|bx _}
theorem qI:nr K (compareOp .IsNot) Um:=by rintro X hK hu pins s σ H x y v u Q I rx ry ⟨d,e,S,R,r1,r2,hS,h,hR⟩;cases e<;>first|exact False.elim h|exact J5 pins s σ H x y v u Q I rx ry {r2.ao,by rw[xo r1];exact hR.now hS h<|bx _}
mutual
def Dp(S:aw):D->PyData->Prop|.ao,p=>p=.none|.bl b,p=>p=.bool b|.int i,p=>p=.int i|.str z,p=>p=.str z|.tup ds,p=>∃ps,p=.tuple ps/\DpAll S ds ps|.iU ds,p=>∃ps,p=.list ps/\DpAll S ds ps|.kt _,_=>False|.ref _,_=>False|.ty _,_=>False
def DpAll(S:aw):List D->List PyData->Prop|[],ps=>ps=[]|d::ds,ps=>∃q qs,ps=q::qs/\Dp S d q/\DpAll S ds qs
end
mutual
theorem Dp.dt:∀(d:D){p:PyData}{v:V},Dp S d p->Rv K H d v->Dt K H p v|.ao,p,v,h,r=>by simp only[Dp]at h;subst h;simp only[Dt];exact r.ao|.bl b,p,v,h,r=>by simp only[Dp]at h;subst h;simp only[Dt];exact r.bl|.int b,p,v,h,r=>by simp only[Dp]at h;subst h;simp only[Dt];exact r.int|.str b,p,v,h,r=>by simp only[Dp]at h;subst h;simp only[Dt];exact r.str|.tup ds,p,v,h,r=>(by simp only[Dp]at h;obtain⟨ps,rfl,h⟩:=h;obtain⟨a,xs,rfl,q,t⟩:=r.tup;simp only[Dt];exact{a,xs,rfl,.of q,DpAll.dt ds h t})|.iU ds,p,v,h,r=>(by simp only[Dp]at h;obtain⟨ps,rfl,h⟩:=h;obtain⟨a,xs,rfl,q,t⟩:=r.iU;simp only[Dt];exact{a,xs,rfl,q.sq,DpAll.dt ds h t})|.kt a,p,v,h,r=>by simp only[Dp]at h|.ref a,p,v,h,r=>by simp only[Dp]at h|.ty a,p,v,h,r=>by simp only[Dp]at h
theorem DpAll.dt:∀(ds:List D){ps:List PyData}{vs:List V},DpAll S ds ps->RvAll K H ds vs->DtAll K H ps vs|[],ps,vs,h,r=>by simp only[DpAll]at h;subst h;rw[r.nil];simp only[DtAll]|d::ds,ps,vs,h,r=>by simp only[DpAll]at h;obtain⟨q,qs,rfl,h1,h2⟩:=h;obtain⟨y,ys,rfl,r1,r2⟩:=r.cons;simp only[DtAll];exact{y,ys,rfl,Dp.dt d h1 r1,DpAll.dt ds h2 r2}
end
def Dl(S:aw):D->PyData->Prop|.ref a,p=>∃ds ps,S a=some (.lst ds)/\p=.list ps/\DpAll S ds ps|d,p=>Dp S d p
theorem Dl.dt(h:Dl S d p)(hS:Rs K S H)(r:Rv K H d v):Dt K H p v:=by cases d with|ref a=>(obtain⟨ds,ps,e,rfl,h⟩:=h;obtain⟨xs,e1,t⟩:=hS.lst e;rw[r.ref];simp only[Dt];exact{a,xs,rfl,.of e1,DpAll.dt ds h t})|_=>exact Dp.dt _ h r
def Hc(neg:Bool):sX:=λx y S R=>match x,y with|.int i,.int j=>(R (.bl<|if neg then !decide (i=j) else decide (i=j)) S)|.str i,.str j=>(R (.bl<|if neg then !decide (i=j) else decide (i=j)) S)|x,y=>∃p q,Dl S x p/\Dl S y q/\p.canLay0=true/\q.canLay0=true/\(p.depth<=64\/q.depth<=64)/\R (.bl<|if neg then !PyData.eqv p q else PyData.eqv p q) S
theorem Hd(h:Hc neg x y S R):(∃i j,x=.int i/\y=.int j/\R (.bl<|if neg then !decide (i=j) else decide (i=j)) S)\/(∃i j,x=.str i/\y=.str j/\R (.bl<|if neg then !decide (i=j) else decide (i=j)) S)\/∃p q,Dl S x p/\Dl S y q/\p.canLay0=true/\q.canLay0=true/\(p.depth<=64\/q.depth<=64)/\R (.bl<|if neg then !PyData.eqv p q else PyData.eqv p q) S:=by cases x<;>cases y<;>first|exact .inl {_,_,rfl,rfl,h}|exact .inr (.inl {_,_,rfl,rfl,h})|exact .inr (.inr h)
theorem bG:nr K (compareOp .Eq) (Hc false):=by
 rintro X hK hu pins s σ H x y v u Q I rx ry ⟨d,e,S,R,r1,r2,hS,h,hR⟩;subst hK;rcases Hd h with⟨i,j,rfl,rfl,h⟩|⟨i,j,rfl,rfl,h⟩|⟨p,q,h1,h2,c1,c2,dp,h⟩;cases r1.int;cases r2.int;refine MG pins s σ H _ _ v u Q I rx ry {rfl,?_};have e:decide (V.int i=V.int j)=decide (i=j):=by simp
 rw[e];exact hR.now hS h<|bx _;cases r1.str;cases r2.str;refine MG pins s σ H _ _ v u Q I rx ry {rfl,?_};have e:decide (V.str i=V.str j)=decide (i=j):=by simp
 rw[e];exact hR.now hS h<|bx _;exact GU hu pins s σ H x y v u Q I rx ry {p,q,h1.dt hS r1,h2.dt hS r2,c1,c2,dp,hR.now hS h<|bx _}
theorem px:nr K (compareOp .NotEq) (Hc true):=by
 rintro X hK hu pins s σ H x y v u Q I rx ry ⟨d,e,S,R,r1,r2,hS,h,hR⟩;subst hK;rcases Hd h with⟨i,j,rfl,rfl,h⟩|⟨i,j,rfl,rfl,h⟩|⟨p,q,h1,h2,c1,c2,dp,h⟩;cases r1.int;cases r2.int;refine MH pins s σ H _ _ v u Q I rx ry {rfl,?_};have e:decide (V.int i=V.int j)=decide (i=j):=by simp
 rw[e];exact hR.now hS h<|bx _;cases r1.str;cases r2.str;refine MH pins s σ H _ _ v u Q I rx ry {rfl,?_};have e:decide (V.str i=V.str j)=decide (i=j):=by simp
 rw[e];exact hR.now hS h<|bx _;exact GV hu pins s σ H x y v u Q I rx ry {p,q,h1.dt hS r1,h2.dt hS r2,c1,c2,dp,hR.now hS h<|bx _}
noncomputable def bS(kvs:List<|Key×D)(k:Key):Option D:=(kvs.find? λkv=>decide<|kv.1=k).map (·.2)
noncomputable def dput(kvs:List<|Key×D)(k:Key)(v:D):List (Key×D):=if (kvs.any λkv=>decide<|kv.1=k)=true then kvs.map (λkv=>if kv.1=k then (kv.1,v) else kv) else kvs++[(k,v)]
noncomputable def xp(kvs:List<|Key×D)(k:Key):List (Key×D):=kvs.filter λkv=>decide<|kv.1≠k
theorem bO.val(h:bO K H ks vs)(k:Key):(∀d,bS ks k=some d->∃v,f9 vs k=some v/\Rv K H d v)/\(bS ks k=none->f9 vs k=none):=by induction h with|nil=>(exact{λd e=>(by cases e),λ_=>rfl})|@cons a b l m r t ih=>obtain⟨k',d⟩:=a;obtain⟨k'',v⟩:=b;obtain⟨e0,r⟩:=r;dsimp only at e0;subst e0;unfold bS f9;simp only[z0];by_cases q:k'=k;rw[zx q];exact{λd' e=>{v,rfl,(by cases e;exact r)},λe=>(by cases e)};rw[zq q];exact ih
theorem bO.any(h:bO K H ks vs)(k:Key):(ks.any λkv=>decide<|kv.1=k)=(vs.any λkv=>decide<|kv.1=k):=by induction h with|nil=>rfl|cons r t ih=>rw[yO,yO,ih,r.1]
theorem bO.len(h:bO K H ks vs):vs.length=ks.length:=(Paired.length h).symm
theorem bO.app:∀{ks ls:List (κ×D)}{vs ws:List (κ×V)},bO K H ks vs->bO K H ls ws->bO K H (ks++ls) (vs++ws)|_,_,_,_,.nil,h=>h|_,_,_,_,.cons r t,h=>.cons r<|bO.app t h
theorem bO.OQ(h:bO K H ks vs)(k:Key)(rd:Rv K H d v):bO K H (ks.map λkv=>if kv.1=k then (kv.1,d) else kv) (vs.map λkv=>if kv.1=k then (kv.1,v) else kv):=by induction h with|nil=>exact .nil|@cons a b l m r t ih=>refine .cons ?_ ih;dsimp only;by_cases q:b.1=k;rw[if_pos q,if_pos<|r.1.trans q];exact⟨r.1,rd⟩;rw[if_neg q,if_neg λz=>q<|r.1.symm.trans z];exact r
theorem bO.put(h:bO K H ks vs)(k:Key)(rd:Rv K H d v):bO K H (dput ks k d) (putK vs k v):=by unfold dput putK;rw[h.any k];split;exact h.OQ k rd;exact h.app<|.cons ⟨rfl,rd⟩ .nil
theorem bO.drop(h:bO K H ks vs)(k:Key):bO K H (xp ks k) (ot vs k):=by unfold xp ot;induction h with|nil=>exact .nil|@cons a b l m r t ih=>rw[List.filter_cons,List.filter_cons,r.1];by_cases q:b.1=k;rw[if_neg<|by simp[q],if_neg<|by simp[q]];exact ih;rw[if_pos<|by simp[q],if_pos<|by simp[q]];exact .cons r ih
noncomputable def Bs:D->Option Key|.int i=>some (.inl i)|.str z=>some (.inr z)|_=>none
theorem nA(h:Bs d=some k)(r:Rv K H d v):v=kV k:=by cases d with|int i=>(cases h;exact r.int)|str i=>(cases h;exact r.str)|_=>cases h
noncomputable def jl:D->Bool|.ao=>true|.bl _=>true|.int _=>true|.str _=>true|_=>false
noncomputable def kz:D->V|.ao=>.ao|.bl b=>.bl b|.int i=>.int i|.str z=>.str z|.ref a=>.ref a|.ty n=>.ty n|_=>.ao
theorem qJ(h:jl d=true)(r:Rv K H d v):v=kz d/\gQ v=true:=by cases d with|ao=>(cases r.ao;exact⟨rfl,rfl⟩)|bl b=>(cases r.bl;exact⟨rfl,rfl⟩)|int b=>(cases r.int;exact⟨rfl,rfl⟩)|str b=>(cases r.str;exact⟨rfl,rfl⟩)|_=>cases h
theorem l8:∀{ds:List D}{vs:List V},ds.all jl=true->RvAll K H ds vs->vs=ds.map kz/\vs.all gQ=true|[],vs,_,r=>by rw[r.nil];exact⟨rfl,rfl⟩|d::ds,vs,h,r=>by obtain⟨y,ys,rfl,r1,r2⟩:=r.cons;rw[List.all_cons,zQ]at h;obtain⟨e1,f1⟩:=qJ h.1 r1;obtain⟨e2,f2⟩:=l8 h.2 r2;refine{by rw[e1,e2];rfl,?_};rw[List.all_cons,f1,f2];rfl
def inD(neg:Bool):sX:=λx y S R=>match y with|.str j=>(∃i,x=.str i/\R (.bl<|if neg then !(!(Builtin.Str.occurrences j i 0 j.length 1).isEmpty) else !(Builtin.Str.occurrences j i 0 j.length 1).isEmpty) S)|.kt ds=>(jl x=true/\ds.all jl=true/\R (.bl<|if neg then !Ar (kz x) (ds.map kz) else Ar (kz x) (ds.map kz)) S)|.tup ds=>(jl x=true/\ds.all jl=true/\R (.bl<|if neg then !Ar (kz x) (ds.map kz) else Ar (kz x) (ds.map kz)) S)|.ref a=>((∃ds,S a=some (.lst ds)/\jl x=true/\ds.all jl=true/\R (.bl<|if neg then !Ar (kz x) (ds.map kz) else Ar (kz x) (ds.map kz)) S)\/∃kvs k,S a=some (.cY kvs)/\Bs x=some k/\R (.bl<|if neg then !(bS kvs k).isSome else (bS kvs k).isSome) S)|_=>False
theorem ve(hS:Rs K S H)(e:S a=some (.cY kvs)):∃o,ph H a (kV k) o/\o.isSome=(bS kvs k).isSome/\∀d,bS kvs k=some d->∃v,o=some v/\Rv K H d v:=by obtain⟨vs,e1,t⟩:=hS.cY e;refine{_,ph.k e1,?_,λd h=>(t.val k).1 d h};cases q:bS kvs k with|none=>rw[(t.val k).2 q];rfl|some d=>obtain⟨v,e2,_⟩:=(t.val k).1 d q;rw[e2];rfl
theorem xq:nr K (compareOp .In) (inD false):=by rintro X hK hu pins s σ H x y v u Q I rx ry ⟨d,e,S,R,r1,r2,hS,h,hR⟩;subst hK;cases e with|str j=>(obtain⟨i,rfl,h⟩:=h;exact Eb pins s σ H x y v u Q I rx ry {i,j,r1.str,r2.str,hR.now hS h<|bx _})|tup ds=>(obtain⟨f1,f2,h⟩:=h;obtain⟨a,xs,rfl,q,t⟩:=r2.tup;obtain⟨e1,g1⟩:=qJ f1 r1;obtain⟨e2,g2⟩:=l8 f2 t;subst e1 e2;exact m_ pins s σ H _ _ v u Q I rx ry {a,_,rfl,.inr<|.of q,g1,g2,hR.now hS h<|bx _})|kt ds=>(obtain⟨f1,f2,h⟩:=h;obtain⟨a,xs,rfl,q,t⟩:=r2.kt;obtain⟨e1,g1⟩:=qJ f1 r1;obtain⟨e2,g2⟩:=l8 f2 t;subst e1 e2;exact m_ pins s σ H _ _ v u Q I rx ry {a,_,rfl,.inr<|.inr q,g1,g2,hR.now hS h<|bx _})|ref a=>(cases r2.ref;rcases h with⟨ds,e,f1,f2,h⟩|⟨kvs,k,e,hk,h⟩;obtain⟨xs,e1,t⟩:=hS.lst e;obtain⟨e2,g1⟩:=qJ f1 r1;obtain⟨e3,g2⟩:=l8 f2 t;subst e2 e3;exact m_ pins s σ H _ _ v u Q I rx ry {a,_,rfl,.inl<|.of e1,g1,g2,hR.now hS h<|bx _};cases nA hk r1;cases ry;obtain⟨o,g,e1,_⟩:=ve (k:=k) hS e;refine Yc (by lia) I g rx λs' I'=>{.bl o.isSome,H,I',rfl,?_};rw[e1];exact hR.now hS h<|bx _)|_=>exact h.elim
def IxD(K:Frag)(r:sX):Prop:=∀X:Cx,X.K=K->X.A.units+64<cLine->Tf X (Lr K r)
inductive WG (ds:List D) (i:Int) (S:aw) (R:KD):Prop where
 |mk (d:D) (h:kJ ds i=some d) (r:R d S)
inductive WH (a:Addr) (i:Int) (S:aw) (R:KD):Prop where
 |mk (ds:List D) (d:D) (e:S a=some (.lst ds)) (h:kJ ds i=some d) (r:R d S)
def ixD:sX:=λx y S R=>match x,y with|.tup ds,.int i=>WG ds i S R|.kt ds,.int i=>WG ds i S R|.iU ds,.int i=>WG ds i S R|.str z,.int i=>∃c,z.length<=sizeLine/\kJ z.cps.toList i=some c/\R (.str ⟨#[c]⟩) S|.ref a,.int i=>WH a i S R|.ref a,.str z=>∃kvs d,S a=some (.cY kvs)/\bS kvs (.inr z)=some d/\R d S|_,_=>False
theorem RvAll.at{H:Hp}{ds:List D}{xs:List V}{i:Int}{d:D}(h:RvAll K H ds xs)(e:kJ ds i=some d):∃v,kJ xs i=some v/\Rv K H d v:=by unfold kJ at e⊢;rw[h.len];cases q:FN ds.length i with|none=>(rw[q]at e;cases e)|some j=>rw[q]at e;exact h.get e
theorem YZ:IxD K ixD:=by rintro X hK hu value slice pins s σ H x y v u Q I rx ry ⟨d,e,S,R,r1,r2,hS,h,hR⟩ hs;subst hK;cases d with|tup ds=>(cases e with|int i=>(obtain⟨d,e,h⟩:=h;obtain⟨a,xs,rfl,q,t⟩:=r1.tup;obtain⟨z,e1,r⟩:=t.at e;exact Gv value slice pins s σ H _ _ v u Q I rx ry {a,xs,i,z,rfl,r2.int,.of q,e1,hR.now hS h r} hs)|_=>exact h.elim)|kt ds=>(cases e with|int i=>(obtain⟨d,e,h⟩:=h;obtain⟨a,xs,rfl,q,t⟩:=r1.kt;obtain⟨z,e1,r⟩:=t.at e;exact Gv value slice pins s σ H _ _ v u Q I rx ry {a,xs,i,z,rfl,r2.int,.inr q,e1,hR.now hS h r} hs)|_=>exact h.elim)|iU ds=>(cases e with|int i=>(obtain⟨d,e,h⟩:=h;obtain⟨a,xs,rfl,q,t⟩:=r1.iU;obtain⟨z,e1,r⟩:=t.at e;exact CJ value slice pins s σ H _ _ v u Q I rx ry {a,xs,i,z,rfl,r2.int,q.sq,e1,hR.now hS h r} hs)|_=>exact h.elim)|str w=>(cases e with|int i=>(obtain⟨c,e0,e,h⟩:=h;exact OH value slice pins s σ H _ _ v u Q I rx ry {w,i,c,r1.str,r2.int,e0,e,hR.now hS h<|e8 _} hs)|_=>exact h.elim)|ref a=>(cases e with|int i=>(obtain⟨ds,d,e,e1,h⟩:=h;obtain⟨xs,e2,t⟩:=hS.lst e;obtain⟨z,e3,r⟩:=t.at e1;exact CJ value slice pins s σ H _ _ v u Q I rx ry {a,xs,i,z,r1.ref,r2.int,.of e2,e3,hR.now hS h r} hs)|str w=>(obtain⟨kvs,d,e,e1,h⟩:=h;cases r1.ref;cases r2.str;cases rx;obtain⟨o,g,_,e2⟩:=ve (k:=.inr w) hS e;obtain⟨z,rfl,r⟩:=e2 d e1;exact tail_any (wW I g) PySem.F.slot_dict_getitem.lookup (Ej (by lia) I g ry λw' s' I' m9=>{z,H,I',m9,hR.now hS h r}) hs)|_=>exact h.elim)|_=>exact h.elim
theorem ix(hu:X.A.units+64<cLine)(ha:DE K X a ta)(hb:DE K X b tb)(hs:CI b:=by exact λ_ _=>rfl)(hK:autoParam (X.K=K) qQJ):DE K X (.Subscript a b pos) (Pn ixD ta tb):=⟨λy=>(Th (YZ y.cx hK hu) (ha.of y) (hb.of y) hs).mono λ_ _ _ h=>h.op⟩
end
section
variable{K:Frag}{X:Cx}
abbrev RJ:=SD->aw->(Option Int->aw->Prop)->KX->Prop
def To(K:Frag)(E:St->XK)(t:RJ):TO:=λτ H Q=>∃σ S R Z,fX K H σ τ/\Rs K S H/\t σ S R Z/\(∀o S' H',R o S'->Rs K S' H'->Kp K H H'->Q o H')/\ED K H Z (E τ)
structure DO(K:Frag)(X:Cx)(e:Option Expr)(t:RJ):Prop where
 of:∀{b:Bool}(y:Ev X b),PO y.cx e<|To K y.E t
theorem PO.mono{t t':TO}(h:PO X e t)(i:∀τ H Q,t' τ H Q->t τ H Q):PO X e t':=λpins s τ H Q I q=>h pins s τ H Q I<|i τ H Q q
def Uo:RJ:=λ_ S R _=>R none S
inductive Up (d:D) (S:aw) (R:Option Int->aw->Prop):Prop where
 |mk (i:Int) (h:d=.int i) (r:R (some i) S)
def Uq(t:TD):RJ:=λσ S R Z=>t σ S (λd S1=>Up d S1 R) Z
theorem o0:DO K X none Uo:=⟨λy=>(Kg (X:=y.cx)).mono <| by rintro τ H Q ⟨σ,S,R,Z,aB,hS,q,hR,hZ⟩;exact hR _ S H q hS<|.refl _⟩
theorem o1{t:TD}(h:DE K X e t):DO K X (some e) (Uq t):=⟨λy=>(Kh<|h.of y).mono <| by rintro τ H Q ⟨σ,S,R,Z,aB,hS,q,hR,hZ⟩;exact{σ,S,_,Z,aB,hS,q,by rintro d S1 x H1 ⟨i,e,r1⟩ v1 s1 k1;exact by subst e;exact{i,v1.int,hR _ S1 H1 r1 s1 k1},hZ}⟩
noncomputable def cq{α:Type}(xs:List α)(lo hi:Option Int):List α:=(xs.drop<|HT.sIx xs.length 0 lo).take<|HT.sIx xs.length xs.length hi-HT.sIx xs.length 0 lo
theorem RvAll.cut{H:Hp}{ds:List D}{xs:List V}(h:RvAll K H ds xs)(lo hi:Option Int):RvAll K H (cq ds lo hi) (Eh xs lo hi):=by unfold cq Eh;rw[h.len];exact(h.drop _).take _
def Y0(te:TD):TD:=λσ S R Z=>te σ S (λx S1=>∃i,x=.int i/\R (.int (-i)) S1) Z
theorem EG(he:DE K X e te):DE K X (.UnaryOp .USub e pos) (Y0 te):=⟨λy=>(SQ Ox<|he.of y).mono <| by rintro τ H Q ⟨σ,S,R,Z,aB,hS,q,hR,hZ⟩;exact{σ,S,_,Z,aB,hS,q,by rintro d S1 x H1 ⟨i,e,r1⟩ v1 s1 k1;exact by subst e;exact{i,v1.int,hR _ S1 _ H1 r1 (aP _) s1 k1},hZ}⟩
def Y1(T:String)(S:aw):D->Prop|.str _=>T ="str"|.ref a=>T ="list"/\∃ds,S a=some (.lst ds)|.iU _=>T ="list"|_=>False
theorem MV{H:Hp}{S:aw}{T:String}{d:D}{v:V}(h:Y1 T S d)(hS:Rs K S H)(r:Rv K H d v):Wx K T v H:=by cases d with|str z=>rw[r.str];exact h|ref a=>(obtain⟨e,ds,h⟩:=h;obtain⟨xs,e1,_⟩:=hS.lst h;rw[r.ref];exact .inl {e,xs,.of e1})|iU ds=>(obtain⟨a,xs,rfl,q,_⟩:=r.iU;exact .inl ⟨h,xs,q.sq⟩)|_=>exact h.elim
abbrev He:=D->List D->aw->KD->Prop
def Lm(K:Frag)(r:He):V->List V->Hp->VK->Prop:=λx xs H Q=>∃d ds S R,Rv K H d x/\RvAll K H ds xs/\Rs K S H/\r d ds S R/\Cn K H R Q
def Pp(K:Frag)(id:String)(r:He):Prop:=∀X:Cx,X.K=K->Ru X id (Lm K r)
def dBM(T:String)(r:He)(to:TD)(t:ir):TD:=λσ S R Z=>to σ S (λx S1=>Y1 T S1 x/\t σ S1 (λds S2=>r x ds S2 R) Z) Z
def Y2(T:String)(r:He)(to:TD):TD:=λσ S R Z=>to σ S (λx S1=>Y1 T S1 x/\r x [] S1 R) Z
theorem bm{o e:Expr}{es:List Expr}{T id:String}{name:Str}{r:He}{to:TD}{t:ir}{apos aN:Pos}(pa:PlainAttrs T)(slot:Slot T name id)(OM:typeOf (.builtin id)=pure (.type "method_descriptor"))(hm:Pp K id r)(ho:DE K X o to)(ha:DA K X (e::es) t) (lX:autoParam (attributeBase o name X.env (eval o X.env)=eval o X.env) qQJ) (ON:autoParam (((backTo aN<|starEach (e::es) X.env).all (λx=>!x.1)&&(backToKw aN<|keywordEach [] X.env).all (λx=>x.1.isSome)&&decide ((e::es).length+([]:List Keyword).length+(if ([]:List Keyword).isEmpty then 0 else 1)<30))=true) qQJ) (qu:autoParam ((apos.endLine==aN.line)=true) qQJ) (hs:autoParam (starEach (e::es) X.env=(false,eval e X.env)::starEach es X.env) qQJ) (A1:autoParam ((backTo aN<|starEach es X.env).any (·.1)=false) qQJ) (hK:autoParam (X.K=K) qQJ): DE K X (.Call (.Attribute o name apos) (e::es) [] aN) (dBM T r to t):=by
 subst hK
 exact⟨λy=>(Tp (X:=y.cx) pa slot OM (hm _ rfl) (ho.of y) (ha.of y) lX ON qu hs A1).mono <| by rintro τ H Q ⟨σ,S,R,Z,aB,hS,q,hR,hZ⟩;exact
  ⟨σ,S,_,Z,aB,hS,q,by rintro d S1 x H1 ⟨h1,r1⟩ v1 s1 k1;exact⟨MV h1 s1 v1,σ,S1,_,Z,aB.ts k1,s1,r1,λds S2 xs H2 r2 v2 s2 k2=>⟨d,ds,S2,R,Rv.ts k2 _ v1,v2,s2,r2,hR.kp<|k1.trans k2⟩,hZ.kp k1⟩,hZ⟩⟩
theorem bm0{o:Expr}{T id:String}{name:Str}{r:He}{to:TD}{apos aN:Pos}(pa:PlainAttrs T)(slot:Slot T name id)(OM:typeOf (.builtin id)=pure (.type "method_descriptor"))(hm:Pp K id r)(ho:DE K X o to) (lX:autoParam (attributeBase o name X.env (eval o X.env)=eval o X.env) qQJ) (qu:autoParam ((apos.endLine==aN.line)=true) qQJ) (hK:autoParam (X.K=K) qQJ): DE K X (.Call (.Attribute o name apos) [] [] aN) (Y2 T r to):=by
 subst hK
 exact⟨λy=>(OL (X:=y.cx) pa slot OM (hm _ rfl) (ho.of y) lX qu).mono <| by rintro τ H Q ⟨σ,S,R,Z,aB,hS,q,hR,hZ⟩;exact
  ⟨σ,S,_,Z,aB,hS,q,by rintro d S1 x H1 ⟨h1,r1⟩ v1 s1 k1;exact⟨MV h1 s1 v1,d,[],S1,R,v1,bh,s1,r1,hR.kp k1⟩,hZ⟩⟩
theorem RvAll.one(h:RvAll K H [d] xs):∃v,xs=[v]/\Rv K H d v:=by obtain⟨y,ys,rfl,h1,h2⟩:=h.cons;rw[h2.nil];exact⟨y,rfl,h1⟩
inductive Ur (x:D) (ds:List D) (S:aw) (R:KD):Prop where
 |mk (a:Addr) (es:List D) (d:D) (e1:x=.ref a) (e2:ds=[d]) (e3:S a=some (.lst es)) (e4:es.length<sizeLine) (r:R .ao<|S.set a<|.lst<|es++[d])
def K9:He:=λx ds S R=>Ur x ds S R
theorem ba:Pp K "list.append" K9:=by rintro X hK pins s σ H x xs v us Q I rx rs ⟨d,ds,S,R,r1,r2,hS,⟨a,es,y,e1,e2,e3,hl,h⟩,hR⟩;subst e1 e2;obtain⟨w0,rfl,q2⟩:=r2.one;obtain⟨zs,e4,t⟩:=hS.lst e3;exact Ei pins s σ H x _ v us Q I rx rs {a,zs,w0,r1.ref,rfl,e4,by rw[t.len];exact hl,hR.put hS e3 h ip<|t.app<|aT q2 bh}
def Y3:He:=λx ds S R=>∃a es d,x=.ref a/\ds=[]/\S a=some (.lst es)/\es[es.length-1]?=some d/\R d (S.set a<|.lst es.dropLast)
theorem Us:Pp K "list.pop" Y3:=by rintro X hK pins s σ H x xs v us Q I rx rs ⟨d,ds,S,R,r1,r2,hS,⟨a,es,y,e1,e2,e3,hl,h⟩,hR⟩;subst e1 e2;obtain⟨zs,e4,t⟩:=hS.lst e3;obtain⟨w,e5,r⟩:=t.get hl;exact OP pins s σ H x _ v us Q I rx rs {a,zs,w,r1.ref,r2.nil,e4,by rw[t.len];exact e5,hR.put hS e3 h r t.dropLast}
def K_:He:=λx ds S R=>∃(es:List D)(d:D)(j:Nat),ds=[d]/\ug S x es/\jl d=true/\es.all jl=true/\(∃z,es[j]?=some z/\eqV (kz z) (kz d)=true)/\(∀m u,m<j->es[m]?=some u->eqV (kz u) (kz d)=false)/\R (.int j) S
theorem Hf:Pp K "list.index" K_:=by rintro X hK pins s σ H x xs v us Q I rx rs ⟨d,ds,S,R,r1,r2,hS,⟨es,y,j,e2,e3,f1,f2,⟨z,e4,e5⟩,h4,h⟩,hR⟩;subst hK e2;obtain⟨w0,rfl,q2⟩:=r2.one;obtain⟨a,zs,rfl,q,t⟩:=e3.at hS r1;obtain⟨g1,g2⟩:=qJ f1 q2;obtain⟨g3,g4⟩:=l8 f2 t;subst g1 g3;refine EC pins s σ H _ _ v us Q I rx rs {a,_,_,kz z,j,rfl,rfl,q,g2,g4,by rw[zr,e4];rfl,e5,λm u hm e=>?_,hR.now hS h<|aP _};rw[zr]at e;cases q2:es[m]? with|none=>(rw[q2]at e;cases e)|some u'=>rw[q2]at e;cases e;exact h4 m u' hm q2
def La:He:=λx ds S R=>∃z y,x=.str z/\ds=[.str y]/\R (.bl<|PySem.Txt.startswith z y) S
theorem Hg:Pp K "str.startswith" La:=by rintro X hK pins s σ H x xs v us Q I rx rs ⟨d,ds,S,R,r1,r2,hS,⟨z,y,e1,e2,h⟩,hR⟩;subst e1 e2;obtain⟨w0,rfl,q2⟩:=r2.one;exact sV pins s σ H _ _ v us Q I rx rs {z,y,r1.str,by rw[q2.str],hR.now hS h<|bx _}
def MW(S:aw)(R:KD):D->Prop|.str z=>z.length<=sizeLine/\R (.int z.length) S|.tup es=>R (.int es.length) S|.kt es=>R (.int es.length) S|.iU es=>R (.int es.length) S|.ref a=>(∃es,S a=some (.lst es)/\R (.int es.length) S)\/∃kvs,S a=some (.cY kvs)/\R (.int kvs.length) S|_=>False
inductive Ut (ds:List D) (S:aw) (R:KD):Prop where
 |mk (x:D) (h:ds=[x]) (r:MW S R x)
def Y4:List D->aw->KD->Prop:=λds S R=>Ut ds S R
theorem bz:iV K (.builtin "len") Y4:=by rintro X hK hc pins s σ H xs us Q I rx ⟨ds,S,R,r,hS,⟨x,e,h⟩,hR⟩;subst hK e;obtain⟨w,rfl,r'⟩:=r.one;cases x with|str z=>(cases r'.str;exact je pins s σ H _ us Q I rx {_,_,rfl,⟨h.1,rfl⟩,hR.now hS h.2<|aP _})|tup es=>(obtain⟨a,xs,rfl,q,t⟩:=r'.tup;exact je pins s σ H _ us Q I rx {_,_,rfl,.inr {xs,.of q,t.len.symm},hR.now hS h<|aP _})|kt es=>(obtain⟨a,xs,rfl,q,t⟩:=r'.kt;exact je pins s σ H _ us Q I rx {_,_,rfl,.inr {xs,.inr q,t.len.symm},hR.now hS h<|aP _})|iU es=>(obtain⟨a,xs,rfl,q,t⟩:=r'.iU;exact je pins s σ H _ us Q I rx {_,_,rfl,.inl ⟨xs,q.sq,t.len.symm⟩,hR.now hS h<|aP _})|ref a=>(cases r'.ref;rcases h with⟨es,e,h⟩|⟨kvs,e,h⟩;obtain⟨xs,e1,t⟩:=hS.lst e;exact je pins s σ H _ us Q I rx {_,_,rfl,.inl {xs,.of e1,t.len.symm},hR.now hS h<|aP _};obtain⟨xs,e1,t⟩:=hS.cY e;exact En pins s σ H _ us Q I rx {a,xs,rfl,e1,by rw[t.len];exact hR.now hS h<|aP _})|_=>exact h.elim
def Pq(S:aw):D->Kd->Prop|.ao,k=>k=.ao|.bl _,k=>k=.bl|.int _,k=>k=.int|.str _,k=>k=.str|.ref a,k=>(k=.lst/\∃ds,S a=some (.lst ds))\/(k=.cY/\∃ds,S a=some (.cY ds))|.tup _,k=>k=.tup|_,_=>False
theorem Uu(h:Pq S d k)(hS:Rs K S H)(r:Rv K H d v):qA H v k:=by cases d with|ao=>(cases h;rw[r.ao];exact .ao)|bl b=>(cases h;rw[r.bl];exact .bl b)|int b=>(cases h;rw[r.int];exact .int b)|str b=>(cases h;rw[r.str];exact .str b)|tup b=>(cases h;obtain⟨a,xs,rfl,q,_⟩:=r.tup;exact .tup q)|ref a=>(rw[r.ref];rcases h with⟨rfl,ds,h⟩|⟨rfl,ds,h⟩;obtain⟨xs,e,_⟩:=hS.lst h;exact .lst e;obtain⟨xs,e,_⟩:=hS.cY h;exact .cY e)|_=>exact h.elim
inductive Uv (ds:List D) (S:aw) (R:KD):Prop where
 |mk (x:D) (n:String) (k:Kd) (g:Kd->Bool) (e:ds=[x,.ty n]) (a:w5 n=some g) (b:Pq S x k) (r:R (.bl<|g k) S)
def Y5:List D->aw->KD->Prop:=λds S R=>Uv ds S R
theorem RvAll.two(h:RvAll K H [d,e] xs):∃v u,xs=[v,u]/\Rv K H d v/\Rv K H e u:=by obtain⟨y,ys,rfl,h1,h2⟩:=h.cons;obtain⟨u,rfl,h3⟩:=h2.one;exact⟨y,u,rfl,h1,h3⟩
theorem dX:iV K (.builtin "isinstance") Y5:=by rintro X hK hc pins s σ H xs us Q I rx ⟨ds,S,R,r,hS,⟨x,n,k,g,e,h1,h2,h⟩,hR⟩;subst hK e;obtain⟨v,u,rfl,r1,r2⟩:=r.two;rw[r2.ty]at rx;exact GS pins s σ H _ us Q I rx {v,n,k,g,rfl,h1,Uu h2 hS r1,hR.now hS h<|bx _}
inductive Uw (ds:List D) (S:aw) (f:List Bool->Bool) (R:KD):Prop where
 |mk (x:D) (bs:List Bool) (e:ds=[x]) (h:ug S x<|bs.map D.bl) (r:R (.bl<|f bs) S)
def Ux:List D->aw->KD->Prop:=λds S R=>Uw ds S (λbs=>bs.all id) R
theorem l9:iV K (.builtin "all") Ux:=by rintro X hK hc pins s σ H xs us Q I rx ⟨ds,S,R,r,hS,⟨x,bs,e,h1,h⟩,hR⟩;subst hK e;obtain⟨v,rfl,r1⟩:=r.one;obtain⟨a,zs,rfl,q,t⟩:=h1.at hS r1;rw[t.bools]at q;exact sP hc pins s σ H _ us Q I rx {a,bs,rfl,q,hR.now hS h<|bx _}
def Y6:List D->aw->KD->Prop:=λds S R=>∃(x:D)(bs:List Bool),ds=[x]/\ug S x (bs.map D.bl)/\R (.bl<|bs.any id) S
theorem Uy:iV K (.builtin "any") Y6:=by rintro X hK hc pins s σ H xs us Q I rx ⟨ds,S,R,r,hS,⟨x,bs,e,h1,h⟩,hR⟩;subst hK e;obtain⟨v,rfl,r1⟩:=r.one;obtain⟨a,zs,rfl,q,t⟩:=h1.at hS r1;rw[t.bools]at q;exact sQ hc pins s σ H _ us Q I rx {a,bs,rfl,q,hR.now hS h<|bx _}
def intD:List D->aw->KD->Prop:=λds S R=>(∃i,ds=[.int i]/\R (.int i) S)\/∃k,ds=[.bl k]/\R (.int<|if k then 1 else 0) S
theorem Uz:iV K (.type "int") intD:=by rintro X hK hc pins s σ H xs us Q I rx ⟨ds,S,R,r,hS,h,hR⟩;rcases h with⟨i,rfl,h⟩|⟨k,rfl,h⟩;obtain⟨v,rfl,r1⟩:=r.one;exact tR pins s σ H _ us Q I rx<|.inl {i,by rw[r1.int],hR.now hS h<|aP _};obtain⟨v,rfl,r1⟩:=r.one;exact tR pins s σ H _ us Q I rx<|.inr {k,by rw[r1.bl],hR.now hS h<|aP _}
def UA:List D->aw->KD->Prop:=λds S R=>∃x es,ds=[x]/\(ug S x es\/x=.tup es)/\∀p,S p=none->R (.ref p) (S.set p<|.lst es)
theorem Pr:iV K (.type "list") UA:=by rintro X hK hc pins s σ H xs us Q I rx ⟨ds,S,R,r,hS,⟨x,es,e,h1,h⟩,hR⟩;subst hK e;obtain⟨v,rfl,r1⟩:=r.one;rcases h1 with h1|rfl;obtain⟨a,zs,rfl,q,t⟩:=h1.at hS r1;exact lW pins s σ H _ us Q I rx {a,zs,rfl,.inl q,λp hp=>hR.new hS hp (h p) t};obtain⟨a,zs,rfl,q,t⟩:=r1.tup;exact lW pins s σ H _ us Q I rx {a,zs,rfl,.inr<|.of q,λp hp=>hR.new hS hp (h p) t}
inductive UB (ds:List D) (S:aw) (R:KD):Prop where
 |mk (x:D) (es:List D) (e:ds=[x]) (h:ug S x es\/x=.tup es) (r:R (.tup es) S)
def Pt:List D->aw->KD->Prop:=λds S R=>UB ds S R
theorem pY:iV K (.type "tuple") Pt:=by rintro X hK hc pins s σ H xs us Q I rx ⟨ds,S,R,r,hS,⟨x,es,e,h1,h⟩,hR⟩;subst hK e;obtain⟨v,rfl,r1⟩:=r.one;rcases h1 with h1|rfl;obtain⟨a,zs,rfl,q,t⟩:=h1.at hS r1;exact kK pins s σ H _ us Q I rx {a,zs,rfl,.inl {q,λp hp=>hR.Po hS hp h t}};obtain⟨a,zs,rfl,q,t⟩:=r1.tup;exact kK pins s σ H _ us Q I rx {a,zs,rfl,.inr {.of q,hR.now hS h<|jj q t}}
def minD(f:Int->Int->Bool):List D->aw->KD->Prop:=λds S R=>∃i j,ds=[.int i,.int j]/\R (.int<|if f j i then j else i) S
theorem MX:iV K (.builtin "min") (minD λa b=>decide<|a<b):=by rintro X hK hc pins s σ H xs us Q I rx ⟨ds,S,R,r,hS,⟨i,j,e,h⟩,hR⟩;subst e;obtain⟨v,u,rfl,r1,r2⟩:=r.two;refine Ed hc pins s σ H _ us Q I rx {i,j,by rw[r1.int,r2.int],?_};have:=hR.now hS h<|aP _;simpa using this
end
abbrev jm:=List D->aw->KD->KX->Prop
def qL(K:Frag)(sp:jm):Sp:=λvs H Q e=>∃ds S R Z,RvAll K H ds vs/\Rs K S H/\sp ds S R Z/\Cn K H R Q/\ED K H Z e
section
variable{K:Frag}{X:Cx}{k:Nat}{f C:Addr}{fd:FuncData}{ps:List Str}{sp:Sp}{mY:List V}{ds:List Value}{x m:Str}{p pos apos:Pos}{e o:Expr}{es:List Expr}{b:Bool}{y:Ev X b}
theorem pZ(F:bD X.prog X.w X.K X.mg X.base (fi X.prog X.w X.mg) k f fd ps sp)(hr:bf k X.A)(hb:Binds X.K fd ps ds)(hd:Vals mY ds) (I:Inv y.cx p2 σ H s) (r:Vals vs us) (h:sp (vs++mY) H Q<|y.E σ):wpAny (model X.prog X.w) X.A (call (.ref f) us) (EP y.cx p2 σ Q) y.xe s:=by
 have r2:Vals (vs++mY) (us++ds):=r.append hd;have hl:(us++ds).length=ps.length:=by rw[<-r2.length];exact F.len _ _ _ _ h
 refine wpAny_call<|yN (F.run X.A X.stack s H {us,[]} (us++ds) (vs++mY) Q (y.E σ) hr I.OE (hb s us I.ku hl) r2 h) λres s' hq=>?_;cases res with|error e=>exact y.ok.call p2 σ H s e s' I hq|ok fl=>cases fl with|ret u=>exact I.after hq|next=>exact False.elim hq|brk=>exact False.elim hq|cont=>exact False.elim hq
theorem Hh{t:TA}(F:bD X.prog X.w X.K X.mg X.base (fi X.prog X.w X.mg) k f fd ps sp)(hr:bf k X.A)(hg:Gl X x)(hm:X.mg x=some (.ref f))(hk:keepIn X.K (.ref f)=true)(hb:Binds X.K fd ps ds)(hd:Vals mY ds) (ha:PA y.cx (e::es) t) (i8:(x==("__debug__": Str))=false) (he:starEach (e::es) X.env=(false,eval e X.env)::starEach es X.env) (eX:(backTo pos<|starEach es X.env).any (·.1)=false): PE y.cx (.Call (.Name x p) (e::es) [] pos) (λσ H Q=>t σ H λvs H1=>sp (vs++mY) H1 Q<|y.E σ):=by intro p2 s σ H Q I h;refine yD<|ic I hg hm ?_ i8;refine callWith_K (h₀:=X.base) I.ok.mod.MA hk (aX (ha pos p2 s σ H _ I h) λus s1 ⟨vs,H1,I1,r,q⟩=>{I1.ku,?_}) he eX;exact pZ F hr hb hd I1 r q
theorem EH(F:bD X.prog X.w X.K X.mg X.base (fi X.prog X.w X.mg) k f fd ps sp)(hr:bf k X.A)(hg:Gl X x)(hm:X.mg x=some (.ref f))(hk:keepIn X.K (.ref f)=true)(hb:Binds X.K fd ps ds)(hd:Vals mY ds) (i8:(x==("__debug__": Str))=false):PE y.cx (.Call (.Name x p) [] [] pos) (λσ H Q=>sp mY H Q<|y.E σ):=by intro p2 s σ H Q I h;refine yD<|ic I hg hm ?_ i8;exact callWith_K0 I.ku hk<|pZ (us:=[]) (vs:=[]) F hr hb hd I .nil h
theorem Hi{pl:Sem Bool}{ta:TE}{t:TA}(he:PE y.cx o ta)(c:pW X.K C)(hm:Meth X.K C m f)(F:bD X.prog X.w X.K X.mg X.base (fi X.prog X.w X.mg) k f fd ps sp)(hr:bf k X.A)(hb:Binds X.K fd ps ds)(hd:Vals mY ds)(ha:PA y.cx (e::es) t)
  (om:starEach (e::es) X.env=(false,eval e X.env)::starEach es X.env) (eX:(backTo pos<|starEach es X.env).any (·.1)=false)
  (ht:eval (.Call (.Attribute o m apos) (e::es) [] pos) X.env=(do
   let ov <-eval o X.env
   standAt apos.atName
   let (f,first) <-holding [ov] (getMethod ov m pl)
   callWith pos f first (backTo pos<|starEach (e::es) X.env) (backToKw pos<|keywordEach [] X.env))):
  PE y.cx (.Call (.Attribute o m apos) (e::es) [] pos) (λσ H Q=>ta σ H λx H1=>∃a dx fs,x=.ref a/\H1 a=some (.ins C dx fs)/\fs.lookup m=none/\t σ H1 λvs H2=>sp (x::(vs++mY)) H2 Q<|y.E σ):=by
 intro p2 s σ H Q I h
 refine methodCall_KW (pl:=pl) (aX (he p2 s σ H _ I h) λu s1 ⟨x,H1,I1,rx,a,dx,fs,ex,ea,l,q⟩=>?_) ht
 subst ex
 obtain rfl:u=Value.ref a:=rx
 refine qr I1 ea c hm l ?_
 refine callWith_K (first:=[.ref a]) (h₀:=X.base) I.ok.mod.MA hm.kp (aX (ha pos p2 s1 σ H1 _ I1 q) λus s2 ⟨vs,H2,I2,r,q2⟩=>{I2.ku,?_}) om eX
 exact pZ (us:=.ref a::us) (vs:=.ref a::vs) F hr hb hd I2 (.cons rfl r) q2
theorem EI(he:PE y.cx o ta)(c:pW X.K C)(hm:Meth X.K C m f)(F:bD X.prog X.w X.K X.mg X.base (fi X.prog X.w X.mg) k f fd ps sp)(hr:bf k X.A)(hb:Binds X.K fd ps ds)(hd:Vals mY ds)
  (ht:eval (.Call (.Attribute o m apos) [] [] pos) X.env=(do
   let ov <-eval o X.env
   standAt apos.atName
   let (f,first) <-holding [ov] (getMethod ov m pl)
   callWith pos f first (backTo pos<|starEach [] X.env) (backToKw pos<|keywordEach [] X.env))):
  PE y.cx (.Call (.Attribute o m apos) [] [] pos) (λσ H Q=>ta σ H λx H1=>∃a dx fs,x=.ref a/\H1 a=some (.ins C dx fs)/\fs.lookup m=none/\sp (x::mY) H1 Q (y.E σ)):=by
 intro p2 s σ H Q I h
 refine methodCall_KW (pl:=pl) (aX (he p2 s σ H _ I h) λu s1 ⟨x,H1,I1,rx,a,dx,fs,ex,ea,l,q⟩=>?_) ht
 subst ex
 obtain rfl:u=Value.ref a:=rx
 refine qr I1 ea c hm l ?_
 exact callWith_K0 (first:=[.ref a]) I1.ku hm.kp<|pZ (us:=[.ref a]) (vs:=[.ref a]) F hr hb hd I1 (.cons rfl .nil) q
theorem EJ(M:Mk X.K C f)(F:bD X.prog X.w X.K X.mg X.base (fi X.prog X.w X.mg) k f fd ps sp)(hr:bf (k+1) X.A)(hb:Binds X.K fd ps ds)(hd:Vals mY ds) (I:Inv y.cx p2 σ H s) (r:Vals vs us) (h:∀x dx,H x=none->H dx=none->dx≠x->sp (.ref x::(vs++mY)) (upd (upd H dx<|.own x) x<|.ins C dx []) (λv H2=>v=.ao/\Q (.ref x) H2) (y.E σ)): wpAny (model X.prog X.w) X.A (call (.ref C) us) (EP y.cx p2 σ Q) y.xe s:=by
 have hq:=h (s.heap.objs.size+1) s.heap.objs.size (I.aG.fresh<|yS _) (I.aG.fresh<|zo _)<|zy<|Nat.lt_succ_self _;have I2:=Inv.made (C:=C) I;have r2:Vals (V.ref (s.heap.objs.size+1)::(vs++mY)) (Value.ref (s.heap.objs.size+1)::(us++ds)):=.cons rfl<|r.append hd;have hl:(Value.ref (s.heap.objs.size+1)::us++ds).length=ps.length:=by have e:=r2.length;rw[F.len _ _ _ _ hq]at e;exact e.symm
 refine wpAny_call<|Gr (f:=f) I.ku M.makes M.init (beq_iff_eq.mp M.fn)<|yN (F.run _ X.stack _ _ {Value.ref (s.heap.objs.size+1)::us,[]} (Value.ref (s.heap.objs.size+1)::(us++ds)) _ _ (y.E σ) (hr.make C us []) (I2.OE.make C us []) (hb _ (Value.ref (s.heap.objs.size+1)::us) I2.ku hl) r2 hq) λr s' FT=>?_;cases r with|error e=>exact y.ok.call p2 σ _ _ e s' I2 FT|ok fl=>cases fl with|ret u=>(obtain⟨v,H',I3,rv,ev,q3⟩:=I2.after FT;subst ev;exact{rv,{V.ref<|s.heap.objs.size+1,H',I3,rfl,q3}})|next=>exact False.elim FT|brk=>exact False.elim FT|cont=>exact False.elim FT
theorem Hj{t:TA}(M:Mk X.K C f)(F:bD X.prog X.w X.K X.mg X.base (fi X.prog X.w X.mg) k f fd ps sp)(hr:bf (k+1) X.A)(hg:Gl X x)(hm:X.mg x=some (.ref C))(hb:Binds X.K fd ps ds)(hd:Vals mY ds) (ha:PA y.cx (e::es) t) (i8:(x==("__debug__": Str))=false) (he:starEach (e::es) X.env=(false,eval e X.env)::starEach es X.env) (eX:(backTo pos<|starEach es X.env).any (·.1)=false): PE y.cx (.Call (.Name x p) (e::es) [] pos) (λσ H Q=>t σ H λvs H1=>∀x dx,H1 x=none->H1 dx=none->dx≠x->sp (.ref x::(vs++mY)) (upd (upd H1 dx<|.own x) x<|.ins C dx []) (λv H2=>v=.ao/\Q (.ref x) H2) (y.E σ)):=by intro p2 s σ H Q I h;refine yD<|ic I hg hm ?_ i8;refine callWith_K (h₀:=X.base) I.ok.mod.MA M.kp (aX (ha pos p2 s σ H _ I h) λus s1 ⟨vs,H1,I1,r,q⟩=>{I1.ku,?_}) he eX;exact EJ M F hr hb hd I1 r q
end
section
variable{K:Frag}{X:Cx}{k:Nat}{f C:Addr}{fd:FuncData}{ps:List Str}{sp:jm}{ui:List D}{mY:List V}{ds:List Value}{x m:Str}{p pos apos:Pos}{e o:Expr}{es:List Expr}
structure Pu(K:Frag)(ui:List D)(mY:List V)(ds:List Value):Prop where
 v:Vals mY ds
 d:∀H,RvAll K H ui mY
theorem d0:Pu K [] [] []:={.nil,λ_=>bh}
theorem d1:Pu K [.ao] [.ao] [.none]:={.cons rfl .nil,λ_=>aT ip bh}
def Hk(sp:jm)(ui:List D)(t:ir):TD:=λσ S R Z=>t σ S (λds S1=>sp (ds++ui) S1 R Z) Z
theorem cf{t:ir}(F:bD X.prog X.w K X.mg X.base (fi X.prog X.w X.mg) k f fd ps<|qL K sp)(hr:bf k X.A)(hm:X.mg x=some (.ref f))(hk:keepIn K (.ref f)=true)(hb:Binds K fd ps ds)(hd:Pu K ui mY ds)(ha:DA K X (e::es) t) (hg:autoParam (Gl X x) qQJ) (i8:autoParam ((x==("__debug__": Str))=false) qQZ) (he:autoParam (starEach (e::es) X.env=(false,eval e X.env)::starEach es X.env) qQJ) (eX:autoParam ((backTo pos<|starEach es X.env).any (·.1)=false) qQJ) (hK:autoParam (X.K=K) qQJ): DE K X (.Call (.Name x p) (e::es) [] pos) (Hk sp ui t):=by
 subst hK
 exact⟨λy=>(Hh F hr hg hm hk hb hd.v (ha.of y) i8 he eX).mono <| by rintro τ H Q ⟨σ,S,R,Z,aB,hS,q,hR,hZ⟩;exact
  ⟨σ,S,_,Z,aB,hS,q,λes S1 xs H1 r1 v1 s1 k1=>⟨es++ui,S1,R,Z,v1.app<|hd.d _,s1,r1,hR.kp k1,hZ.kp k1⟩,hZ⟩⟩
theorem cf0(F:bD X.prog X.w K X.mg X.base (fi X.prog X.w X.mg) k f fd ps<|qL K sp)(hr:bf k X.A)(hm:X.mg x=some (.ref f))(hk:keepIn K (.ref f)=true)(hb:Binds K fd ps ds)(hd:Pu K ui mY ds) (hg:autoParam (Gl X x) qQJ) (i8:autoParam ((x==("__debug__": Str))=false) qQZ) (hK:autoParam (X.K=K) qQJ): DE K X (.Call (.Name x p) [] [] pos) (Hk sp ui Ha):=by subst hK;exact⟨λy=>(EH F hr hg hm hk hb hd.v i8).mono <| by rintro τ H Q ⟨σ,S,R,Z,aB,hS,q,hR,hZ⟩;exact{ui,S,R,Z,hd.d _,hS,q,hR,hZ}⟩
inductive MeR (C:Addr) (m:Str) (x:D) (S:aw) (p:Prop):Prop where
 |mk (a:Addr) (fs:List<|Str×D) (e1:x=.ref a) (e2:S a=some (.ins C fs)) (e3:fs.lookup m=none) (r:p)
def CV(C:Addr)(m:Str)(sp:jm)(ui:List D)(ta:TD)(t:ir):TD:=λσ S R Z=>ta σ S (λx S1=>MeR C m x S1<|t σ S1 (λds S2=>sp (x::(ds++ui)) S2 R Z) Z) Z
theorem Y7{t:ir}(he:DE K X o ta)(c:pW K C)(hm:Meth K C m f)(F:bD X.prog X.w K X.mg X.base (fi X.prog X.w X.mg) k f fd ps<|qL K sp)(hr:bf k X.A)(hb:Binds K fd ps ds)(hd:Pu K ui mY ds)(ha:DA K X (e::es) t)
  (om:autoParam (starEach (e::es) X.env=(false,eval e X.env)::starEach es X.env) qQJ) (eX:autoParam ((backTo pos<|starEach es X.env).any (·.1)=false) qQJ)
  (ht:autoParam (eval (.Call (.Attribute o m apos) (e::es) [] pos) X.env=(do
   let ov <-eval o X.env
   standAt apos.atName
   let (f,first) <-holding [ov] (getMethod ov m pl)
   callWith pos f first (backTo pos<|starEach (e::es) X.env) (backToKw pos<|keywordEach [] X.env))) qQJ) (hK:autoParam (X.K=K) qQJ):
  DE K X (.Call (.Attribute o m apos) (e::es) [] pos) (CV C m sp ui ta t):=by
 subst hK
 exact⟨λy=>(Hi (he.of y) c hm F hr hb hd.v (ha.of y) om eX ht).mono <| by rintro τ H Q ⟨σ,S,R,Z,aB,hS,q,hR,hZ⟩;exact
  ⟨σ,S,_,Z,aB,hS,q,by
   rintro d S1 x H1 ⟨a,fs,e1,e2,e3,r1⟩ v1 s1 k1
   subst e1
   obtain⟨dx,vs,e4,t4⟩:=s1.ins e2
   exact{a,dx,vs,v1.ref,e4,(t4.look m).2 e3,σ,S1,_,Z,aB.ts k1,s1,r1,λes S2 xs H2 r2 v2 s2 k2=>{_,S2,R,Z,aT (Rv.ts k2 _ v1)<|v2.app<|hd.d _,s2,r2,hR.kp<|k1.trans k2,hZ.kp<|k1.trans k2},hZ.kp k1},hZ⟩⟩
theorem UC(he:DE K X o ta)(c:pW K C)(hm:Meth K C m f)(F:bD X.prog X.w K X.mg X.base (fi X.prog X.w X.mg) k f fd ps<|qL K sp)(hr:bf k X.A)(hb:Binds K fd ps ds)(hd:Pu K ui mY ds)
  (ht:autoParam (eval (.Call (.Attribute o m apos) [] [] pos) X.env=(do
   let ov <-eval o X.env
   standAt apos.atName
   let (f,first) <-holding [ov] (getMethod ov m pl)
   callWith pos f first (backTo pos<|starEach [] X.env) (backToKw pos<|keywordEach [] X.env))) qQJ) (hK:autoParam (X.K=K) qQJ):
  DE K X (.Call (.Attribute o m apos) [] [] pos) (CV C m sp ui ta Ha):=by
 subst hK
 exact⟨λy=>(EI (he.of y) c hm F hr hb hd.v ht).mono <| by rintro τ H Q ⟨σ,S,R,Z,aB,hS,q,hR,hZ⟩;exact
  ⟨σ,S,_,Z,aB,hS,q,by
   rintro d S1 x H1 ⟨a,fs,e1,e2,e3,r1⟩ v1 s1 k1
   subst e1
   obtain⟨dx,vs,e4,t4⟩:=s1.ins e2
   exact{a,dx,vs,v1.ref,e4,(t4.look m).2 e3,_,S1,R,Z,aT v1<|hd.d _,s1,r1,hR.kp k1,hZ.kp k1},hZ⟩⟩
def UD(C:Addr)(sp:jm)(ui:List D)(t:ir):TD:=λσ S R Z=>t σ S (λds S1=>∀x,S1 x=none->sp (.ref x::(ds++ui)) (S1.set x<|.ins C []) (λd S2=>d=.ao/\R (.ref x) S2) Z) Z
theorem mk{t:ir}(M:Mk K C f)(F:bD X.prog X.w K X.mg X.base (fi X.prog X.w X.mg) k f fd ps<|qL K sp)(hr:bf (k+1) X.A)(hm:X.mg x=some (.ref C))(hb:Binds K fd ps ds)(hd:Pu K ui mY ds)(ha:DA K X (e::es) t) (hg:autoParam (Gl X x) qQJ) (i8:autoParam ((x==("__debug__": Str))=false) qQZ) (he:autoParam (starEach (e::es) X.env=(false,eval e X.env)::starEach es X.env) qQJ) (eX:autoParam ((backTo pos<|starEach es X.env).any (·.1)=false) qQJ) (hK:autoParam (X.K=K) qQJ): DE K X (.Call (.Name x p) (e::es) [] pos) (UD C sp ui t):=by
 subst hK
 exact⟨λy=>(Hj M F hr hg hm hb hd.v (ha.of y) i8 he eX).mono <| by rintro τ H Q ⟨σ,S,R,Z,aB,hS,q,hR,hZ⟩;exact
  ⟨σ,S,_,Z,aB,hS,q,λes S1 xs H1 r1 v1 s1 k1 x dx hx hdx ne=>by
   have G0:upd H1 dx (.own x) x=none:=by rw[ar ne.symm];exact hx
   have k2:Kp X.K H1 (upd (upd H1 dx<|.own x) x<|.ins C dx []):=(Kp.new hdx).trans<|Kp.new G0
   exact{_,_,_,Z,aT (d9 x)<|RvAll.ts k2 _<|v1.app<|hd.d _,(s1.grow hdx).new (c:=.ins C []) G0 {dx,[],aC,.nil},r1 x<|s1.fresh hx,by rintro d S2 v H2 ⟨e,r2⟩ v2 s2 k3;exact by subst e;exact{v2.ao,hR _ _ _ _ r2 (d9 x) s2<|(k1.trans k2).trans k3},(hZ.kp k1).kp k2},hZ⟩⟩
inductive FlR (C:Addr) (f:Str) (x:D) (S:aw) (R:KD):Prop where
 |mk (a:Addr) (fs:List<|Str×D) (d:D) (e1:x=.ref a) (e2:S a=some (.ins C fs)) (e3:fs.lookup f=some d) (r:R d S)
def Y8(C:Addr)(f:Str)(ta:TD):TD:=λσ S R Z=>ta σ S (λx S1=>FlR C f x S1 R) Z
theorem fl{f:Str}{ta:TD}(c:pW K C)(n:jf K C f)(he:DE K X e ta)(hb:autoParam (attributeBase e f X.env (eval e X.env)=eval e X.env) qQJ)(hK:autoParam (X.K=K) qQJ):DE K X (.Attribute e f pos) (Y8 C f ta):=by
 subst hK
 exact⟨λy=>(OA (X:=y.cx) (he.of y) hb).mono <| by rintro τ H Q ⟨σ,S,R,Z,aB,hS,q,hR,hZ⟩;exact
  ⟨σ,S,_,Z,aB,hS,q,by
   rintro d S1 x H1 ⟨a,fs,y,e1,e2,e3,r1⟩ v1 s1 k1
   subst e1
   obtain⟨dx,vs,e4,t4⟩:=s1.ins e2
   obtain⟨v,e5,r5⟩:=(t4.look f).1 y e3
   exact{a,C,dx,vs,v,v1.ref,e4,c,n,e5,(hR.kp k1).now s1 r1 r5},hZ⟩⟩
end
structure uj where
 nx:SD->aw->Prop
 rt:KD
 bk:SD->aw->Prop:=λ_ _=>False
 ct:SD->aw->Prop:=λ_ _=>False
abbrev kB:=uj->SD->aw->(SD->KX)->Prop
def MY(K:Frag)(H:Hp)(R:SD->aw->Prop)(Q:St->Hp->Prop):Prop:=∀σ S τ H',R σ S->fX K H' σ τ->Rs K S H'->Kp K H H'->Q τ H'
structure WI(K:Frag)(H:Hp)(De:uj)(Dv:Ends):Prop where
 nx:MY K H De.nx Dv.nx
 rt:Cn K H De.rt Dv.rt
 bk:MY K H De.bk Dv.bk
 ct:MY K H De.ct Dv.ct
def xr(K:Frag)(H:Hp)(Z:SD->KX)(E:St->XK):Prop:=∀σ τ C S H',Z σ C S->fX K H' σ τ->Rs K S H'->Kp K H H'->E τ (.ref C) none H'
section
variable{K:Frag}{H H1:Hp}{De:uj}{Dv:Ends}{Z:SD->KX}{E:St->XK}{σ:SD}{τ:St}{S:aw}
theorem MY.kp(h:MY K H R Q)(k:Kp K H H1):MY K H1 R Q:=λσ S τ H' r a b c=>h σ S τ H' r a b<|k.trans c
theorem WI.kp(h:WI K H De Dv)(k:Kp K H H1):WI K H1 De Dv:={h.nx.kp k,h.rt.kp k,h.bk.kp k,h.ct.kp k}
theorem xr.kp(h:xr K H Z E)(k:Kp K H H1):xr K H1 Z E:=λσ τ C S H' r a b c=>h σ τ C S H' r a b<|k.trans c
theorem xr.at(h:xr K H Z E)(r:fX K H σ τ):ED K H (Z σ) (E τ):=λC S H' z s k=>h σ τ C S H' z (r.ts k) s k
theorem xr.on(h:xr K H Z E)(k:Kp K H H1)(r:fX K H1 σ τ):ED K H1 (Z σ) (E τ):=(h.kp k).at r
end
def Tl(K:Frag)(E:St->XK)(t:kB):TS:=λDv τ H=>∃σ S De Z,fX K H σ τ/\Rs K S H/\t De σ S Z/\WI K H De Dv/\xr K H Z E
structure DS(K:Frag)(X:Cx)(b:Bool)(st:Stmt)(t:kB):Prop where
 of:∀y:Ev X b,PS y.cx st<|Tl K y.E t
structure xt(K:Frag)(X:Cx)(b:Bool)(st:List Stmt)(t:kB):Prop where
 of:∀y:Ev X b,AI y.cx st<|Tl K y.E t
theorem PS.mono{t t':TS}(h:PS X e t)(i:∀D τ H,t' D τ H->t D τ H):PS X e t':=λpins s τ H D I q=>h pins s τ H D I<|i D τ H q
theorem AI.mono{t t':TS}(h:AI X e t)(i:∀D τ H,t' D τ H->t D τ H):AI X e t':=λpins s τ H D I q=>h pins s τ H D I<|i D τ H q
section
variable{K:Frag}{X:Cx}{b:Bool}{pos:Pos}
def UE:kB:=λDe σ S _=>De.nx σ S
def Y9(t u:kB):kB:=λDe σ S Z=>t {De with nx:=λav S'=>u De av S' Z} σ S Z
theorem s0:xt K X b [] UE:=⟨λy=>(Cz (X:=y.cx)).mono <| by rintro D τ H ⟨σ,S,De,Z,aB,hS,q,hD,hZ⟩;exact hD.nx _ _ _ _ q aB hS<|.refl _⟩
theorem sc{st:Stmt}{r:List Stmt}{t u:kB}(h1:DS K X b st t)(h2:xt K X b r u):xt K X b (st::r) (Y9 t u):=
 ⟨λy=>(F9 (h1.of y)<|h2.of y).mono <| by rintro D τ H ⟨σ,S,De,Z,aB,hS,q,hD,hZ⟩;exact
  ⟨σ,S,_,Z,aB,hS,q,⟨λuP S1 WJ H1 r1 a b c=>⟨uP,S1,De,Z,a,b,r1,hD.kp c,hZ.kp c⟩,hD.rt,hD.bk,hD.ct⟩,hZ⟩⟩
theorem s1{st:Stmt}{t:kB}(h:DS K X b st t):xt K X b [st] t:=⟨λy=>JW<|h.of y⟩
def UG(t:TD):kB:=λDe σ S Z=>t σ S (λ_ S1=>De.nx σ S1)<|Z σ
theorem se{t:TD}(h:DE K X e t)(hs:autoParam (swapsWith e none pos.line X.env=pure false) qQJ):DS K X b (.Expr e pos) (UG t):=⟨λy=>(JX (X:=y.cx) (h.of y) hs).mono <| by rintro D τ H ⟨σ,S,De,Z,aB,hS,q,hD,hZ⟩;exact{σ,S,_,_,aB,hS,q,λd S1 v H1 r1 _ s1 k1=>hD.nx _ _ _ _ r1 (aB.ts k1) s1 k1,hZ.at aB}⟩
def Y_(t:TD):kB:=λDe σ S Z=>t σ S De.rt<|Z σ
theorem sr{t:TD}(h:DE K X e t):DS K X b (.Return (some e) pos) (Y_ t):=⟨λy=>(Ob<|h.of y).mono <| by rintro D τ H ⟨σ,S,De,Z,aB,hS,q,hD,hZ⟩;exact{σ,S,_,_,aB,hS,q,hD.rt,hZ.at aB}⟩
def dIf(c:l7)(t u:kB):kB:=λDe σ S Z=>c σ S (λb S1=>if b=true then t De σ S1 Z else u De σ S1 Z)<|Z σ
theorem si{t u:kB}(hc:DT K X c tc)(ha:xt K X b a t)(hb:xt K X b a' u):DS K X b (.If c a a' pos) (dIf tc t u):=
 ⟨λy=>(Su (hc.of y) (ha.of y)<|hb.of y).mono <| by rintro D τ H ⟨σ,S,De,Z,aB,hS,q,hD,hZ⟩;exact
  ⟨σ,S,_,_,aB,hS,q,λc S1 H1 r1 s1 k1=>by
   cases c with
   |true=>rw[if_pos rfl]at r1⊢;exact{σ,S1,De,Z,aB.ts k1,s1,r1,hD.kp k1,hZ.kp k1}
   |false=>rw[if_neg zd]at r1⊢;exact{σ,S1,De,Z,aB.ts k1,s1,r1,hD.kp k1,hZ.kp k1},hZ.at aB⟩⟩
abbrev Av:=D->SD->aw->(SD->aw->Prop)->Prop
def Tg(K:Frag)(g:Av):TG:=λv τ H Q=>∃d σ S R,Rv K H d v/\fX K H σ τ/\Rs K S H/\g d σ S R/\MY K H R Q
structure DG(K:Frag)(X:Cx)(e:Expr)(g:Av):Prop where
 of:∀Y:Cx,Y.K=X.K->Y.N=X.N->Y.env=X.env->Y.fn=X.fn->Y.calm=X.calm->PG Y e (Tg K g)
theorem PG.mono{t t':TG}(h:PG X e t)(i:∀v τ H Q,t' v τ H Q->t v τ H Q):PG X e t':=λpins s τ H v u Q I r q=>h pins s τ H v u Q I r<|i v τ H Q q
def WK(i:Nat):Av:=λd σ S R=>R (σ.set i<|some d) S
theorem gn(hN:X.N.Nodup)(hi:autoParam (X.N[i]?=some x) qQJ)(hx:autoParam (Loc X.env.scope x) qJK)(hf:autoParam (X.fn x=true\/X.env.scope.names.lookup x=some .local) qQ8):DG K X (.Name x pos) (WK i):=⟨λY _ e2 e3 e4 _=>(pU (X:=Y) (by rw[e2];exact hN) (by rw[e2];exact hi) (by rw[e3];exact hx)<|by rw[e3,e4];exact hf).mono <| by rintro v τ H Q ⟨d,σ,S,R,rv,aB,hS,q,hR⟩;exact hR _ S _ H q (aB.set i rv) hS<|.refl _⟩
abbrev EK:=List D->SD->aw->(SD->aw->Prop)->Prop
def Tgs(K:Frag)(g:EK):ME:=λvs τ H Q=>∃ds σ S R,RvAll K H ds vs/\fX K H σ τ/\Rs K S H/\g ds σ S R/\MY K H R Q
structure WL(K:Frag)(X:Cx)(es:List Expr)(g:EK):Prop where
 of:∀Y:Cx,Y.K=X.K->Y.N=X.N->Y.env=X.env->Y.fn=X.fn->Y.calm=X.calm->MF Y es (Tgs K g)
theorem MF.mono{t t':ME}(h:MF X e t)(i:∀v τ H Q,t' v τ H Q->t v τ H Q):MF X e t':=λpins s τ H v u Q I r q=>h pins s τ H v u Q I r<|i v τ H Q q
def MZ:EK:=λds σ S R=>ds=[]/\R σ S
def Bu(g:Av)(u:EK):EK:=λds σ S R=>∃d r,ds=d::r/\g d σ S λuP S1=>u r uP S1 R
theorem g0:WL K X [] MZ:=⟨λY _ _ _ _ _=>(CA (X:=Y)).mono <| by rintro vs τ H Q ⟨ds,σ,S,R,rv,aB,hS,⟨e,q⟩,hR⟩;exact by subst e;exact{rv.nil,hR _ _ _ _ q aB hS<|.refl _}⟩
theorem gc(h1:DG K X e g)(h2:WL K X es u)(hs:autoParam (∀env:Env,(assignEach (e::es) env).map (·.2)=assign e env::(assignEach es env).map (·.2)) qQ0):WL K X (e::es) (Bu g u):=⟨λY a b c d f=>(ql (h1.of Y a b c d f) (h2.of Y a b c d f)<|hs _).mono <| by rintro vs τ H Q ⟨ds,σ,S,R,rv,aB,hS,⟨d,r,e,q⟩,hR⟩;subst e;obtain⟨y,ys,e1,r1,r2⟩:=rv.cons;exact{y,ys,e1,d,σ,S,_,r1,aB,hS,q,λuP S1 WJ H1 q1 a b c=>{r,uP,S1,R,RvAll.ts c _ r2,a,b,q1,hR.kp c}}⟩
def M0(n:Nat)(g:EK):Av:=λd σ S R=>∃ds,d=.tup ds/\ds.length=n/\g ds σ S R
theorem gt(h:WL K X es g)(hn:autoParam (∀env:Env,(assignEach es env).length=n) qQ0)(om:autoParam (∀env:Env,(assignEach es env).findIdx? (·.1)=none) qQ0)(hK:autoParam (X.K=K) qQJ)(hc:autoParam (X.calm=true) qQJ):DG K X (.Tuple es j pos) (M0 n g):=⟨λY a b c d f=>(F_ (X:=Y) (by rw[f];exact hc) (h.of Y a b c d f) (hn _)<|om _).mono <| by rintro v τ H Q ⟨d,σ,S,R,rv,aB,hS,⟨ds,e,hl,q⟩,hR⟩;subst e;obtain⟨p,xs,e1,e2,t⟩:=rv.tup;exact{p,xs,e1,.of e2,by rw[t.len];exact hl,ds,σ,S,R,t,aB,hS,q,hR}⟩
def UH(i:Nat)(t:TD):kB:=λDe σ S Z=>t σ S (λd S1=>De.nx (σ.set i<|some d) S1)<|Z σ
theorem ck{t:TD}(hN:X.N.Nodup)(h:DE K X e t)(hi:autoParam (X.N[i]?=some x) qQJ)(hx:autoParam (Loc X.env.scope x) qJK)(hs:autoParam (swapsWith e (some<|.Name x pos') pos.line X.env=pure false) qQJ) (hf:autoParam (X.fn x=true\/X.env.scope.names.lookup x=some .local) qQ8):DS K X b (.Assign [.Name x pos'] e pos) (UH i t):=⟨λy=>(Of (X:=y.cx) (i:=i) hN hi hx (h.of y) hs hf).mono <| by rintro D τ H ⟨σ,S,De,Z,aB,hS,q,hD,hZ⟩;exact{σ,S,_,_,aB,hS,q,λd S1 v H1 r1 v1 s1 k1=>hD.nx _ _ _ _ r1 ((aB.ts k1).set i v1) s1 k1,hZ.at aB}⟩
def Za(t:TD)(g:Av):kB:=λDe σ S Z=>t σ S (λd S1=>g d σ S1 De.nx)<|Z σ
theorem sa{t:TD}(h:DE K X e t)(hg:DG K X tg g)(hs:autoParam (swapsWithSole [tg] e pos.line X.env=pure false) qQJ)(hw:autoParam (swappedStores [tg] e X.env=pure none) qQJ)(h1:autoParam ((assignEach [tg] X.env).map (·.2)=[assign tg X.env]) qQJ): DS K X b (.Assign [tg] e pos) (Za t g):=⟨λy=>(Ga (X:=y.cx) (h.of y) (hg.of _ rfl rfl rfl rfl rfl) hs hw h1).mono <| by rintro D τ H ⟨σ,S,De,Z,aB,hS,q,hD,hZ⟩;exact{σ,S,_,_,aB,hS,q,λd S1 v H1 r1 v1 s1 k1=>{d,σ,S1,_,v1,aB.ts k1,s1,r1,hD.nx.kp k1},hZ.at aB}⟩
def Zb(td ty tv:TD):kB:=λDe σ S Z=>tv σ S (λv S1=>td σ S1 (λx S2=>ty σ S2 (λy S3=>∃a kvs k,x=.ref a/\S3 a=some (.cY kvs)/\Bs y=some k/\kvs.length<sizeLine/\De.nx σ (S3.set a<|.cY<|dput kvs k v))<|Z σ)<|Z σ)<|Z σ
theorem sd{o i value:Expr}{td ty tv:TD}{pos':Pos}(hu:X.A.units+64<cLine)(ho:DE K X o td)(hi:DE K X i ty)(hv:DE K X value tv)(hs:autoParam (swapsWith value (some<|.Subscript o i pos') pos.line X.env=pure false) qQJ):DS K X b (.Assign [.Subscript o i pos'] value pos) (Zb td ty tv):=
 ⟨λy=>(Kk (X:=y.cx) (by show X.A.units+1<cLine;lia) (ho.of y) (hi.of y) (hv.of y) hs).mono <| by rintro D τ H ⟨σ,S,De,Z,aB,hS,q,hD,hZ⟩;exact
  ⟨σ,S,_,_,aB,hS,q,λv S1 vv H1 r1 v1 s1 k1=>⟨σ,S1,_,_,aB.ts k1,s1,r1,λx S2 xv H2 r2 v2 s2 k2=>⟨σ,S2,_,_,aB.ts<|k1.trans k2,s2,r2,by
   rintro y S3 yv H3 ⟨a,kvs,k,e1,e2,e3,hl,r3⟩ v3 s3 k3
   subst e1
   obtain⟨vs,e4,t⟩:=s3.cY e2
   have kk:=s3.iq (o:=.dK<|putK vs k vv) e2
   refine{a,_,(Rv.ts k3 _ v2).ref,by rw[nA e3 v3];exact GC.k e4<|by rw[t.len];exact hl,?_}
   exact hD.nx _ _ _ _ r3 (aB.ts<|((k1.trans k2).trans k3).trans kk) (s3.put (c:=.cY _) e2 {_,aC,(t.put k<|Rv.ts (k2.trans k3) _ v1).ts kk})<|((k1.trans k2).trans k3).trans kk,hZ.on (k1.trans k2)<|aB.ts<|k1.trans k2⟩,hZ.on k1<|aB.ts k1⟩,hZ.at aB⟩⟩
end
section
variable{X:Cx}{pins:List (Addr×Obj)}{σ:St}{H:Hp}{s:Shared}{A:Around}{E:Value->Shared->Prop}{a:Addr}{kvs:List (Key×V)}{k:Key}{u:Value}
theorem Pw(I:Inv X pins σ H s)(e:H a=some (.dK kvs))(ry:RelV (kV k) u)(rz:RelV z r)(hl:kvs.length<sizeLine) (h1:∀v w' s',f9 kvs k=some v->Inv X pins σ H s'->RelV v w'->Q w' s') (h2:f9 kvs k=none->∀s',Inv X pins σ (upd H a<|.dK<|putK kvs k z) s'->Q r s'): wpAny (model X.prog X.w) A (call (.builtin "dict.setdefault") [.ref a,u,r]) Q E s:=by
 obtain⟨zz,hd,vs,rel,dd⟩:=CL I.aG e;have hp:=ou kvs k z;refine call_meetsIn PySem.F.slot_dict_setdefault dd.typeIs PySem.F.entry_dict_setdefault (PySem.F.args_dict_setdefault_3 _ _ _) (PySem.kt_meets_setdefault (aE X.prog X.w) a (kL ry) hd r) {vs,dd,by rw[<-rel.length];exact zz,λw' hw=>?_,λhn h' JI hs=>?_};cases q:f9 kvs k with|none=>(have:=fY.none_of (o:=valueAt vs k) (by rw[<-q];exact rel.val k);rw[this]at hw;cases hw)|some v=>obtain⟨w2,UI,rw2⟩:=fY.some_of (v:=v) (o:=valueAt vs k) (by rw[<-q];exact rel.val k);rw[UI]at hw;cases hw;exact h1 v _ _ q (I.tok _) rw2
 cases q:f9 kvs k with|some v=>(obtain⟨w2,UI,rw2⟩:=fY.some_of (v:=v) (o:=valueAt vs k) (by rw[<-q];exact rel.val k);rw[UI]at hn;cases hn)|none=>have he:∃q,h'.get? a=some q:=(by obtain⟨q,_,_,hq,_⟩:=JI;exact⟨q,hq⟩);exact h2 q _<|uW I (by rw[e];exact True.intro) hs he<|A3 (by lia) hd (rel.put k rz) JI
end
section
variable{X:Cx}{o e f:Expr}{apos aN:Pos}{td ty tx:TE}
def UJ(td ty tx:TE):TE:=λσ H Q=>td σ H λx H1=>∃a,x=.ref a/\Rw H1 a/\ty σ H1 λy H2=>tx σ H2 λz H3=>∃kvs k,H3 a=some (.dK kvs)/\y=kV k/\kvs.length<sizeLine/\(∀v,f9 kvs k=some v->Q v H3)/\(f9 kvs k=none->Q z (upd H3 a<|.dK<|putK kvs k z))
theorem Hl(ho:PE X o td)(he:PE X e ty)(hf:PE X f tx)(m:M2 X o "setdefault" apos e f aN):PE X (.Call (.Attribute o "setdefault" apos) [e,f] [] aN) (UJ td ty tx):=by intro pins s σ H Q I h;refine wpAny_Call_method m.base m.FO m.line PySem.F.plainAttrs_dict PySem.F.slot_dict_setdefault PySem.F.type_dict_setdefault<|aX (ho pins s σ H _ I h) λu s1 ⟨x,H1,I1,rx,a,ex,d,q1⟩=>?_;subst ex;obtain rfl:u=Value.ref a:=rx;obtain⟨t1,t2,_⟩:=uX I1 d;refine{t1,t2,?_};rw[m.trees];refine Calls.callWith_builtin rfl<|Calls.evalArgs_plain<|yC<|aX (he pins s1 σ H1 _ I1 q1) λiv s2 ⟨y,H2,I2,ry,q2⟩=>yC<|aX (hf pins s2 σ H2 _ I2 q2) λfv s3 ⟨z,H3,I3,rz,kvs,k,ea,ey,hl,q3,q4⟩=>Calls.spliced_nil ?_;subst ey;exact Pw I3 ea ry rz hl (λv w' s4 l I4 m9=>{v,H3,I4,m9,q3 v l}) λl s4 I4=>{z,_,I4,rz,q4 l}
end
section
variable{K:Frag}{X:Cx}{b:Bool}{o e f:Expr}{apos aN pos:Pos}{td ty tx:TD}
theorem vf(hS:Rs K S H)(e:S a=some (.cY kvs)):Rw H a:=by obtain⟨vs,e1,_⟩:=hS.cY e;exact .inl {vs,.inl e1}
def UK(td ty:TD):TD:=λσ S R Z=>td σ S (λx S1=>∃a kvs,x=.ref a/\S1 a=some (.cY kvs)/\ty σ S1 (λy S2=>∃kvs k,S2 a=some (.cY kvs)/\Bs y=some k/\R ((bS kvs k).getD .ao) S2) Z) Z
theorem Hm(hS:Rs K S H)(e:S a=some (.cY kvs))(r:Rv K H d v):∃o,ph H a (kV k) o/\Rv K H ((bS kvs k).getD d) (o.getD v):=by obtain⟨o,g,h1,h2⟩:=ve (k:=k) hS e;refine{o,g,?_};cases q:bS kvs k with|none=>(rw[q]at h1;cases o with|none=>exact r|some _=>cases h1)|some d'=>obtain⟨v',rfl,r'⟩:=h2 d' q;exact r'
theorem mg1(hu:X.A.units+64<cLine)(ho:DE K X o td)(he:DE K X e ty)(m:autoParam (M1 X o "get" apos e aN) qQ4):DE K X (.Call (.Attribute o "get" apos) [e] [] aN) (UK td ty):=
 ⟨λy=>(GH (X:=y.cx) (by show X.A.units+1<cLine;lia) (ho.of y) (he.of y) ⟨m.base,m.FO,m.line,m.trees⟩).mono <| by rintro τ H Q ⟨σ,S,R,Z,aB,hS,q,hR,hZ⟩;exact
  ⟨σ,S,_,Z,aB,hS,q,by
   rintro x S1 xv H1 ⟨a,kvs,e1,e2,r1⟩ v1 s1 k1
   subst e1
   exact⟨a,v1.ref,vf s1 e2,σ,S1,_,Z,aB.ts k1,s1,r1,by
    rintro y S2 yv H2 ⟨kvs,k,e3,e4,r2⟩ v2 s2 k2
    obtain⟨o,g,r⟩:=Hm (k:=k) s2 e3 ip
    exact{o,by rw[nA e4 v2];exact g,(hR.kp<|k1.trans k2).now s2 r2 r},hZ.kp k1⟩,hZ⟩⟩
def UL(td ty tx:TD):TD:=λσ S R Z=>td σ S (λx S1=>∃a kvs,x=.ref a/\S1 a=some (.cY kvs)/\ty σ S1 (λy S2=>tx σ S2 (λz S3=>∃kvs k,S3 a=some (.cY kvs)/\Bs y=some k/\R ((bS kvs k).getD z) S3) Z) Z) Z
theorem mg2(hu:X.A.units+64<cLine)(ho:DE K X o td)(he:DE K X e ty)(hf:DE K X f tx)(m:autoParam (M2 X o "get" apos e f aN) qQ4):DE K X (.Call (.Attribute o "get" apos) [e,f] [] aN) (UL td ty tx):=
 ⟨λy=>(GI (X:=y.cx) (by show X.A.units+1<cLine;lia) (ho.of y) (he.of y) (hf.of y) ⟨m.base,m.FO,m.line,m.trees⟩).mono <| by rintro τ H Q ⟨σ,S,R,Z,aB,hS,q,hR,hZ⟩;exact
  ⟨σ,S,_,Z,aB,hS,q,by
   rintro x S1 xv H1 ⟨a,kvs,e1,e2,r1⟩ v1 s1 k1
   subst e1
   exact⟨a,v1.ref,vf s1 e2,σ,S1,_,Z,aB.ts k1,s1,r1,λy S2 yv H2 r2 v2 s2 k2=>⟨σ,S2,_,Z,aB.ts<|k1.trans k2,s2,r2,by
    rintro z S3 zv H3 ⟨kvs,k,e3,e4,r3⟩ v3 s3 k3
    obtain⟨o,g,r⟩:=Hm (k:=k) s3 e3 v3
    exact{o,by rw[nA e4 v2];exact g,(hR.kp<|(k1.trans k2).trans k3).now s3 r3 r},hZ.kp<|k1.trans k2⟩,hZ.kp k1⟩,hZ⟩⟩
def UM(td ty:TD):TD:=λσ S R Z=>td σ S (λx S1=>∃a kvs,x=.ref a/\S1 a=some (.cY kvs)/\ty σ S1 (λy S2=>∃kvs k d,S2 a=some (.cY kvs)/\Bs y=some k/\bS kvs k=some d/\R d (S2.set a<|.cY<|xp kvs k)) Z) Z
theorem mp1(ho:DE K X o td)(he:DE K X e ty)(m:autoParam (M1 X o "pop" apos e aN) qQ4):DE K X (.Call (.Attribute o "pop" apos) [e] [] aN) (UM td ty):=
 ⟨λy=>(GJ (X:=y.cx) (ho.of y) (he.of y) ⟨m.base,m.FO,m.line,m.trees⟩).mono <| by rintro τ H Q ⟨σ,S,R,Z,aB,hS,q,hR,hZ⟩;exact
  ⟨σ,S,_,Z,aB,hS,q,by
   rintro x S1 xv H1 ⟨a,kvs,e1,e2,r1⟩ v1 s1 k1
   subst e1
   exact⟨a,v1.ref,vf s1 e2,σ,S1,_,Z,aB.ts k1,s1,r1,by
    rintro y S2 yv H2 ⟨kvs,k,d,e3,e4,e5,r2⟩ v2 s2 k2
    obtain⟨vs,e6,t⟩:=s2.cY e3
    obtain⟨v,e7,r7⟩:=(t.val k).1 d e5
    have kk:=s2.iq (o:=.dK<|ot vs k) e3
    exact{vs,k,v,e6,nA e4 v2,e7,hR _ _ _ _ r2 (Rv.ts kk _ r7) (s2.put (c:=.cY _) e3 {_,aC,(t.drop k).ts kk})<|(k1.trans k2).trans kk},hZ.kp k1⟩,hZ⟩⟩
def UN(td ty tx:TD):TD:=λσ S R Z=>td σ S (λx S1=>∃a kvs,x=.ref a/\S1 a=some (.cY kvs)/\ty σ S1 (λy S2=>tx σ S2 (λz S3=>∃kvs k,S3 a=some (.cY kvs)/\Bs y=some k/\kvs.length<sizeLine/\(∀d,bS kvs k=some d->R d S3)/\(bS kvs k=none->R z (S3.set a<|.cY<|dput kvs k z))) Z) Z) Z
theorem ms2(ho:DE K X o td)(he:DE K X e ty)(hf:DE K X f tx)(m:autoParam (M2 X o "setdefault" apos e f aN) qQ4):DE K X (.Call (.Attribute o "setdefault" apos) [e,f] [] aN) (UN td ty tx):=
 ⟨λy=>(Hl (X:=y.cx) (ho.of y) (he.of y) (hf.of y) ⟨m.base,m.FO,m.line,m.trees⟩).mono <| by rintro τ H Q ⟨σ,S,R,Z,aB,hS,q,hR,hZ⟩;exact
  ⟨σ,S,_,Z,aB,hS,q,by
   rintro x S1 xv H1 ⟨a,kvs,e1,e2,r1⟩ v1 s1 k1
   subst e1
   exact⟨a,v1.ref,vf s1 e2,σ,S1,_,Z,aB.ts k1,s1,r1,λy S2 yv H2 r2 v2 s2 k2=>⟨σ,S2,_,Z,aB.ts<|k1.trans k2,s2,r2,by
    rintro z S3 zv H3 ⟨kvs,k,e3,e4,hl,r3,r4⟩ v3 s3 k3
    obtain⟨vs,e6,t⟩:=s3.cY e3
    have kk:=s3.iq (o:=.dK<|putK vs k zv) e3
    have hR3:=hR.kp<|(k1.trans k2).trans k3
    refine{vs,k,e6,nA e4<|Rv.ts k3 _ v2,by rw[t.len];exact hl,λv hv=>?_,λhn=>?_}
    ·cases q:bS kvs k with
     |none=>rw[(t.val k).2 q]at hv;cases hv
     |some d =>
      obtain⟨v',e7,r7⟩:=(t.val k).1 d q
      rw[e7]at hv;cases hv
      exact hR3.now s3 (r3 d q) r7
    ·cases q:bS kvs k with
     |some d=>obtain⟨v',e7,r7⟩:=(t.val k).1 d q;rw[e7]at hn;cases hn
     |none=>exact hR3 _ _ _ _ (r4 q) (Rv.ts kk _ v3) (s3.put (c:=.cY _) e3 {_,aC,(t.put k v3).ts kk}) kk,hZ.kp<|k1.trans k2⟩,hZ.kp k1⟩,hZ⟩⟩
noncomputable def Bv(f:Str)(d:D):List (Str×D)->List (Str×D)|[]=>[(f,d)]| (g,x)::r=>if g=f then (g,d)::r else (g,x)::Bv f d r
theorem bO.Bv{H:Hp}{f:Str}{d:D}{v:V}(rd:Rv K H d v):∀{ks:List (Str×D)}{vs:List (Str×V)},bO K H ks vs->bO K H (Bv f d ks) (putF f v vs)|_,_,.nil=>.cons ⟨rfl,rd⟩ .nil| (g,x)::r,(g',y)::r',.cons h t=>by obtain⟨e,h⟩:=h;dsimp only at e;subst e;show bO K H (if g=f then (g,d)::r else (g,x)::L2.Bv f d r) (if g=f then (g,v)::r' else (g,y)::putF f v r');by_cases q:g=f;rw[if_pos q,if_pos q];exact .cons ⟨rfl,rd⟩ t;rw[if_neg q,if_neg q];exact .cons ⟨rfl,h⟩<|bO.Bv rd t
def UO(C:Addr)(f:Str)(ta tv:TD):kB:=λDe σ S Z=>tv σ S (λy S1=>ta σ S1 (λx S2=>∃a fs,x=.ref a/\S2 a=some (.ins C fs)/\fs.length<1000/\De.nx σ (S2.set a<|.ins C<|Bv f y fs))<|Z σ)<|Z σ
theorem sf{C:Addr}{f:Str}{value:Expr}{ta tv:TD}{pos':Pos}(c:pW K C)(n:jf K C f)(ha:DE K X o ta)(hv:DE K X value tv)(hs:autoParam (swapsWith value (some<|.Attribute o f pos') pos.line X.env=pure false) qQJ)(hK:autoParam (X.K=K) qQJ): DS K X b (.Assign [.Attribute o f pos'] value pos) (UO C f ta tv):=by
 subst hK
 exact⟨λy=>(OB (X:=y.cx) (ha.of y) (hv.of y) hs).mono <| by rintro D τ H ⟨σ,S,De,Z,aB,hS,q,hD,hZ⟩;exact
  ⟨σ,S,_,_,aB,hS,q,λy S1 yv H1 r1 v1 s1 k1=>⟨σ,S1,_,_,aB.ts k1,s1,r1,by
   rintro x S2 xv H2 ⟨a,fs,e1,e2,hl,r2⟩ v2 s2 k2
   subst e1
   obtain⟨dx,vs,e4,t4⟩:=s2.ins e2
   have kk:=s2.iq (o:=.ins C dx<|putF f yv vs) e2
   exact{a,C,dx,vs,v2.ref,e4,c,n,by rw[t4.len];exact hl,hD.nx _ _ _ _ r2 (aB.ts<|(k1.trans k2).trans kk) (s2.put (c:=.ins C _) e2 {dx,_,aC,(bO.Bv (Rv.ts k2 _ v1) t4).ts kk})<|(k1.trans k2).trans kk},hZ.on k1<|aB.ts k1⟩,hZ.at aB⟩⟩
def Px(C:Addr)(t:ir):kB:=λ_ σ S Z=>t σ S (λds S1=>ds.length<=sizeLine/\Z σ C S1)<|Z σ
end
section
variable{K:Frag}{X:Cx}{C:Addr}{x:Str}{e:Expr}{es:List Expr}{np aN pos:Pos}
theorem EL{t:TA}{y:Ev X true}(hc:X.calm=true)(c:XC X.K C)(hg:Gl X x)(hm:X.mg x=some (.ref C))(ha:PA y.cx (e::es) t)(i8:(x==("__debug__": Str))=false) (he:starEach (e::es) X.env=(false,eval e X.env)::starEach es X.env) (eX:(backTo aN<|starEach es X.env).any (·.1)=false): PS y.cx (.Raise (some<|.Call (.Name x np) (e::es) [] aN) none pos) (λ_ σ H=>t σ H λvs H1=>vs.length<=sizeLine/\y.E σ (.ref C) none H1):=by intro pins s σ H D I h;obtain⟨bm,N,nm,q,bs,hdct,sn,sub,ab,col,dd,k0,k1,k2,k3,k5,mN,hC,hN,WB,T⟩:=c.at I.mod.MA;have lX:bm.contains (.type "BaseException")=true:=T.hasType (by decide);refine wpAny_Raise_call_subT (C:=C) (nm:=nm) (q:=q) (N:=N) (bs:=bs) (bm:=bm) (hdct:=hdct) (sn:=sn) (sub:=sub) (ab:=ab) (col:=col) (dd:=dd) (k0:=k0) (k1:=k1) (k2:=k2) (k3:=k3) (k5:=k5) PySem.F.excBase_ValueError (mN:=mN) lX (I.ok.hd hc) (by show((backTo aN<|starEach (e::es) X.env).any (·.1))=false;rw[he];show(false||(backTo aN<|starEach es X.env).any (·.1))=false;rw[eX];rfl) WB<|ic I hg hm {rfl,?_} i8;have h1:=ha aN pins s σ H _ I h;have he':starEach (e::es) y.cx.env=(false,eval e X.env)::starEach es X.env:=he;rw[he']at h1⊢;exact Calls.evalArgs_plain<|aX h1 <| by rintro us s2 ⟨vs,H2,I2,r,z,q2⟩;exact{rfl,by show us.length<=sizeLine;rw[<-r.length];exact z,I2.bk _ _ hC,hN.keeps I2.bk,T.keeps I2.bk,λh' a hx=>y.ok.own rfl pins σ H2 s2 h' a _ _ I2 hx q2}
theorem wJ{t:ir}(c:XC K C)(hm:X.mg x=some (.ref C))(ha:DA K X (e::es) t)(hg:autoParam (Gl X x) qQJ)(i8:autoParam ((x==("__debug__": Str))=false) qQZ) (he:autoParam (starEach (e::es) X.env=(false,eval e X.env)::starEach es X.env) qQJ) (eX:autoParam ((backTo aN<|starEach es X.env).any (·.1)=false) qQJ) (hc:autoParam (X.calm=true) qQJ) (hK:autoParam (X.K=K) qQJ): DS K X true (.Raise (some<|.Call (.Name x np) (e::es) [] aN) none pos) (Px C t):=by subst hK;exact⟨λy=>(EL (y:=y) hc c hg hm (ha.of y) i8 he eX).mono λD τ H ⟨σ,S,De,Z,aB,hS,q,hD,hZ⟩=>{σ,S,_,_,aB,hS,q,λds S1 vs H1 ⟨hl,r1⟩ v1 s1 k1=>{by rw[v1.len];exact hl,hZ.at aB C S1 H1 r1 s1 k1},hZ.at aB}⟩
end
structure vg where
 xs:List D
 ok:aw->Prop
def UP(K:Frag)(H0:Hp)(J:It)(I:vg):Prop:=∀i S H,Kp K H0 H->Rs K S H->I.ok S->(∀d,I.xs[i]?=some d->J.go i H/\∀x H',J.Sw i H x H'->Rv K H' d x/\Kp K H H'/\Rs K S H')/\(I.xs.length<=i->J.stop i H)
abbrev Aw:=SD->aw->(vg->aw->Prop)->KX->Prop
def Ti(K:Frag)(E:St->XK)(t:Aw):TI:=λτ H R=>∃σ S RI Z,fX K H σ τ/\Rs K S H/\t σ S RI Z/\(∀I S' J H',RI I S'->UP K H' J I->Rs K S' H'->Kp K H H'->R J H')/\ED K H Z (E τ)
structure DI(K:Frag)(X:Cx)(tg it:Expr)(t:Aw):Prop where
 of:∀{b:Bool}(y:Ev X b),PI y.cx tg it<|Ti K y.E t
theorem PI.mono{t t':TI}(h:PI X tg it t)(i:∀τ H R,t' τ H R->t τ H R):PI X tg it t':=λpins s τ H R I q=>h pins s τ H R I<|i τ H R q
section
variable{K:Frag}{X:Cx}{tg l:Expr}
def Zc(t:TD):Aw:=λσ S R Z=>t σ S (λx S1=>∃ds,ug S1 x ds/\R {ds,λS=>ug S x ds} S1) Z
theorem il{t:TD}(h:DE K X l t)(hK:autoParam (X.K=K) qQJ):DI K X tg l (Zc t):=by subst hK;exact⟨λy=>(J1 (X:=y.cx)<|h.of y).mono <| by rintro τ H R ⟨σ,S,RI,Z,aB,hS,q,hR,hZ⟩;exact{σ,S,_,Z,aB,hS,q,by rintro x S1 v H1 ⟨ds,h1,r1⟩ v1 s1 k1;obtain⟨a,xs,rfl,hq,t⟩:=h1.at s1 v1;refine{a,rfl,⟨xs,hq⟩,hR _ S1 _ H1 r1 (λi S2 H2 k2 s2 WM=>?_) s1 k1};obtain⟨a',Py,e',FT,t'⟩:=ug.at WM s2<|Rv.ts k2 _ v1;cases e';refine{λd hd=>?_,λhl=>{Py,FT,by rw[t'.len];exact hl}};obtain⟨v,e1,r⟩:=t'.get hd;refine{⟨Py,v,FT,e1⟩,λx' H' ⟨e2,e3⟩=>?_};subst e2;have:=e3 Py FT;rw[e1]at this;cases this;exact{r,.refl _,s2},hZ}⟩
def UQ(t:TD):Aw:=λσ S R Z=>t σ S (λx S1=>∃ds,(x=.tup ds\/x=.kt ds)/\R {ds,λ_=>True} S1) Z
theorem Pz{H:Hp}{x:D}{ds:List D}{v:V}(h:x=.tup ds\/x=.kt ds)(r:Rv K H x v):∃a xs,v=.ref a/\(∀H',Kp K H H'->gM K H' a xs)/\RvAll K H ds xs:=by rcases h with rfl|rfl;obtain⟨a,xs,rfl,q,t⟩:=r.tup;exact{a,xs,rfl,λH' k=>.of<|k.t _ _ q,t};obtain⟨a,xs,rfl,q,t⟩:=r.kt;exact{a,xs,rfl,λH' k=>.inr q,t}
theorem Lb{t:TD}(h:DE K X l t)(hK:autoParam (X.K=K) qQJ):DI K X tg l (UQ t):=by subst hK;exact⟨λy=>(Ol (X:=y.cx)<|h.of y).mono <| by rintro τ H R ⟨σ,S,RI,Z,aB,hS,q,hR,hZ⟩;exact{σ,S,_,Z,aB,hS,q,by rintro x S1 v H1 ⟨ds,h1,r1⟩ v1 s1 k1;obtain⟨a,xs,rfl,hq,t⟩:=Pz h1 v1;refine{a,rfl,{xs,hq _<|.refl _},hR _ S1 _ H1 r1 (λi S2 H2 k2 s2 _=>?_) s1 k1};have RK:=hq H2 k2;refine{λd hd=>?_,λhl=>{xs,RK,by rw[t.len];exact hl}};obtain⟨v,e1,r⟩:=(RvAll.ts k2 _ t).get hd;refine{⟨xs,v,RK,e1⟩,λx' H' ⟨e2,e3⟩=>?_};subst e2;have:=e3 xs RK;rw[e1]at this;cases this;exact{r,.refl _,s2},hZ}⟩
noncomputable def gD(lo:Int)(n:Nat):List D:=(List.range n).map λi=>D.int<|lo+(i:Nat)
theorem dH{lo:Int}{n:Nat} : (gD lo n).length=n:=by unfold gD;rw[zc,List.length_range]
theorem eQ{lo:Int}{n i:Nat}{d:D}(h:(gD lo n)[i]?=some d):i<n/\d=.int (lo+i):=by unfold gD at h;rw[zr]at h;by_cases q:i<n;rw[List.getElem?_range q]at h;exact{q,(zU h).symm};rw[List.getElem?_eq_none<|by rw[List.length_range];omega]at h;cases h
theorem PB{H0:Hp}{lo:Int}{n:Nat} : UP K H0 (Ws lo n) {gD lo n,λ_=>True}:=λi S H k s _=>{λd hd=>by obtain⟨h1,rfl⟩:=eQ hd;exact{h1,by rintro x H' ⟨e1,e2⟩;exact by subst e1 e2;exact{aP _,.refl _,s}},λhl=>by rw[dH]at hl;exact hl}
def Zd(t:ir):Aw:=λσ S R Z=>t σ S (λds S1=>∃j:Int,ds=[.int j]/\-(2^62)<=j/\j<2^62/\R {gD 0 j.toNat,λ_=>True} S1) Z
theorem Ld{t:ir}(hm:X.mg "range"= none)(ha:DA K X [a] t)(hg:autoParam (Gl X "range") qQJ)(hs:autoParam (starEach [a] X.env=[(false,eval a X.env)]) qQJ):DI K X tg (.Call (.Name "range" p) [a] [] pos) (Zd t):=⟨λy=>(D8 (X:=y.cx) hg hm (ha.of y) hs).mono <| by rintro τ H R ⟨σ,S,RI,Z,aB,hS,q,hR,hZ⟩;exact{σ,S,_,Z,aB,hS,q,by rintro ds S1 vs H1 ⟨j,e,h1,h2,r1⟩ v1 s1 k1;subst e;obtain⟨v,rfl,r⟩:=v1.one;exact{j,by rw[r.int],h1,h2,hR _ S1 _ H1 r1 PB s1 k1},hZ}⟩
end
section
variable{K:Frag}{X:Cx}{tg iter:Expr}{pos:Pos}
def Ze(ti:Aw)(g:Av)(tb:kB):kB:=λDe σ S Z=>ti σ S (λI S1=>∃P:Nat->SD->aw->Prop,P 0 σ S1/\(∀i σ S,P i σ S->I.ok S)/\(∀i d σ S,I.xs[i]?=some d->P i σ S->g d σ S λCB S2=>tb {De with nx:=P<|i+1,ct:=P<|i+1,bk:=De.nx} CB S2 Z)/\∀σ S,P I.xs.length σ S->De.nx σ S)<|Z σ
theorem Bw(hi:DI K X tg iter ti)(hg:DG K X tg g)(hb:xt K X true body tb)(hs:autoParam (∀x,foldedSetIterable iter X.env x=pure x) qQ0)(hc:autoParam (X.calm=true) qQJ):DS K X true (.For tg iter body [] pos) (Ze ti g tb):=
 ⟨λy=>(Om (X:=y.cx) (y.ok.loop rfl) hc (hi.of y) (hg.of _ rfl rfl rfl rfl rfl) (hb.of y) hs).mono <| by rintro D τ H ⟨σ,S,De,Z,aB,hS,q,hD,hZ⟩;exact
  ⟨σ,S,_,_,aB,hS,q,by
   rintro I S1 J H1 ⟨P,p0,Zg,Zh,pend⟩ hJ s1 k1
   refine{λi m τ H=>m=I.xs.length-i/\i<=I.xs.length/\∃σ S,fX K H σ τ/\Rs K S H/\P i σ S/\Kp K H1 H,!{zZ _,σ,S1,aB.ts k1,s1,p0,.refl _},?_}
   rintro i m τ2 H2 ⟨rfl,UR,CB,S2,a2,s2,p2,k2⟩
   have ok:=hJ i S2 H2 k2 s2<|Zg _ _ _ p2
   by_cases eY:i<I.xs.length
   ·obtain⟨go,yl⟩:=ok.1 _ (ze eY)
    refine .inr {go,λRG H'=>i+1<=I.xs.length/\∃σ S,fX K H' σ RG/\Rs K S H'/\P (i+1) σ S/\Kp K H1 H',λav H' h'=>{_,by omega,rfl,h'},λx H' hy=>?_}
    obtain⟨rx,k3,s3⟩:=yl x H' hy
    refine{_,CB,S2,_,rx,a2.ts k3,s3,Zh i _ CB S2 (ze eY) p2,λWN S4 τ4 H4 r4 a4 s4 k4=>?_}
    have kk:=(k2.trans k3).trans k4
    exact{WN,S4,_,Z,a4,s4,r4,{λPC S5 Zi H5 r5 a5 s5 k5=>{eY,PC,S5,a5,s5,r5,kk.trans k5},hD.rt.kp<|k1.trans kk,(hD.nx.kp<|k1.trans kk),λPC S5 Zi H5 r5 a5 s5 k5=>{eY,PC,S5,a5,s5,r5,kk.trans k5}},hZ.kp<|k1.trans kk}
   ·have e:i=I.xs.length:=by omega
    subst e
    exact .inl {ok.2<|zo _,hD.nx _ _ _ _ (pend _ _ p2) a2 s2<|k1.trans k2},hZ.at aB⟩⟩
end
noncomputable def oA(σ:SD)(src:List<|Option Nat):SD:=src.map λo=>match o with|some j=>(σ[j]?).join|none=>none
theorem fX.pick{K:Frag}{H:Hp}{σ:SD}{τ:St}(h:fX K H σ τ):∀src:List (Option Nat),fX K H (oA σ src) (pick τ src)|[]=>.nil|o::r=>.cons (λd e=>by cases o with|none=>(cases e)|some j=>dsimp only at e⊢;cases q:σ[j]? with|none=>(rw[q]at e;cases e)|some o'=>rw[q]at e;obtain rfl:o'=some d:=e;obtain⟨v,e1,r1⟩:=h.get q;exact{v,by rw[e1];rfl,r1})<|fX.pick h r
def Zf:KX:=λ_ _=>False
def CW(σ:SD)(src:List<|Option Nat)(g:Av)(tc:l7)(te:TD)(R:KD)(I:vg)(S1:aw):Prop:=∃P:Nat->List D->aw->Prop,P 0 [] S1/\(∀i out S,P i out S->I.ok S)/\(∀i d out S,I.xs[i]?=some d->P i out S->out.length<sizeLine/\g d (oA σ src) S λi7 S3=>tc i7 S3 (λb S4=>if b=true then te i7 S4 (λv S5=>P (i+1) (out++[v]) S5) Zf else P (i+1) out S4) Zf)/\∀out S2,P I.xs.length out S2->∀p,S2 p=none->R (.ref p) (S2.set p<|.lst out)
def CY(ti:Aw)(src:List<|Option Nat)(g:Av)(tc:l7)(te:TD):TD:=λσ S R Z=>ti σ S (λI S1=>CW σ src g tc te R I S1) Z
theorem ED.f{K:Frag}{H:Hp}{e:XK} : ED K H Zf e:=λ_ _ _ z=>z.elim
theorem T.comp{K:Frag}{E E':St->XK}{ti:Aw}{src:List<|Option Nat}{g:TG}{gd:Av}{tc:l7}{te:TD}{τ:St}{H:Hp}{Q:VK}(hg:∀v τ H Q,Tg K gd v τ H Q->g v τ H Q) (h:T K E (CY ti src gd tc te) τ H Q):GN (Ti K E ti) src g (Tt K E' tc) (T K E' te) τ H Q:=by
 obtain⟨σ,S,R,Z,aB,hS,q,hR,hZ⟩:=h;refine{σ,S,_,Z,aB,hS,q,λI S1 J H1 ⟨P,p0,Zg,Zh,pend⟩ hJ s1 k1=>?_,hZ};refine{λi m out H=>m=I.xs.length-i/\i<=I.xs.length/\∃ds S,RvAll K H ds out/\Rs K S H/\P i ds S/\Kp K H1 H,!{zZ _,[],S1,bh,s1,p0,.refl _},?_};rintro i m out H2 ⟨rfl,UR,ds,S2,v2,s2,p2,k2⟩;have ok:=hJ i S2 H2 k2 s2<|Zg _ _ _ p2;by_cases eY:i<I.xs.length;obtain⟨go,yl⟩:=ok.1 _<|ze eY;obtain⟨hz,st⟩:=Zh i _ ds S2 (ze eY) p2;refine .inr {go,by rw[v2.len];exact hz,λx H' hy=>?_};obtain⟨rx,k3,s3⟩:=yl x H' hy;refine hg _ _ _ _ {_,_,S2,_,rx,(((aB.ts k1).ts k2).ts k3).pick src,s3,st,λWN S4 τ4 H4 r4 a4 s4 k4=>?_};refine{WN,S4,_,Zf,a4,s4,r4,λc S5 H5 r5 s5 k5=>?_,.f};cases c with|true=>rw[if_pos rfl]at r5⊢;exact{WN,S5,_,Zf,a4.ts k5,s5,r5,λd S6 v H6 r6 v6 s6 k6=>{_,by omega,rfl,eY,ds++[d],S6,(RvAll.ts (((k3.trans k4).trans k5).trans k6) _ v2).app<|aT v6 bh,s6,r6,(((k2.trans k3).trans k4).trans k5).trans k6},.f}|false=>rw[if_neg zd]at r5⊢;exact{_,by omega,rfl,eY,ds,S5,RvAll.ts ((k3.trans k4).trans k5) _ v2,s5,r5,((k2.trans k3).trans k4).trans k5}
 have e:i=I.xs.length:=by omega
 subst e;exact .inl {ok.2<|zo _,λp hp=>(hR.kp<|k1.trans k2).new s2 hp (pend _ _ p2 p) v2}
noncomputable def Ev.none(X:Cx)(h:X.xe=λ_ _=>False):Ev X false:={X.pn,X.xe,λ_=>E0,{by rintro p2 τ H s e s' _ ⟨_,_,_,_,_,_,_,_,_,z⟩;exact z.elim,λe=>(by cases e),λe=>(by cases e)}}
section
variable{K:Frag}{X:Cx}{b:Bool}{N:List Str}{src:List (Option Nat)}{scope:Scope}{tg iter elt:Expr}{ifs:List Expr}{pos:Pos}{ti:Aw}{g:TG}{gd:Av}{tc:l7}{te:TD}
structure WO(K:Frag)(X:Cx)(ifs:List Expr)(t:l7):Prop where
 of:∀{b:Bool}(y:Ev X b),Rx y.cx ifs<|Tt K y.E t
def uk:l7:=λ_ S R _=>R true S
theorem wK:WO K X [] uk:=⟨λy pins s τ H Q I ⟨σ,S,R,Z,aB,hS,q,hR,hZ⟩=>Ko pins s τ H Q I<|hR true S H q hS<|.refl _⟩
theorem if1{t:l7}(h:DT K X c t):WO K X [c] t:=⟨λy=>Kq<|h.of y⟩
theorem Ax(S:bA X N src scope)(hit:DI K X tg iter ti)(hg:∀C s H ex pn,PG (iQ X N scope C s H ex pn) tg g)(hx:A4 g src)(Zj:∀v τ H Q,Tg K gd v τ H Q->g v τ H Q) (hi:∀C s H ex pn,WO K (iQ X N scope C s H ex pn) ifs tc) (he:∀C s H ex pn,DE K (iQ X N scope C s H ex pn) elt te) (hs:autoParam (∀x,foldedSetIterable iter X.env x=pure x) qQ0) (hc:autoParam (X.calm=true) qQJ):DE K X (.ListComp elt [{tg,iter,ifs,0}] scope pos) (CY ti src gd tc te):=⟨λy=>(Ks (X:=y.cx) (tc:=Tt K (λ_=>E0) tc) (te:=T K (λ_=>E0) te) ⟨S.kind,S.gC,S.loc,S.As,S.len,S.src⟩ hc (hit.of y) hg hx (λC s H ex pn=>(hi C s H ex pn).of<|.none _ rfl) (λC s H ex pn=>(he C s H ex pn).of<|.none _ rfl) hs).mono λ_ _ _ h=>h.comp Zj⟩
theorem RL(hN:X.N.Nodup)(S:bA X N src scope)(hit:DI K X tg iter ti)(hg:∀C s H ex pn,PG (iQ X N scope C s H ex pn) tg g)(hx:A4 g src)(Zj:∀v τ H Q,Tg K gd v τ H Q->g v τ H Q) (hi:∀C s H ex pn,WO K (iQ X N scope C s H ex pn) ifs tc) (he:∀C s H ex pn,DE K (iQ X N scope C s H ex pn) elt te) (Yq:autoParam (X.N[i]?=some x) qQJ) (Es:autoParam (X.env.scope.names.lookup x=some .local) qQJ) (Yr:autoParam (swapsWith (.ListComp elt [{tg,iter,ifs,0}] scope pos) (some<|.Name x pos') Kt.line X.env=pure true) qQJ) (hs:autoParam (∀x,foldedSetIterable iter X.env x=pure x) qQ0) (hc:autoParam (X.calm=true) qQJ):DS K X b (.Assign [.Name x pos'] (.ListComp elt [{tg,iter,ifs,0}] scope pos) Kt) (UH i<|CY ti src gd tc te):=⟨λy=>(A6 (X:=y.cx) (i:=i) (tc:=Tt K (λ_=>E0) tc) (te:=T K (λ_=>E0) te) hN Yq Es ⟨S.kind,S.gC,S.loc,S.As,S.len,S.src⟩ hc (hit.of y) hg hx (λC s H ex pn=>(hi C s H ex pn).of<|.none _ rfl) (λC s H ex pn=>(he C s H ex pn).of<|.none _ rfl) Yr hs).mono <| by rintro D τ H ⟨σ,S,De,Z,aB,hS,q,hD,hZ⟩;exact T.comp Zj {σ,S,_,_,aB,hS,q,λd S1 v H1 r1 v1 s1 k1=>hD.nx _ _ _ _ r1 ((aB.ts k1).set i v1) s1 k1,hZ.at aB}⟩
theorem aZ:∀v τ H Q,Tg K (WK i) v τ H Q->iP i v τ H Q:=by rintro v τ H Q ⟨d,σ,S,R,rv,aB,hS,q,hR⟩;exact hR _ S _ H q (aB.set i rv) hS<|.refl _
end
structure nB(K:Frag)(x qual:Str)(st:Stmt)(f:Addr)(fd:FuncData):Prop where
 ex:∃(oc:Value)(od:Option Addr)(dV kV doc pm:Value)(an:Option Addr)(eL ct:Value)(ML:Array (Option Value)),
  fd=fnOf x qual (bu st) (aW st) (ae st) dV kV doc pm an eL ct/\K.lookup f=some {oc,od,.func fd,ML}/\codeIn K eL qual=true
noncomputable def d_(N:List Str)(ds:List D):SD:=ds.map some++List.replicate (N.length-ds.length) none
section
variable{P:Program}{w:World}{K:Frag}{mg:Str->Option Value}{base:Heap}
theorem nB.okD{x qual:Str}{st:Stmt}{f:Addr}{fd:FuncData}{N ps:List Str}{k:Nat}{sp:jm}(F:nB K x qual st f fd)(S:eK N ps<|ae st)(len:∀ds S R Z,sp ds S R Z->ds.length=ps.length) (gO:∀(eL:Value)(A:Around)(outer:List Env)(s:Shared)(H:Hp)(E:XK)(ds:List D)(S:aw)(R:KD)(Z:KX),bf k (A.deeper<|envOfC qual (ae st) s.heap.objs.size f eL)->sp ds S R Z->∃t,xt K (ig (fi P w mg) P w K mg base N qual (ae st) f eL A outer s H E) true (aW st) t/\t {nx:=λ_ S'=>R .ao S',rt:=R} (d_ N ds) S λ_=>Z):bD P w K mg base (fi P w mg) (k+1) f fd ps (qL K sp):=by
 obtain⟨oc,od,dV,kV,doc,pm,an,eL,ct,ML,rfl,lk,pT⟩:=F.ex;have eX:ps.length<=N.length:=by have:=congrArg List.length S.pre;rw[yh]at this;lia
 refine MK lk pT S (by rintro vs H Q E ⟨ds,S',R,Z,v,_,h,_⟩;exact by rw[v.len];exact len _ _ _ _ h) λA outer s H vs Q E hr ⟨ds,S',R,Z,v,hS,h,hR,hZ⟩=>?_;obtain⟨t,ht,q⟩:=gO eL A outer s H E ds S' R Z hr h;have L:cO (ig (fi P w mg) P w K mg base N qual (ae st) f eL A outer s H E) E:=ud;let y:Ev (ig (fi P w mg) P w K mg base N qual (ae st) f eL A outer s H E) true:={_,(ig (fi P w mg) P w K mg base N qual (ae st) f eL A outer s H E).xe,λ_=>E,{λp2 τ H1 s1 e s' I h=>MQ L p2 τ H1 s1 e s' I h,λ_ p2 τ H1 s1 h' a cls args I hx he=>oz L I hx he,λ_=>PassesOwn.leaving}};refine{Tl K (λ_=>E) t,ht.of y,d_ N ds,S',_,λ_=>Z,?_,hS,q,{λσ S1 τ H1 r a b c=>hR.kp c |>.now b r ip,hR,λ_ _ _ _ z=>z.elim,λ_ _ _ _ z=>z.elim},λσ τ C S1 H1 z a b c=>hZ C S1 H1 z b c};unfold d_ start;refine(l6 v).app ?_;rw[v.len];exact l5 _ _<|by rw[yf]
theorem bD.US(F:bD P w K mg base (fi P w mg) k f fd ps<|qL K sp)(h:∀ds S R Z,Wv ds S R Z->sp ds S R Z):bD P w K mg base (fi P w mg) k f fd ps (qL K Wv):=F.imp <| by rintro vs H Q E ⟨ds,S,R,Z,a,b,c,d⟩;exact{ds,S,R,Z,a,b,h _ _ _ _ c,d}
theorem bD.calm(F:bD P w K mg base (fi P w mg) k f fd ps sp):bD P w K mg base Wy k f fd ps λvs H Q _=>sp vs H Q E0:=by refine{λvs H Q E h=>F.len vs H Q E0 h,λA outer s H args us vs Q E hr e0 hb r h=>yN (F.run A outer s H args us vs Q E0 hr e0 hb r h) λres s' q=>?_};cases res with|error e=>(obtain⟨_,_,_,_,_,_,_,_,_,z⟩:=q;exact z.elim)|ok fl=>cases fl<;>exact q
end
section
variable{K:Frag}{X:Cx}{b:Bool}{i:Nat}{n x:Str}{C0:Addr}{body xb:List Stmt}{GX:Stmt}{np Eu pos:Pos}
theorem PD{t:kB}(h:xt K X false body t):TU X body (λE=>Tl K E t):=by intro pins s σ H D E I q;let y:Ev X false:={X.pn++pins,XE X pins E,E,{λp2 τ H1 s1 e s' I1 hq=>{τ,H1,s1,{⟨I1.ok.mod,I1.ok.kind,I1.ok.glob,I1.ok.blt,I1.ok.above,I1.ok.inj,I1.ok.has,I1.ok.MB,I1.ok.hd,I1.ok.frames,I1.ok.NZ,I1.ok.Sj,I1.ok.bs,I1.ok.AE,I1.ok.wO,I1.ok.AF,I1.ok.i6,I1.ok.D5⟩,I1.os,I1.bare,I1.base,I1.loc,I1.cell,I1.free,I1.c8,λp hp=>I1.pin p<|zS _ hp,I1.aG,I1.len},hq},λe=>(by cases e),λe=>(by cases e)}};have back:∀{av:St}{H':Hp}{s':Shared},Inv y.cx [] av H' s'->Inv X pins av H' s':=λI1=>{⟨I1.ok.mod,I1.ok.kind,I1.ok.glob,I1.ok.blt,I1.ok.above,I1.ok.inj,I1.ok.has,I1.ok.MB,I1.ok.hd,I1.ok.frames,I1.ok.NZ,I1.ok.Sj,I1.ok.bs,I1.ok.AE,I1.ok.wO,I1.ok.AF,I1.ok.i6,I1.ok.D5⟩,I1.os,I1.bare,I1.base,I1.loc,I1.cell,I1.free,I1.c8,λp hp=>I1.pin p<|zS _ hp,I1.aG,I1.len};have I0:Inv y.cx [] σ H s:={⟨I.ok.mod,I.ok.kind,I.ok.glob,I.ok.blt,I.ok.above,I.ok.inj,I.ok.has,I.ok.MB,I.ok.hd,I.ok.frames,I.ok.NZ,I.ok.Sj,I.ok.bs,I.ok.AE,I.ok.wO,I.ok.AF,I.ok.i6,I.ok.D5⟩,I.os,I.bare,I.base,I.loc,I.cell,I.free,I.c8,λp hp=>I.pin p<|by rw[ym]at hp;exact hp,I.aG,I.len};refine yj (h.of y [] s σ H D I0 q) (λf s' r=>?_) λ_ _ r=>r;cases f with|next=>(obtain⟨av,H',I',q⟩:=r;exact{av,H',back I',q})|brk=>(obtain⟨av,H',I',q⟩:=r;exact{av,H',back I',q})|cont=>(obtain⟨av,H',I',q⟩:=r;exact{av,H',back I',q})|ret u=>obtain⟨v,av,H',I',r1,q⟩:=r;exact{v,av,H',back I',r1,q}
noncomputable def uj.less(De:uj)(i:Nat):uj:={nx:=λσ S=>De.nx (σ.set i none) S,rt:=De.rt,bk:=λσ S=>De.bk (σ.set i none) S,ct:=λσ S=>De.ct (σ.set i none) S}
def Zk(K:Frag)(i:Nat)(C0:Addr)(tb ts:kB):kB:=λDe σ S _=>tb De σ S λav C S'=>mroIn K C (.ref C0)=some true/\∀a,S' a=none->ts (De.less i) (av.set i<|some<|.ref a) (S'.set a<|.exc C) λ_=>Zf
theorem Zl{tb ts:kB}(hN:X.N.Nodup)(hm:X.mg x=some (.ref C0))(c0:XC K C0)(hb:xt K X false body tb)(hs:∀a,xt K (X.ji a) false (GX::xb) ts) (hi:autoParam (X.N[i]?=some n) qQJ) (hx:autoParam (X.env.scope.names.lookup n=some .local) qQJ) (Yy:autoParam (Gl X x) qQJ) (i8:autoParam ((x==("__debug__": Str))=false) qQZ) (om:autoParam (X.stack=X.env::X.outer) qQJ) (fr:autoParam (X.env.frame=some X.env.locals) qQJ) (hK:autoParam (X.K=K) qQJ): DS K X b (.Try body [.ExceptHandler (some<|.Name x np) (some n) (GX::xb) Eu] [] [] pos) (Zk K i C0 tb ts):=by subst hK;refine⟨λy=>(Pa (X:=y.cx) (ts:=Tl X.K (λ_=>E0) ts) om fr hN hi hx Yy hm c0 (PD (X:=y.cx) (K:=X.K) (t:=tb) ⟨λz=>hb.of ⟨z.pn,z.xe,z.E,z.ok⟩⟩) (λa=>(hs a).of {y.pn,λ_ _=>False,λ_=>E0,{λp2 τ H s e s' _ ⟨_,_,_,_,_,_,_,_,_,z⟩=>z.elim,λe=>(by cases e),λe=>(by cases e)}}) i8).mono λD τ H ⟨σ,S,De,Z,aB,hS,q,hD,hZ⟩=>?_⟩;refine{σ,S,De,_,aB,hS,q,hD,λuP WJ C S1 H1 ⟨m1,r1⟩ a1 s1 k1=>{C,rfl,m1,λa ha=>?_}};have kn:Kp X.K H1 (upd H1 a<|sR a<|.ref C):=.new ha;have kk:=k1.trans kn;have un:∀{KA:SD}{UT:St}{H8:Hp},fX X.K H8 KA UT->fX X.K H8 (KA.set i none) (UT.set i none):=λr=>r.unset i none;exact{_,_,De.less i,λ_=>Zf,(a1.ts kn).set i<|d9 a,s1.new (c:=.exc C) ha aC,r1 a<|s1.fresh ha,{λKA S8 UT H8 r8 a8 s8 k8=>hD.nx _ _ _ _ r8 (un a8) s8<|kk.trans k8,hD.rt.kp kk,λKA S8 UT H8 r8 a8 s8 k8=>hD.bk _ _ _ _ r8 (un a8) s8<|kk.trans k8,λKA S8 UT H8 r8 a8 s8 k8=>hD.ct _ _ _ _ r8 (un a8) s8<|kk.trans k8},λ_ _ _ _ _ z=>z.elim}
end
section
variable{K:Frag}{X:Cx}{x:Str}{id:String}{e:Expr}{es:List Expr}{p pos:Pos}{t:ir}{r:List D->aw->KD->Prop}
def M4(K:Frag)(f:Value)(r:List D->aw->KD->Prop):Prop:=∀X:Cx,X.K=K->dy X f (Lc K r)
theorem WQ(hc:M4 K (.builtin id) r)(hm:X.mg x=none)(hv:bootBuiltins x=some (.builtin id))(ha:DA K X (e::es) t)(hg:autoParam (Gl X x) qQJ) (hn:autoParam (x≠"__name__") qQZ) (i8:autoParam ((x==("__debug__": Str))=false) qQZ) (he:autoParam (starEach (e::es) X.env=(false,eval e X.env)::starEach es X.env) qQJ) (eX:autoParam ((backTo pos<|starEach es X.env).any (·.1)=false) qQJ) (hK:autoParam (X.K=K) qQJ): DE K X (.Call (.Name x p) (e::es) [] pos) (Uj r t):=⟨λy=>(qt (X:=y.cx) (hc _ hK) hg hm hv (ha.of y) hn i8 he eX).mono λ_ _ _ h=>h.cb⟩
def Zm(K:Frag):List D->aw->KD->Prop:=λds S R=>∃a C c b,ds=[.ref a,c]/\S a=some (.exc C)/\XC K C/\XA K C/\((∃Cd,c=.ref Cd/\kitOne K (.ref C) (.ref Cd)=some b)\/(∃n,c=.ty n/\kitOne K (.ref C) (.type n)=some b)\/∃as:List Addr,c=.tup (as.map D.ref)/\kitAny K (.ref C) (as.map Value.ref)=some b)/\R (.bl b) S
theorem RvAll.refs:∀{as:List Addr}{xs:List V},RvAll K H (as.map D.ref) xs->xs=as.map V.ref|[],xs,h=>h.nil|b::bs,xs,h=>by obtain⟨y,ys,rfl,h1,h2⟩:=h.cons;rw[h1.ref,h2.refs];rfl
theorem um:∀{as:List Addr}{az:List Value},Vals (as.map V.ref) az->az=as.map Value.ref|[],_,.nil=>rfl|_::_,_,.cons r t=>by rw[um t];cases r;rfl
theorem CZ:M4 K (.builtin "isinstance") (Zm K):=by rintro X hK pins s σ H xs us Q I rx ⟨ds,S,R,r,hS,⟨a,C,c,b,e,h1,h2,h3,h4,h⟩,hR⟩;subst hK e;obtain⟨v,u,rfl,r1,r2⟩:=r.two;have ha:H a=some (sR a<|.ref C):=hS a _ h1;rcases h4 with⟨Cd,rfl,h4⟩|⟨n,rfl,h4⟩|⟨as,rfl,h4⟩;exact kM rfl pins s σ H _ us Q I rx {a,C,.ref Cd,.ref Cd,b,by rw[r1.ref,r2.ref],ha,h2,h3,rfl,λu' e=>e,h4,hR.now hS h<|bx _};exact kM rfl pins s σ H _ us Q I rx {a,C,.ty n,.type n,b,by rw[r1.ref,r2.ty],ha,h2,h3,rfl,λu' e=>e,h4,hR.now hS h<|bx _};obtain⟨p,zs,rfl,q,t⟩:=r2.tup;rw[t.refs]at q;exact sW rfl pins s σ H _ us Q I rx {a,C,p,_,b,by rw[r1.ref],ha,h2,h3,q,λaz hv=>by rw[um hv];exact h4,hR.now hS h<|bx _}
end
theorem uo{P:Program}{w:World} : ∀{ss:List Str}{vs:List Value},vs.length=ss.length->(∀(j:Nat)(v:Value),vs[j]?=some v->∃x,ss[j]?=some x/\keyIs (.inr x) v=true)->StrsAre vs ss|[],[],_,_=>.nil|[],_::_,h,_=>by simp at h|_::_,[],h,_=>by simp at h|x::ss,v::vs,h,k=>by obtain⟨x',e,q⟩:=k 0 v rfl;cases e;rcases bb q with⟨i,t,e,_⟩|⟨y,t,e,rfl⟩;cases e;cases e;exact .cons x t<|uo (P:=P) (w:=w) (by simpa using h) λj v e=>k (j+1) v<|by simpa using e
theorem uq:∀{vs:List Value}{ss:List Str},StrsAre vs ss->Vals (ss.map V.str) vs|_,_,.nil=>.nil|_,_,.cons y t h=>.cons ⟨t,rfl⟩<|uq h
theorem KV.Zn{κ:Type}{kvs:List<|κ×V}{vs:List<|κ×Value}(h:KV kvs vs):vs.map (·.1)=kvs.map (·.1):=by unfold KV at h;induction h with|nil=>rfl|cons r t ih=>rw[zJ,zJ,ih,r.1]
theorem Hn{prog:Program}{w:World}{A:Around}{E:Value->Shared->Prop}{s:Shared}{T:String}{r d:Addr}{n:Nat}{P:Nat->Value->Prop}{OK:Heap->Prop}{R:List Value->Shared->Prop}(K:PySem.W.KdlSrc prog w T r d n P OK)(hh:A.handled=none)(aG:OK s.heap)(hn:n<=sizeLine) (h:∀(h':Heap) (tk:Nat) (acc:Array Value),(∀b o,s.heap.get? b=some o->h'.get? b=some o)->s.heap.objs.size<=h'.objs.size->ItemsOf P acc n->R acc.toList {s with heap:=h',toks:=tk}): wpAny (model prog w) A (collect<|.ref r) R E s:=by have eY:=K.there _ aG;unfold collect;refine zb<|wpAny_runValue<|yI entry_proto_collect' ?_;rw[Around.under_plainId PySem.F.plain_proto_collect _];show wpAny _ A.in1 (newList [] >>=λl=>again<|.builtin "list.__iadd__" {[l,.ref r],[]}) _ _ s;refine zb<|yF ?_;refine zw {plainId_quiet PySem.F.plain_list_iadd _,yI entry_list_iadd' ?_};rw[Around.under_plainId PySem.F.plain_list_iadd _];have UU:(s.heap.push {cls:=.type "list",data:=.seq ([]:List Value).toArray}).get? s.heap.objs.size=some {cls:=.type "list",data:=.seq #[]}:=zk _ rfl;show wpAny _ A.in1 (Builtin.List.listExtendWith (.ref s.heap.objs.size) (.ref r)<|.ref s.heap.objs.size) _ _ _;have key:=PySem.W.kdl_extend (A:=A) (s:={s with heap:=s.heap.push {cls:=.type "list",data:=.seq ([]:List Value).toArray}}) (R:=λ(q:Result) (s':Shared)=>∃(h':Heap) (tk:Nat) (xu:Array Value) (c':Nat),q=.ok (.ret<|.ref s.heap.objs.size)/\s'={s with heap:=h',toks:=tk}/\(∀b o,s.heap.get? b=some o->h'.get? b=some o)/\h'.get? s.heap.objs.size=some {cls:=.type "list",dict:=none,data:=.seq xu c',slots:=#[]}/\ItemsOf P xu n) K hh (K.keep _ _ aG λb _ o e=>za _ e) s.heap.objs.size (yk eY.1) (yk eY.2) (.ref s.heap.objs.size) 0 UU (λh' tk xu c' hk p5 qz=>{h',tk,xu,c',rfl,rfl,λb o e=>hk b o (zy<|zt e)<|za _ e,p5,qz}) hn;refine yj key (λfin s' x=>?_) λe s' x=>?_;{cases fin with|done f=>(obtain⟨h',tk,xu,c',e,rfl,hk,p5,qz⟩:=x;cases e;show wpAny _ A (load s.heap.objs.size >>=_) _ _ _;exact zb<|wpAny_load p5<|zw<|h h' tk xu hk (yM<|zt p5) qz)|again c₁=>refine{x.1,yN x.2 λq bM y=>?_};obtain⟨h',tk,xu,c',rfl,rfl,hk,p5,qz⟩:=y;show wpAny _ A (load s.heap.objs.size >>=_) _ _ _;exact zb<|wpAny_load p5<|zw<|h h' tk xu hk (yM<|zt p5) qz};obtain⟨_,_,_,_,e',_⟩:=x;cases e'
theorem vh{X:Cx}(hc:X.calm=true):dy X (.builtin "sorted") (λxs H Q=>∃(a:Addr)(kvs:List (Key×V))(ss:List Str),xs=[.ref a]/\H a=some (.dK kvs)/\kvs.map (·.1)=ss.map Sum.inr/\kvs.length<64/\∀C3,C3.Perm ss->sortedS C3=true->∀l,H l=none->Q (.ref l) (upd H l<|.lst<|C3.map V.str)):=by
 intro pins s σ H xs us Q I r h;obtain⟨a,kvs,ss,rfl,e,hk,hl,q⟩:=h;obtain⟨u,rfl,ru⟩:=vals1 r;cases ru;obtain⟨z,hd,vs,rel,dd⟩:=CL I.aG e;obtain⟨ep,WR⟩:=dd.dictAt;have hlen:vs.length<64:=by rw[<-rel.length];exact hl
 have hh:=I.ok.hd hc;refine PySem.Calls.call_function_entry kind_sorted plain_sorted entry_sorted (args_sorted1 _) ?_;unfold Builtin.«sorted»;refine zb (m:=checkCount "sorted" 1 1 _)<|zw ?_;refine zb<|Hn (A:=X.A.in1) (PySem.W.kdl_dict (knd:=aE X.prog X.w) (kvs:=vs) (ep:=ep) hd) hh WR (by rw[zY];omega) λh' tk acc UW hB qz=>?_;have JH:acc.toList.length=vs.length:=by rw[yp];exact qz.1
 refine zb<|wpAny_newList ?_ (by rw[JH,zY];omega);have hS:StrsAre acc.toList ss:=by have hkv:=rel.Zn;refine uo (P:=X.prog) (w:=X.w) (by rw[JH,<-rel.length];have:=congrArg List.length hk;simpa using this) λj v ev=>?_;obtain⟨k,x,e1,e2⟩:=qz.2 j v (by rw[<-Array.getElem?_toList];exact ev);have e3:(vs.map (·.1))[j]?=some k:=(by rw[zr,e1];rfl);rw[hkv,hk,zr]at e3;cases q2:ss[j]? with|none=>(rw[q2]at e3;cases e3)|some y=>rw[q2]at e3;cases e3;exact⟨y,rfl,e2⟩
 have FL:(h'.push<|seqObj "list" acc.toList.toArray 0).get? h'.objs.size=some (seqObj "list" acc.toList.toArray 0):=zk _ rfl;show wpAny _ _ _ _ _ {s with heap:=h'.push<|seqObj "list" acc.toList.toArray 0,toks:=tk};refine zb<|yJ<|yK slot_list_sort {_,FL,rfl} entry_list_sort (list_sort_treeK (s:={s with heap:=h'.push<|seqObj "list" acc.toList.toArray 0,toks:=tk}) strKind_oneLt FL hS.keysOf (λnC nD rest e=>keyKind_strs<|by rw[<-e];exact hS) (by rw[JH];exact hlen) λeW hp hs=>!⟨?_⟩)<|args_list_sort _;refine zw !⟨?_⟩;obtain⟨C3,h1,h2,h3⟩:=sorted_out_str hS hp hs;obtain⟨e1,he1⟩:=sortedHeap_at (vs:=acc.toList) (n:=0) (out:=(arrOf eW).map (·.2)) FL;have UX:C3.length<=sizeLine:=by rw[h2.length_eq,zY];have:=congrArg List.length hk;rw[zc,zc]at this;omega
 refine{.ref h'.objs.size,_,I.laid (a:=h'.objs.size) (o:=.lst<|C3.map V.str) (λb u hb=>?_) hB {by rw[zc];exact UX,_,e1,uq h1,he1},rfl,q C3 h2 h3 _<|I.aG.fresh hB};have eY:=zt<|UW b u hb;rw[sortedHeap_old (zy eY)<|by rw[ya];exact Nat.lt_succ_of_lt eY,za _<|UW b u hb]
section
variable{K:Frag}
def Le:List D->aw->KD->Prop:=λds S R=>∃(a:Addr)(kvs:List (Key×D))(ss:List Str),ds=[.ref a]/\S a=some (.cY kvs)/\kvs.map (·.1)=ss.map Sum.inr/\kvs.length<64/\∀C3,C3.Perm ss->sortedS C3=true->∀p,S p=none->R (.ref p) (S.set p<|.lst<|C3.map D.str)
theorem bO.keys{κ:Type}{H:Hp}{ks:List<|κ×D}{vs:List<|κ×V}(h:bO K H ks vs):vs.map (·.1)=ks.map (·.1):=by unfold bO at h;induction h with|nil=>rfl|cons r t ih=>rw[zJ,zJ,ih,r.1]
theorem xw:iV K (.builtin "sorted") Le:=by rintro X hK hc pins s σ H xs us Q I rx ⟨ds,S,R,r,hS,⟨a,kvs,ss,e,e1,hk,hl,h⟩,hR⟩;subst e;obtain⟨v,rfl,r1⟩:=r.one;obtain⟨vs,e2,t⟩:=hS.cY e1;exact vh hc pins s σ H _ us Q I rx {a,vs,ss,by rw[r1.ref],e2,by rw[t.keys];exact hk,by rw[t.len];exact hl,λC3 p1 p2 l hl=>hR.new hS hl (h C3 p1 p2 l)<|vd C3}
end
def M5(K:Frag)(a:Addr)(n:Nat):It:={λi H=>∃xs x,jd K H a xs/\xs.length=n/\i<n/\xs[n-1-i]?=some x,λi H x H'=>H'=H/\∀xs,jd K H a xs->xs.length=n->xs[n-1-i]?=some x,λi _=>n<=i}
theorem Ho{P:Program}{w:World}{K:Frag}{tg:Expr}(a it:Addr)(n:Nat):Turn P w K tg (M5 K a n) [it] it (λi h=>i<=n/\h.IsRevIter it a ((n:Int)-1-(i:Int))) where
 mem:=by simp
 obj:=λi h st b hb=>by
  have e:b=it:=by simpa using hb
  subst e
  obtain⟨_,o,e,c,d⟩:=st
  exact{o,e,λv z=>by rw[d]at z;cases z}
 keep:=λi h h' st k=>{st.1,st.2.at λo e=>k it (by simp) o e}
 item:=by
  intro X hP hw hK hc i pins s σ H E I hf st hg
  subst hP hw hK
  obtain⟨xs,x,hq,hn,hi,hx⟩:=hg
  obtain⟨az,rv,p,hz⟩:=I.list hq
  obtain⟨u,hu,ru⟩:=rv.get hx
  obtain⟨f0,f1,f2,f3,f4,f5⟩:=hf it<|by simp
  have e:(n:Int)-1-(i:Int)=((n-1-i:Nat):Int):=by lia
  have hit:=st.2
  rw[e]at hit
  refine wpAny_pyNext_rev_item hit p.isList (x:=u) (by simpa using hu) λh' eW sb=>?_
  have I1:Inv X pins σ H {s with heap:=h'}:=I.turned (t':=s.toks) (λb o hb e=>(sb.2 b hb).trans e) f0 f1 f3 f4 f5
  obtain⟨o,e1,c,d⟩:=id eW
  refine{u,rfl,tQ (s:={s with heap:=h'}) e1 c d (by decide) {x,H,I1,ru,{rfl,λys hy _=>by rw[I.wQ hy hq];exact hx},{hi,?_},λb hb=>(hf b hb).1}}
  have e2:(n:Int)-1-((i+1:Nat):Int)=((n-1-i:Nat):Int)-1:=by lia
  rw[e2];exact eW
 done:=by
  intro X hP hw hK hc i pins s σ H E I hf st hg
  subst hP hw hK
  obtain⟨f0,f1,f2,f3,f4,f5⟩:=hf it<|by simp
  have hg:n<=i:=hg
  have e:(n:Int)-1-(i:Int) = -1:=by have:=st.1;lia
  have hit:=st.2
  rw[e]at hit
  exact wpAny_pyNext_rev_end (I.ok.hd hc) hit λh' eb=>{rfl,I.turned (t':=s.toks) (λb o hb e=>eb b o hb e) f0 f1 f3 f4 f5}
 self:=λ_ _ _ _ _ st h=>wpAny_pyIter_revIter st.2 h
def Zo(K:Frag)(ta:TA):TI:=λσ H R=>ta σ H λvs H1=>∃a xs,vs=[.ref a]/\jd K H1 a xs/\R (M5 K a xs.length) H1
theorem PF{X:Cx}{tg a:Expr}{ta:TA}{p pos:Pos}(hg:Gl X "reversed")(hm:X.mg "reversed"= none)(ha:PA X [a] ta)(hs:starEach [a] X.env=[(false,eval a X.env)]):PI X tg (.Call (.Name "reversed" p) [a] [] pos) (Zo X.K ta):=by
 intro pins s σ H R I h;refine Call_<|gA I hg hm boot_reversed<|PyProof.Rows.callWith_type1 (aX (ha pos pins s σ H _ I h) λus s1 ⟨vs,H1,I1,r1,q1⟩=>?_) hs rfl;obtain⟨l,xs,e,q,hR⟩:=q1;subst e;obtain⟨u,rfl,ru⟩:=vals1 r1;cases ru;obtain⟨az,rv,pl,hz⟩:=I1.list q;have hn:az.toArray.size=xs.length:=by rw[zm,rv.length]
 refine call_reversed_list pl.isList ?_;rw[hn];have st:(s1.heap.push<|revObj l<|(xs.length:Int)-1).IsRevIter s1.heap.objs.size l ((xs.length:Int)-1-((0:Nat):Int)):={_,zk _ rfl,rfl,by show Data.fields _=Data.fields _;simp};have I2:Inv X pins σ H1 {s1 with heap:=s1.heap.push<|revObj l<|(xs.length:Int)-1}:=I1.kept (t':=s1.toks) λb o e=>za _ e;refine wpAny_pyIter_revIter st {_,_,_,_,H1,rfl,I2,Ho l s1.heap.objs.size xs.length,{zZ _,st},λb hb=>?_,hR};have hb:b=s1.heap.objs.size:=by simpa using hb
 subst hb;exact I1.pe (zo _)<|I1.aG.fresh<|zo _
section
variable{K:Frag}{X:Cx}{tg:Expr}
def UY(t:ir):Aw:=λσ S R Z=>t σ S (λds S1=>∃x es,ds=[x]/\ug S1 x es/\R {es.reverse,λS=>ug S x es} S1) Z
theorem irv{t:ir}(hm:X.mg "reversed"= none)(ha:DA K X [a] t)(hg:autoParam (Gl X "reversed") qQJ)(hs:autoParam (starEach [a] X.env=[(false,eval a X.env)]) qQJ)(hK:autoParam (X.K=K) qQJ):DI K X tg (.Call (.Name "reversed" p) [a] [] pos) (UY t):=by subst hK;exact⟨λy=>(PF (X:=y.cx) hg hm (ha.of y) hs).mono <| by rintro τ H R ⟨σ,S,RI,Z,aB,hS,q,hR,hZ⟩;exact{σ,S,_,Z,aB,hS,q,by rintro ds S1 vs H1 ⟨x,es,e,h1,r1⟩ v1 s1 k1;subst e;obtain⟨v,rfl,r⟩:=v1.one;obtain⟨a,xs,rfl,hq,t⟩:=h1.at s1 r;refine{a,xs,rfl,hq,hR _ S1 _ H1 r1 (λi S2 H2 k2 s2 WM=>?_) s1 k1};obtain⟨a',Py,e',FT,t'⟩:=ug.at WM s2<|Rv.ts k2 _ r;cases e';have hl:xs.length=es.length:=t.len;have hl':Py.length=es.length:=t'.len;refine{λd hd=>?_,λh=>by rw[yz]at h;show xs.length<=i;lia};have hi:i<es.length:=(by have:=(zg.mp hd).1;rwa [yz]at this);rw[List.getElem?_reverse hi]at hd;obtain⟨v,e1,r⟩:=t'.get hd;rw[<-hl]at e1;refine{{Py,v,FT,by lia,by lia,e1},λx' H' ⟨e2,e3⟩=>?_};subst e2;have:=e3 Py FT (by lia);rw[e1]at this;cases this;exact{r,.refl _,s2},hZ}⟩
noncomputable def iu(xs ys:List D):List D:=List.zipWith (λa b=>D.tup [a,b]) xs ys
def UZ(t:ir):Aw:=λσ S R Z=>t σ S (λds S1=>∃xs ys,ds=[.tup xs,.tup ys]/\xs.length=ys.length/\R {iu xs ys,λ_=>True} S1) Z
theorem C4:∀v τ H Q,Tg K (M0 2<|Bu (WK i)<|Bu (WK j) MZ) v τ H Q->JZ K 2 (qk (iP i)<|qk (iP j) JY) v τ H Q:=by rintro v τ H Q ⟨d,σ,S,R,rv,aB,hS,⟨ds,e,hl,a,r,e1,b,r',e2,e3,q⟩,hR⟩;subst e e1 e2 e3;obtain⟨p,xs,rfl,hp,t⟩:=rv.tup;obtain⟨v1,v2,rfl,r1,r2⟩:=t.two;exact{p,_,rfl,.of hp,rfl,v1,[v2],rfl,v2,[],rfl,rfl,hR _ S _ H q ((aB.set i r1).set j r2) hS<|.refl _}
end
section
variable{K:Frag}{X:Cx}{b:Bool}{pos:Pos}
def U0(tl ti tv:TD):kB:=λDe σ S Z=>tv σ S (λv S1=>tl σ S1 (λx S2=>ti σ S2 (λy S3=>∃a es i j,x=.ref a/\y=.int i/\S3 a=some (.lst es)/\FN es.length i=some j/\De.nx σ (S3.set a<|.lst<|es.set j v))<|Z σ)<|Z σ)<|Z σ
theorem sls{o i value:Expr}{tl ti tv:TD}{pos':Pos}(ho:DE K X o tl)(hi:DE K X i ti)(hv:DE K X value tv)
  (ha:autoParam (∀v,assign (.Subscript o i pos') X.env v=(do
   let ov <-holding [v] (eval o X.env)
   let iv <-holding [v,ov] (eval i X.env)
   standAt pos'
   holding [v,ov,iv] (setItem ov iv v)
   release [v,ov,iv] [])) qQ0)
  (hs:autoParam (swapsWithSole [.Subscript o i pos'] value pos.line X.env=pure false) qQJ) (hw:autoParam (swappedStores [.Subscript o i pos'] value X.env=pure none) qQJ) (h1:autoParam ((assignEach [.Subscript o i pos'] X.env).map (·.2)=[assign (.Subscript o i pos') X.env]) qQJ):
  DS K X b (.Assign [.Subscript o i pos'] value pos) (U0 tl ti tv):=
 ⟨λy=>(Ga (X:=y.cx) (hv.of y) (Od (ho.of y) (hi.of y) set_list ha) hs hw h1).mono <| by rintro D τ H ⟨σ,S,De,Z,aB,hS,q,hD,hZ⟩;exact
  ⟨σ,S,_,_,aB,hS,q,λv S1 vv H1 r1 v1 s1 k1=>⟨σ,S1,_,_,aB.ts k1,s1,r1,λx S2 xv H2 r2 v2 s2 k2=>⟨σ,S2,_,_,aB.ts<|k1.trans k2,s2,r2,by
   rintro y S3 yv H3 ⟨a,es,i,j,e1,e2,e3,e4,r3⟩ v3 s3 k3
   subst e1 e2
   obtain⟨xs,e5,t⟩:=s3.lst e3
   have kk:=s3.iq (o:=.lst<|xs.set j vv) e3
   refine{a,xs,i,j,(Rv.ts k3 _ v2).ref,v3.int,e5,by rw[t.len];exact e4,?_}
   exact hD.nx _ _ _ _ r3 (aB.ts<|((k1.trans k2).trans k3).trans kk) (s3.put (c:=.lst _) e3 {_,aC,RvAll.ts kk _<|t.set j<|Rv.ts (k2.trans k3) _ v1})<|((k1.trans k2).trans k3).trans kk,hZ.on (k1.trans k2)<|aB.ts<|k1.trans k2⟩,hZ.on k1<|aB.ts k1⟩,hZ.at aB⟩⟩
noncomputable def fI(z:Str):List D:=z.cps.toList.map λc=>D.str ⟨#[c]⟩
def M6(t:TD):Aw:=λσ S R Z=>t σ S (λx S1=>∃z,x=.str z/\R {fI z,λ_=>True} S1) Z
theorem PH{t:TD}(h:DE K X l t):DI K X tg l (M6 t):=⟨λy=>(OZ (X:=y.cx)<|h.of y).mono <| by rintro τ H R ⟨σ,S,RI,Z,aB,hS,q,hR,hZ⟩;exact⟨σ,S,_,Z,aB,hS,q,by
 rintro x S1 v H1 ⟨z,e,r1⟩ v1 s1 k1;subst e;refine{z,v1.str,hR _ S1 _ H1 r1 (λi S2 H2 k2 s2 _=>{λd hd=>?_,λhl=>?_}) s1 k1};unfold fI at hd;rw[zr,Array.getElem?_toList]at hd;cases q:z.cps[i]? with|none=>(rw[q]at hd;cases hd)|some c=>rw[q]at hd;cases hd;refine{(Array.getElem?_eq_some_iff.mp q).1,λx' H' ⟨e1,c',e2,e3⟩=>?_};rw[q]at e2;cases e2;subst e1 e3;exact{e8 _,.refl _,s2}
 unfold fI at hl;rw[zc,yp]at hl;exact hl,hZ⟩⟩
def Lg(t:TD):TD:=λσ S R Z=>t σ S (λx S1=>∃ss:List Str,ug S1 x (ss.map D.str)/\ss.length<4000/\R (.int (iS ss).length) S1) Z
theorem lse{t:TD}(h:DE K X e t)(hm:X.mg "len"= none)(hm':X.mg "set"= none)(hp:autoParam (isPlain e=true) qQJ)(hg:autoParam (Gl X "len") qQJ)(Zp:autoParam (Gl X "set") qQJ)(he:autoParam (starEach [e] X.env=[(false,eval e X.env)]) qQJ) (he2:autoParam (starEach [Expr.Call (.Name "set" p') [e] [] pos'] X.env=[(false,eval (.Call (.Name "set" p') [e] [] pos') X.env)]) qQJ) (hK:autoParam (X.K=K) qQJ) (hc:autoParam (X.calm=true) qQJ): DE K X (.Call (.Name "len" p) [.Call (.Name "set" p') [e] [] pos'] [] pos) (Lg t):=by subst hK;refine⟨λy=>(qt (X:=y.cx) (Ey (X:=y.cx) rfl rfl) hg hm aQ (Ys (tY (X:=y.cx) (Ex (X:=y.cx) rfl rfl rfl hc) Zp hm' O7 (Ys (h.of y) AV hp) (by decide) (by decide) he rfl) AV rfl) (by decide) (by decide) he2 rfl).mono λτ H Q ⟨σ,S,R,Z,aB,hS,q,hR,hZ⟩=>?_⟩;refine{σ,S,_,Z,aB,hS,q,λx S1 v H1 ⟨ss,h1,hl,r1⟩ v1 s1 k1=>?_,hZ};obtain⟨a,xs,rfl,hq,t⟩:=h1.at s1 v1;rw[t.strs]at hq;exact{a,ss,rfl,hq,hl,λl hl=>{l,ss,rfl,aC,hR _ _ _ _ r1 (aP _) (s1.grow hl)<|k1.trans<|.new hl}}
end
theorem fC:bootBuiltins "sorted"= some (.builtin "sorted"):=by trivial
def Sub(S S':aw):Prop:=∀b c,S b=some c->S' b=some c
theorem Sub.refl(S:aw):Sub S S:=λ_ _ h=>h
theorem Sub.trans(a:Sub S S1)(b:Sub S1 S2):Sub S S2:=λp c h=>b p c<|a p c h
theorem Sub.new(h:S p=none):Sub S (S.set p c):=λb c' hb=>by rw[ag<|ia hb h];exact hb
theorem Rs.sub{K:Frag}{S S':aw}{H:Hp}(h:Rs K S' H)(s:Sub S S'):Rs K S H:=λa c e=>h a c<|s a c e
inductive Fo (S':aw) (p:aw->Prop):Prop where
 |mk (S:aw) (h:Sub S S') (r:p S):Fo S' p
theorem fo(h:p S):Fo S p:={S,.refl S,h}
section
variable{P:Program}{w:World}{K:Frag}{mg:Str->Option Value}{base:Heap}
theorem nB.ok{x qual:Str}{st:Stmt}{f:Addr}{fd:FuncData}{N ps:List Str}{k:Nat}{sp:jm}(F:nB K x qual st f fd)(S:eK N ps<|ae st)(len:∀ds S R Z,sp ds S R Z->ds.length=ps.length) (gO:∀(eL:Value)(A:Around)(outer:List Env)(s:Shared)(H:Hp)(E:XK)(ds:List D)(S:aw)(R:KD)(Z:KX),bf k (A.deeper<|envOfC qual (ae st) s.heap.objs.size f eL)->sp ds S R Z->∃t,xt K (ig (fi P w mg) P w K mg base N qual (ae st) f eL A outer s H E) true (aW st) t/\t {nx:=λ_ S'=>Fo S'<|R .ao,rt:=λd S'=>Fo S'<|R d} (d_ N ds) S λ_ C S'=>Fo S'<|Z C):bD P w K mg base (fi P w mg) (k+1) f fd ps (qL K sp):=by
 have F2:bD P w K mg base (fi P w mg) (k+1) f fd ps (qL K λds S R' Z'=>∃R Z,sp ds S R Z/\R'=(λd S'=>Fo S'<|R d)/\Z'=λC S'=>Fo S'<|Z C):=by refine F.okD S (by rintro ds S R Z ⟨R0,Z0,h,_⟩;exact len _ _ _ _ h) λeL A outer s H E ds S R Z hr ⟨R0,Z0,h,e1,e2⟩=>?_;subst e1 e2;exact gO eL A outer s H E ds S R0 Z0 hr h
 refine F2.imp <| by rintro vs H Q E ⟨ds,S,R,Z,v,hS,h,hR,hZ⟩;exact{ds,S,_,_,v,hS,⟨R,Z,h,rfl,rfl⟩,by rintro d S' u H' ⟨S2,sb,r⟩ rv rs kp;exact hR d S2 u H' r rv (rs.sub sb) kp,by rintro C S' H' ⟨S2,sb,r⟩ rs kp;exact hZ C S2 H' r (rs.sub sb) kp}
end
section
variable{K:Frag}{X:Cx}{b:Bool}
def U1(t:kB):kB:=λDe σ S Z=>∃P:SD->aw->Prop,t {De with nx:=λav S'=>Fo S'<|P av} σ S Z/\∀av S',P av S'->De.nx av S'
theorem pA{st:Stmt}{t:kB}(h:DS K X b st t):DS K X b st (U1 t):=⟨λy=>(h.of y).mono <| by rintro D τ H ⟨σ,S,De,Z,aB,hS,⟨P,q,hP⟩,hD,hZ⟩;exact{σ,S,_,Z,aB,hS,q,{by rintro uP S1 WJ H1 ⟨S2,sb,r1⟩ a b c;exact hD.nx _ _ _ _ (hP _ _ r1) a (b.sub sb) c,hD.rt,hD.bk,hD.ct},hZ}⟩
def dFo(t:TD):TD:=λσ S R Z=>t σ S (λd S'=>Fo S'<|R d) Z
theorem EM{t:TD}(h:DE K X e t):DE K X e (dFo t):=⟨λy=>(h.of y).mono <| by rintro τ H Q ⟨σ,S,R,Z,aB,hS,q,hR,hZ⟩;exact{σ,S,_,Z,aB,hS,q,by rintro d S' v H' ⟨S2,sb,r⟩ rv rs kp;exact hR d S2 v H' r rv (rs.sub sb) kp,hZ}⟩
theorem ur(nd:N.Nodup)(h0:autoParam (N[0]?=some a) qQJ)(hx:autoParam (∀C s H ex pn,Loc (iQ X N scope C s H ex pn).env.scope a/\(iQ X N scope C s H ex pn).env.scope.names.lookup a=some .local) qJQ): ∀C s H ex pn,PG (iQ X N scope C s H ex pn) (.Name a p) (iP 0):=λC s H ex pn=>pU (i:=0) nd h0 (hx C s H ex pn).1<|.inr (hx C s H ex pn).2
theorem cg2(nd:N.Nodup)(h0:autoParam (N[0]?=some a) qQJ)(h1:autoParam (N[1]?=some c) qQJ) (hx:autoParam (∀C s H ex pn,Loc (iQ X N scope C s H ex pn).env.scope a/\(iQ X N scope C s H ex pn).env.scope.names.lookup a=some .local) qJQ) (hy:autoParam (∀C s H ex pn,Loc (iQ X N scope C s H ex pn).env.scope c/\(iQ X N scope C s H ex pn).env.scope.names.lookup c=some .local) qJQ) (hl:∀env:Env,(assignEach [.Name a p,.Name c p'] env).length=2/\(assignEach [.Name a p,.Name c p'] env).findIdx? (·.1)=none/\(assignEach [.Name a p,.Name c p'] env).map (·.2)=assign (.Name a p) env::(assignEach [.Name c p'] env).map (·.2)/\(assignEach [.Name c p'] env).map (·.2)=assign (.Name c p') env::(assignEach [] env).map (·.2):=by intro _;exact⟨rfl,rfl,rfl,rfl⟩) (hK:autoParam (X.K=K) qQJ) (hc:autoParam (X.calm=true) qQJ): ∀C s H ex pn,PG (iQ X N scope C s H ex pn) (.Tuple [.Name a p,.Name c p'] j p2) (JZ K 2<|qk (iP 0)<|qk (iP 1) JY):=λC s H ex pn=>by subst hK;have e:=hl (iQ X N scope C s H ex pn).env;exact F_ (X:=iQ X N scope C s H ex pn) hc (ql (pU (i:=0) nd h0 (hx C s H ex pn).1<|.inr (hx C s H ex pn).2) (ql (pU (i:=1) nd h1 (hy C s H ex pn).1<|.inr (hy C s H ex pn).2) CA e.2.2.2) e.2.2.1) e.1 e.2.1
end
theorem qM:∀{ss:List Str}{az:List Value},Vals (ss.map V.str) az->StrsAre az ss|[],_,.nil=>.nil|z::ss,_,.cons r t=>by obtain⟨tk,rfl⟩:=r;exact .cons z tk<|qM t
end L2
namespace HT
open PySem PySem.Spec PyProof.Rows
end HT
namespace L2
open PySem PySem.Spec PyProof.Rows
section
variable{K:Frag}{X:Cx}
theorem Hq(r:Rv K H d v):∀n:Nat,RvAll K H (List.replicate n d) (List.replicate n v)|0=>bh|n+1=>aT r<|Hq r n
def U4:sX:=λx y S R=>∃d n,x=.tup [d]/\y=.int n/\2<=n/\n<=1000/\R (.tup<|List.replicate n.toNat d) S
theorem PJ:nr K (binaryOp .Mult) U4:=by rintro X hK hu pins s σ H x y v u Q I rx ry ⟨d,e,S,R,r1,r2,hS,⟨d0,n,e1,e2,h1,h2,h⟩,hR⟩;subst e1 e2;obtain⟨a,xs,rfl,q,t⟩:=r1.tup;obtain⟨z,rfl,rz⟩:=t.one;exact K8 pins s σ H _ _ v u Q I rx ry {a,z,n,rfl,r2.int,q,by lia,h2,λe=>by lia,λ_ p hp=>hR.Po hS hp h<|Hq rz _}
end
inductive Hr (S:aw):List D->List PyData->Prop where
 |nil:Hr S [] []
 |cons {d:D}{p:PyData}{ds:List D}{ps:List PyData} : Dl S d p->Hr S ds ps->Hr S (d::ds) (p::ps)
section
variable{K:Frag}
noncomputable def Hs(p:Str×D):D:=.tup [.str p.1,p.2]
noncomputable def qN(l:List<|Str×D):List (Key×D):=l.foldl (λc p=>dput c (.inr p.1) p.2) []
theorem C5:∀{kvs:List (Str×D)}{ys:List V},RvAll K H (kvs.map Hs) ys->∃kv:List (Str×V),Prs H ys kv/\∀c c',bO K H c c'->bO K H (kvs.foldl (λc p=>dput c (.inr p.1) p.2) c) (kv.foldl (λc p=>putK c (.inr p.1) p.2) c')|[],ys,h=>(by rw[h.nil];exact{[],{rfl,λi x p e=>(by cases i<;>cases e)},λc c' h=>h})|p::kvs,ys,h=>by obtain⟨y,ys,rfl,r1,r2⟩:=h.cons;obtain⟨b,zs,rfl,hb,tz⟩:=Rv.tup<|show Rv K H (.tup [.str p.1,p.2]) y from r1;obtain⟨v,u,rfl,rv,ru⟩:=tz.two;have ev:=rv.str;subst ev;obtain⟨kv,⟨hl,hp⟩,hf⟩:=C5 r2;refine{(p.1,u)::kv,{by rw[zG,zG,hl],λi x q e1 e2=>?_},λc c' h=>hf _ _<|h.put (.inr p.1) ru};cases i with|zero=>(cases e1;cases e2;exact⟨b,rfl,hb⟩)|succ i=>exact hp i x q e1 e2
def U5:List D->aw->KD->Prop:=λds S R=>∃kvs:List (Str×D),ds=[.tup<|kvs.map Hs]/\∀p,S p=none->R (.ref p) (S.set p<|.cY<|qN kvs)
theorem PK:iV K (.type "dict") U5:=by rintro X hK hc pins s σ H xs us Q I rx ⟨ds,S,R,r,hS,⟨kvs,e,h⟩,hR⟩;subst hK e;obtain⟨v,rfl,r1⟩:=r.one;obtain⟨a,ys,rfl,q,t⟩:=r1.tup;obtain⟨kv,hp,hf⟩:=C5 t;refine Ba hc pins s σ H _ us Q I rx {a,ys,kv,rfl,q,hp,λl hl=>?_};have kn:Kp X.K H (upd H l<|.dK<|CO kv):=.new hl;exact hR _ _ _ _ (h l<|hS.fresh hl) (d9 l) (hS.new (c:=.cY<|qN kvs) hl {_,aC,(hf [] [] .nil).ts kn}) kn
theorem xx(kvs:List<|Key×D)(k k':Key)(d:D):bS (dput kvs k d) k'=if k'=k then some d else bS kvs k':=by
 unfold dput;by_cases hk:(kvs.any λkv=>decide<|kv.1=k)=true;rw[if_pos hk];unfold bS;induction kvs with|nil=>(cases hk)|cons r kvs ih=>rw[zJ,z0,z0];by_cases e:r.1=k;rw[if_pos e];by_cases e2:k'=k;rw[if_pos e2,show decide (r.1=k')=true from zx (e.trans e2.symm)];rfl;rw[if_neg e2,show decide (r.1=k')=false from zq λq=>e2<|q.symm.trans e];by_cases b8:(kvs.any λkv=>decide<|kv.1=k)=true;have:=ih b8;rw[if_neg e2]at this;exact this;have em:kvs.map (λkv=>if kv.1=k then (kv.1,d) else kv)=kvs:=(by(conv=>rhs;rw[<-List.map_id kvs]);refine zX λx hx=>?_;rw[if_neg λq=>b8<|List.any_eq_true.mpr {x,hx,zx q}];rfl);rw[em];rw[if_neg e];have b8:(kvs.any λkv=>decide<|kv.1=k)=true:=(by rw[yO,zq e,yP]at hk;exact hk);by_cases e3:r.1=k';rw[zx e3,if_neg λq=>e<|e3.trans q];rw[zq e3];exact ih b8
 rw[if_neg hk];unfold bS;rw[List.find?_append];have hn:∀x∈kvs,x.1≠k:=λx hx q=>hk<|List.any_eq_true.mpr {x,hx,zx q};by_cases e:k'=k;subst e;rw[if_pos rfl,List.find?_eq_none.mpr λx hx=>by simp[hn x hx]];simp;rw[if_neg e];have:([(k,d)].find? λkv=>decide<|kv.1=k')=none:=by rw[z0,show decide (k=k')=false from zq λq=>e q.symm];rfl
 rw[this,Option.or_none]
theorem EN(l:List<|Str×D)(z:Str):(bS (qN l)<|.inr z).isSome=l.any λp=>decide (p.1=z):=by
 have all:∀(l:List (Str×D))(c:List (Key×D)),(bS (l.foldl (λc p=>dput c (.inr p.1) p.2) c)<|.inr z).isSome=((bS c<|.inr z).isSome||l.any λp=>decide<|p.1=z):=by intro l;induction l with|nil=>intro c;simp|cons p l ih=>intro c;rw[yG,ih,xx,yO];by_cases e:p.1=z;rw[if_pos<|by rw[e],zx e];simp;rw[if_neg λq=>e (yL q).symm,zq e];simp
 exact(all l []).trans<|by rfl
def U6(a:Addr)(kvs:List<|Str×V):sX:=λx y S R=>∃z,x=.str z/\y=.ref a/\R (.bl (kvs.lookup z).isSome) S
theorem cmk{X:Cx}{a b:Expr}{ta tb:TD}{pos:Pos}{w:World}{ad:Addr}{kvs:List<|Str×V}(d:K0 w K ad kvs)(ha:DE K X a ta)(hb:DE K X b tb)(hw:autoParam (X.w=w) qQJ)(hm:autoParam (behindInMarks .In b=false) qQ2)(hK:autoParam (X.K=K) qQJ): DE K X (.Compare a [.In] [b] pos) (Pn (U6 ad kvs) ta tb):=by refine⟨λy=>(CG (X:=y.cx) (r:=Lr K<|U6 ad kvs) ?_ (ha.of y) (hb.of y) hm).mono λ_ _ _ h=>h.op⟩;rintro pins s σ H x y' v u Q I rx ry ⟨d',e,S,R,r1,r2,hS,⟨z,e1,e2,h⟩,hR⟩;subst e1 e2;exact G6 (X:=y.cx) hw hK pins s σ H x y' v u Q I rx ry {z,ad,kvs,r1.str,r2.ref,d,hR.now hS h<|bx _}
end
structure l_(k:Nat)(A:Around):Prop where
 dp:A.depth+3*k+5<recursionLimit
 un:A.units+16*k+200<cLine
theorem l_.deeper(r:l_ (k+1) A)(env:Env):l_ k (A.deeper env):={by have:=r.dp;show A.depth+1+3*k+5<_;lia,by have:=r.un;show A.units+3+16*k+200<_;lia}
theorem l_.depth(r:l_ k A):A.depth<recursionLimit:=by have:=r.dp;lia
theorem bf.h(r:bf k A)(h:j<=k):l_ j (A.mark v):={by have:=r.dp;show A.depth+_+_<_;lia,by have:=r.un;show A.units+_+_<_;lia}
abbrev Zr(P:Program)(w:World)(K:Frag)(mg:Str->Option Value)(base:Heap)(N:List Str)(qual:Str)(scope:Scope)(f:Addr)(cd:Value)(A:Around)(outer:List Env)(s:Shared)(H:Hp):Cx:={ig (fi P w mg) P w K mg base N qual scope f cd A outer s H E0 with calm:=false,xe:=λ_ _=>False}
structure WS(P:Program)(w:World)(K:Frag)(mg:Str->Option Value)(base:Heap)(k:Nat)(f:Addr)(fd:FuncData)(ps:List Str)(sp:jm):Prop where
 len:∀ds S R Z,sp ds S R Z->ds.length=ps.length
 run:∀(A:Around)(outer:List Env)(s:Shared)(H:Hp)(args:Args)(us:List Value)(vs:List V)(Q:VK),l_ k A->uR P w K mg base A outer s H->BindsTo s fd args (ps.zip us)->Vals vs us->qL K sp vs H Q E0 ->
  codeAny (model P w) A (.call (.ref f) args) (CR (fi P w mg) outer P w H s Q E0) s
section
variable{P:Program}{w:World}{K:Frag}{mg:Str->Option Value}{base:Heap}
theorem nB.okH{x qual:Str}{st:Stmt}{f:Addr}{fd:FuncData}{N ps:List Str}{k:Nat}{sp:jm}(F:nB K x qual st f fd)(S:eK N ps<|ae st)(len:∀ds S R Z,sp ds S R Z->ds.length=ps.length) (gO:∀(eL:Value)(A:Around)(outer:List Env)(s:Shared)(H:Hp)(ds:List D)(S:aw)(R:KD)(Z:KX),l_ k (A.deeper<|envOfC qual (ae st) s.heap.objs.size f eL)->sp ds S R Z->∃t,xt K (Zr P w K mg base N qual (ae st) f eL A outer s H) false (aW st) t/\t {nx:=λ_ S'=>Fo S'<|R .ao,rt:=λd S'=>Fo S'<|R d} (d_ N ds) S λ_=>Zf):WS P w K mg base (k+1) f fd ps sp:=by
 obtain⟨oc,od,dV,kV,doc,pm,an,eL,ct,ML,rfl,lk,pT⟩:=F.ex;have eX:ps.length<=N.length:=by have:=congrArg List.length S.pre;rw[yh]at this;lia
 refine{len,λA outer s H args us vs Q hr e0 hb r MM=>?_};obtain⟨ds,S',R,Z,v,hS,h,hR,hZ⟩:=MM;have hl:vs.length=ps.length:=by rw[v.len];exact len _ _ _ _ h
 have KX:K.In s.heap:=e0.mod.MA.keeps λb o e=>(e0.bs b o e).1;have lim:s.heap.NoLimit:=e0.mod.nolimit.keeps λb o e=>(e0.bs b o e).1;have Gs:∀y∈ps.zip us,(ae st).names.lookup y.1=some .local\/((ae st).names.lookup y.1=some .cell/\((cellsFrom (s.heap.objs.size+1) (ae st).names []).lookup y.1).isSome=true):=by rintro⟨n,v⟩ hy;rcases S.par n (List.of_mem_zip hy).1 with q|q;exact .inl q;exact .inr {q,cellsFrom_some _ _ _<|.inl q}
 refine codeAny_call_function hr.depth (KX _ _ lk) rfl S.co S.gen rfl (codeRec_of KX pT)<|hb _ _ _ _ ?_;refine wpAny_newFunctionEnv_cells S.kind Gs λenv he s1 x=>?_;subst he;refine{lim.keeps x.toInCall.keep,codeAny_func ?_};obtain⟨t,ht,hq⟩:=gO eL A outer s H ds S' R Z (hr.deeper _) h;have e1:uR P w K mg base {A with handled:=none} outer s H:=⟨e0.frames,e0.mod,e0.bs,e0.AE,e0.i6,e0.D5,e0.aG,e0.bare⟩;have J:Inv (ig (fi P w mg) P w K mg base N qual (ae st) f eL {A with handled:=none} outer s H E0) [] (start N vs) H s1:=tX S rfl e1 hl r x;have I:Inv (Zr P w K mg base N qual (ae st) f eL A outer s H) [] (start N vs) H s1:={{J.ok.mod,J.ok.kind,J.ok.glob,J.ok.blt,J.ok.above,J.ok.inj,J.ok.has,J.ok.MB,λz=>(nomatch (show false=true from z)),Around.frames_deeper e0.frames,J.ok.NZ,J.ok.Sj,J.ok.bs,J.ok.AE,J.ok.wO,J.ok.AF,J.ok.i6,J.ok.D5},J.os,J.bare,J.base,J.loc,J.cell,J.free,J.c8,J.pin,J.aG,J.len};let y:Ev (Zr P w K mg base N qual (ae st) f eL A outer s H) false:={[],λ_ _=>False,λ_=>E0,{by rintro p2 τ H1 s1 e s' _ ⟨_,_,_,_,_,_,_,_,_,z⟩;exact z.elim,λe=>(by cases e),λe=>(by cases e)}};have om:fX K H (d_ N ds) (start N vs):=by unfold d_ start;refine(l6 v).app ?_;rw[v.len];exact l5 _ _<|by rw[yf]
 refine yj (ht.of y [] s1 (start N vs) H {nx:=λ_ H'=>Q .ao H',rt:=Q} I {d_ N ds,S',_,λ_=>Zf,om,hS,hq,{by rintro σ S1 τ H1 ⟨S2,sb,r⟩ a b c;exact hR.kp c |>.now (b.sub sb) r ip,by rintro d S' u H' ⟨S2,sb,r⟩ rv rs kp;exact hR d S2 u H' r rv (rs.sub sb) kp,λ_ _ _ _ z=>z.elim,λ_ _ _ _ z=>z.elim},λ_ _ _ _ _ z=>z.elim}) (λfl s' hs=>?_) λe s' hs=>hs.elim;have fin:∀{av:St}{H':Hp}{v:V}{u:Value},Inv y.cx [] av H' s'->RelV v u->Q v H'->CE outer P w H s Q u s':=λ{av H' v u} J rv q=>⟨v,H',J.os,J.bare,J.base,J.aG,rv,q⟩;cases fl with|ret u=>(obtain⟨v,av,H',J,rv,q⟩:=hs;exact fin J rv q)|next=>(obtain⟨av,H',J,q⟩:=hs;exact fin (v:=V.ao) (u:=Value.none) J rfl q)|brk=>(obtain⟨_,_,_,q⟩:=hs;exact False.elim q)|cont=>obtain⟨_,_,_,q⟩:=hs;exact False.elim q
end
section
variable{K:Frag}{X:Cx}{k:Nat}{f:Addr}{fd:FuncData}{ps:List Str}{x:Str}{p pos:Pos}{e:Expr}{es:List Expr}{sp:jm}
def PL(sp:jm)(t:ir):TD:=λσ S R Z=>t σ S (λds S1=>sp ds S1 R Zf) Z
theorem cfh{t:ir}(F:WS X.prog X.w K X.mg X.base k f fd ps sp)(hr:l_ k X.A)(hm:X.mg x=some (.ref f))(hk:keepIn K (.ref f)=true)(hb:Binds K fd ps [])(ha:DA K X (e::es) t) (hg:autoParam (Gl X x) qQJ) (i8:autoParam ((x==("__debug__": Str))=false) qQZ) (he:autoParam (starEach (e::es) X.env=(false,eval e X.env)::starEach es X.env) qQJ) (eX:autoParam ((backTo pos<|starEach es X.env).any (·.1)=false) qQJ) (hK:autoParam (X.K=K) qQJ): DE K X (.Call (.Name x p) (e::es) [] pos) (PL sp t):=by
 subst hK;refine⟨λy=>?_⟩;rintro p2 s τ H Q I ⟨σ,S,R,Z,aB,hS,q,hR,hZ⟩;refine yD<|ic I hg hm ?_ i8;refine callWith_K (h₀:=X.base) I.ok.mod.MA hk (aX (ha.of y pos p2 s τ H (λvs H1=>qL X.K sp vs H1 Q E0) I {σ,S,_,Z,aB,hS,q,λes S1 xs H1 r1 v1 s1 k1=>{es,S1,R,Zf,v1,s1,r1,hR.kp k1,λ_ _ _ z=>z.elim},hZ}) λus s1 ⟨vs,H1,I1,r,q⟩=>{I1.ku,?_}) he eX;have hl:(us++([]:List Value)).length=ps.length:=by obtain⟨ds,S',R',Z',v',_,h',_⟩:=q;rw[ym,<-r.length,v'.len];exact F.len _ _ _ _ h'
 have EO:=hb s1 us I1.ku hl;rw[ym]at EO;refine wpAny_call<|yN (F.run X.A X.stack s1 H1 {us,[]} us vs Q hr I1.OE EO r q) λres s' hq=>?_;cases res with|error e=>(obtain⟨_,_,_,_,_,_,_,_,_,z⟩:=hq;exact z.elim)|ok fl=>cases fl with|ret u=>exact I1.after hq|next=>exact False.elim hq|brk=>exact False.elim hq|cont=>exact False.elim hq
end
def PEg(pre:Nat)(X:Cx)(e:Expr)(t:TE):Prop:=∀(pins:List (Addr×Obj))(s:Shared)(σ:St)(H:Hp)(Q:VK),Inv X pins σ H s->pre<=s.toks->t σ H Q->wpAny (model X.prog X.w) X.A (eval e X.env) (λu s'=>EP X pins σ Q u s'/\1<=s'.toks) X.xe s
structure DEg(pre:Nat)(K:Frag)(X:Cx)(e:Expr)(t:TD):Prop where
 of:∀{b:Bool}(y:Ev X b),PEg pre y.cx e<|T K y.E t
theorem Zs{a b:Str}(h:a.cps.toList=b.cps.toList):a=b:=by obtain⟨⟨x⟩⟩:=a;obtain⟨⟨y⟩⟩:=b;cases h;rfl
end L2
namespace HT
open PySem PySem.Spec PyProof.Rows
end HT
namespace L2
open PySem PySem.Spec PyProof.Rows
section
variable{K:Frag}{X:Cx}
def U7:He:=λx ds S R=>∃a es fs,x=.ref a/\ds=[.tup fs]/\S a=some (.lst es)/\es.length+fs.length<=sizeLine/\R .ao (S.set a<|.lst<|es++fs)
theorem ER:Pp K "list.extend" U7:=by rintro X hK pins s σ H x xs v us Q I rx rs ⟨d,ds,S,R,r1,r2,hS,⟨a,es,fs,e1,e2,e3,hl,h⟩,hR⟩;subst e1 e2;obtain⟨w0,rfl,q2⟩:=r2.one;obtain⟨zs,e5,t⟩:=hS.lst e3;obtain⟨p,ys,rfl,q,t2⟩:=q2.tup;exact Bq pins s σ H x _ v us Q I rx rs {a,p,zs,ys,r1.ref,rfl,e5,q,by rw[t.len,t2.len];exact hl,hR.put hS e3 h ip<|t.app t2}
end
section
variable{K:Frag}{X:Cx}{E:XK}
structure DEx(K:Frag)(X:Cx)(E:XK)(e:Expr)(t:TD):Prop where
 of:∀(y:Ev X true),y.E=(λ_=>E)->cO y.cx E->PE y.cx e (T K y.E t)
structure DAx(K:Frag)(X:Cx)(E:XK)(es:List Expr)(t:ir):Prop where
 of:∀(y:Ev X true),y.E=(λ_=>E)->cO y.cx E->PA y.cx es (Ta K y.E t)
structure DSx(K:Frag)(X:Cx)(E:XK)(b:List Stmt)(t:kB):Prop where
 of:∀(y:Ev X true),y.E=(λ_=>E)->cO y.cx E->AI y.cx b (Tl K y.E t)
variable{N:List Str}{src:List (Option Nat)}{scope:Scope}{tg iter elt:Expr}{ifs:List Expr}{ti:Aw}{g:TG}{gd:Av}{tc:l7}{te:TD}
end
open PySem.Builtin PySem.Builtin.Str
structure M3(X:Cx)(o:Expr)(m:Str)(apos:Pos)(e f g:Expr)(aN:Pos):Prop where
 base:attributeBase o m X.env (eval o X.env)=eval o X.env
 FO:((backTo aN<|starEach [e,f,g] X.env).all (λx=>!x.1)&&(backToKw aN<|keywordEach [] X.env).all (λx=>x.1.isSome)
  && decide (([e,f,g]:List Expr).length+([]:List Keyword).length+(if ([]:List Keyword).isEmpty then 0 else 1)<30))=true
 line:(apos.endLine==aN.line)=true
 trees:backTo aN (starEach [e,f,g] X.env)=[(false,eval e X.env),(false,eval f X.env),(false,eval g X.env)]
section
variable{X:Cx}{t:TE}
def PAg(pre:Nat)(X:Cx)(es:List Expr)(t:TA):Prop:=∀(pos:Pos)(pins:List (Addr×Obj))(s:Shared)(σ:St)(H:Hp)(Q:List V->Hp->Prop),Inv X pins σ H s->pre<=s.toks->t σ H Q->wpAny (model X.prog X.w) X.A (spliced<|backTo pos<|starEach es X.env) (AP X pins σ Q) X.xe s
end
section
variable{K:Frag}{X:Cx}
structure DAg(pre:Nat)(K:Frag)(X:Cx)(es:List Expr)(t:ir):Prop where
 of:∀{b:Bool}(y:Ev X b),PAg pre y.cx es<|Ta K y.E t
end
structure Gh(a₀:Array Keyed)(g:Nat->Nat)(xs:Array Keyed):Prop where
 at_:∀k,k<a₀.size->xs[k]?=a₀[g k]?
 lt:∀k,k<a₀.size->g k<a₀.size
 inj:∀i j,i<a₀.size->j<a₀.size->g i=g j->i=j
def Log(κ:KeyKind)(a₀:Array Keyed)(i j:Nat):Prop:=κ.klt (KK κ a₀ i) (KK κ a₀ j)\/(KK κ a₀ i=KK κ a₀ j/\i<j)
def Bx(κ:KeyKind)(a₀:Array Keyed)(g:Nat->Nat)(k:Nat):Prop:=∀i j,i<j->j<k->Log κ a₀ (g i) (g j)
def WT(κ:KeyKind)(a₀:Array Keyed)(g:Nat->Nat)(k:Nat):Prop:=∀i j,i<j->j<k->Log κ a₀ (g j) (g i)
def ES(g:Nat->Nat)(m n:Nat):Prop:=∀k,m<=k->k<n->g k=k
noncomputable def Ht(g:Nat->Nat)(i j k:Nat):Nat:=if i<=k/\k<j then g (i+j-1-k) else g k
noncomputable def Lh(g:Nat->Nat)(src l k:Nat):Nat:=if k=l then g src else if l<k/\k<=src then g (k-1) else g k
section
variable{κ:KeyKind}{a₀ xs:Array Keyed}{g:Nat->Nat}
theorem Log.kle(h:Log κ a₀ i j):κ.kle (KK κ a₀ i) (KK κ a₀ j):=by rcases h with h|⟨h,_⟩;exact KeyOrd.kle_of_klt h;rw[h];exact KeyOrd.kle_refl _
theorem M7(h:κ.kle (KK κ a₀ i)<|KK κ a₀ j)(hl:i<j):Log κ a₀ i j:=by cases q:κ.blt (KK κ a₀ i) (KK κ a₀ j) with|true=>exact .inl q|false=>exact .inr {KeyOrd.kle_antisymm h q,hl}
theorem Gh.low(h:Gh a₀ g xs)(t:ES g m a₀.size)(hm:m<=a₀.size)(hi:i<m):g i<m:=by refine Nat.lt_of_not_le λq=>?_;have h1:=h.lt i (by lia);have h2:=h.inj (g i) i h1 (by lia)<|t (g i) q h1;lia
theorem Gh.key(h:Gh a₀ g xs)(hk:k<a₀.size):KK κ xs k=KK κ a₀ (g k):=KK_congr<|h.at_ k hk
theorem Gh.mirror(h:Gh a₀ g xs)(hs:xs.size=a₀.size)(hj:j<=a₀.size):Gh a₀ (Ht g i j) (mirror xs i j<|(j-i)/2) where
 at_:=λk hk=>by
  rw[getElem?_mirror_all<|by lia]
  unfold Ht
  by_cases q:i<=k/\k<j
  ·rw[if_pos q,if_pos q];exact h.at_ _<|by lia
  ·rw[if_neg q,if_neg q];exact h.at_ _ hk
 lt:=λk hk=>by
  unfold Ht
  by_cases q:i<=k/\k<j
  ·rw[if_pos q];exact h.lt _<|by lia
  ·rw[if_neg q];exact h.lt _ hk
 inj:=λa b ha hb e=>by
  unfold Ht at e
  by_cases q:i<=a/\a<j<;>by_cases r:i<=b/\b<j
  ·rw[if_pos q,if_pos r]at e;have:=h.inj _ _ (by lia) (by lia) e;lia
  ·rw[if_pos q,if_neg r]at e;have:=h.inj _ _ (by lia) (by lia) e;lia
  ·rw[if_neg q,if_pos r]at e;have:=h.inj _ _ (by lia) (by lia) e;lia
  ·rw[if_neg q,if_neg r]at e;exact h.inj _ _ ha hb e
theorem Gh.bubble(h:Gh a₀ g xs)(hs:xs.size=a₀.size)(hl:l<=src)(hj:src<a₀.size):Gh a₀ (Lh g src l) (bubble xs src<|src-l) where
 at_:=λk hk=>by
  rw[getElem?_bubble (by lia) _<|by lia,show src-(src-l)=l by lia]
  unfold Lh
  by_cases q:k=l
  ·rw[if_pos q,if_pos q];exact h.at_ _ hj
  ·rw[if_neg q,if_neg q]
   by_cases r:l<k/\k<=src
   ·rw[if_pos r,if_pos r];exact h.at_ _<|by lia
   ·rw[if_neg r,if_neg r];exact h.at_ _ hk
 lt:=λk hk=>by
  unfold Lh
  by_cases q:k=l
  ·rw[if_pos q];exact h.lt _ hj
  ·rw[if_neg q]
   by_cases r:l<k/\k<=src
   ·rw[if_pos r];exact h.lt _<|by lia
   ·rw[if_neg r];exact h.lt _ hk
 inj:=λa b ha hb e=>by
  unfold Lh at e
  repeat' split at e
  all_goals (have:=h.inj _ _ (by lia) (by lia) e;lia)
theorem iw(h:i<=k/\k<j):Ht g i j k=g (i+j-1-k):=by unfold Ht;rw[if_pos h]
theorem gb(h:¬(i<=k/\k<j)):Ht g i j k=g k:=by unfold Ht;rw[if_neg h]
end
section
variable{prog:Program}{w:World}{A:Around}{E:Value->Shared->Prop}{s:Shared}{a₀:Array Keyed}{κ:KeyKind}
theorem M8{st:SortSt}{g:Nat->Nat}{a top:Nat}{Q:AscSt->SortSt->Prop}(hO:κ.OneLt)(h0:KeysOf κ a₀)(ht:top<=a₀.size)(h1:1<=a)(h2:a<=top)(B:SBase a₀ st)(G:Gh a₀ g<|arrOf st)(T:ES g a a₀.size)(U:Bx κ a₀ g a) (h:∀n,a<=n->n<=top->Bx κ a₀ g n->(n=top\/κ.klt (KK κ a₀<|g n) (KK κ a₀<|g<|n-1))->Q (none,n) st):wpS (model prog w) A E s (ascLoop a top) Q st:=by
 unfold ascLoop;refine wpS_forRange (I:=λx c t=>t=st/\c=(none,x)/\Bx κ a₀ g x) ?_ ?_ ⟨rfl,rfl,U⟩;rintro x c t Ew G0 ⟨rfl,rfl,V⟩;dsimp only;refine wpS_bind<|wpS_ltKK hO B h0 (by lia) (by lia) ?_;rw[G.key<|by lia,G.key<|by lia];cases q:κ.blt (KK κ a₀<|g x) (KK κ a₀<|g<|x-1) with|true=>exact wpS_pure (h x Ew (by lia) V<|.inr q)|false=>refine wpS_pure {rfl,rfl,λi j lg hj=>?_};rcases Nat.lt_or_ge j x with z|z;exact V i j lg z;obtain rfl:j=x:=(by lia);have lw:=G.low (m:=j) (λk hk b8=>T k (by lia) b8) (by lia) lg;rw[T j Ew<|by lia]at q⊢;refine M7 ?_ lw;rcases Nat.lt_or_ge i (j-1) with y|y;exact KeyOrd.kle_trans (V i (j-1) y<|by lia).kle q;obtain rfl:i=j-1:=(by lia);exact q
 rintro c t ⟨rfl,rfl,V⟩;rw[show max a top=top by lia]at V⊢;exact h top h2 (zo _) V<|.inl rfl
theorem Hu{st:SortSt}{g:Nat->Nat}{n top:Nat}{Q:Option Nat->SortSt->Prop}(hO:κ.OneLt)(h0:KeysOf κ a₀)(ht:top<=a₀.size)(h1:1<=n)(h2:n<=top)(B:SBase a₀ st)(G:Gh a₀ g<|arrOf st)(T:ES g n a₀.size)(D:WT κ a₀ g n) (h:∀m g' eW,SBase a₀ eW->Gh a₀ g' (arrOf eW)->ES g' m a₀.size->1<=m->m<=top->Bx κ a₀ g' m->Q (some m) eW):wpS (model prog w) A E s (tail3 n top) Q st:=by
 unfold tail3;refine wpS_bind<|wpS_reverse ?_;have B':SBase a₀ (setArr st<|mirror (arrOf st) 0 n<|(n-0)/2):=B.setArr<|mirror_perm _ _ _ _;have G':Gh a₀ (Ht g 0 n) (arrOf<|setArr st<|mirror (arrOf st) 0 n<|(n-0)/2):=G.mirror B.size (by lia);have T':ES (Ht g 0 n) n a₀.size:=λk hk b8=>by rw[gb<|by lia];exact T k hk b8
 refine wpS_bind<|M8 hO h0 ht h1 h2 B' G' T' (λi j lg hj=>?_) λm hm1 M9 V _=>wpS_pure<|h m _ _ B' G' (λk hk b8=>T' k (by lia) b8) (by lia) M9 V;rw[iw<|by lia,iw<|by lia];exact D _ _ (by lia)<|by lia
structure JK(κ:KeyKind)(a₀:Array Keyed)(g:Nat->Nat)(x q:Nat):Prop where
 le:q+1<=x
 tl:ES g (x-(q+1)) a₀.size
 dn:∀i j,i<j->j<x->i<x-(q+1)->Log κ a₀ (g j) (g i)
 eq:∀i,x-(q+1)<=i->i<x->KK κ a₀ (g i)=KK κ a₀ (g<|x-1)
theorem JK.full(F:JK κ a₀ g x q)(hx:x<=a₀.size):WT κ a₀ (Ht g (x-(q+1)) x) x:=λi j lg hj=>by have le:=F.le;by_cases hi:i<x-(q+1);rw[gb (k:=i)<|by lia];by_cases WU:j<x-(q+1);rw[gb<|by lia];exact F.dn i j lg hj hi;rw[iw<|by lia];exact F.dn i _ (by lia) (by lia) hi;rw[iw<|by lia,iw<|by lia];refine .inr {(F.eq _ (by lia)<|by lia).trans (F.eq _ (by lia)<|by lia).symm,?_};rw[F.tl _ (by lia)<|by lia,F.tl _ (by lia)<|by lia];lia
theorem JK.M_(F:JK κ a₀ g x 0):WT κ a₀ g x:=λi j lg hj=>F.dn i j lg hj<|by lia
theorem JK.next(D:WT κ a₀ g x)(T:ES g x a₀.size)(hx:x<a₀.size)(h1:1<=x)(hl:κ.klt (KK κ a₀<|g x)<|KK κ a₀<|g<|x-1):JK κ a₀ g (x+1) 0 where
 le:=by lia
 tl:=λk hk b8=>T k (by lia) b8
 dn:=λi j lg hj hi=>by
  by_cases WU:j<x
  ·exact D i j lg WU
  ·obtain rfl:j=x:=by lia
   refine .inl ?_
   by_cases q:i=j-1
   ·rw[q];exact hl
   ·exact KeyOrd.klt_of_klt_of_kle hl (D i (j-1) (by lia)<|by lia).kle
 eq:=λi hi hj=>by rw[show i=x+1-1 by lia]
theorem PM{st:SortSt}{g:Nat->Nat}{n top:Nat}{Q:DescSt->SortSt->Prop}(hO:κ.OneLt)(h0:KeysOf κ a₀)(ht:top<=a₀.size)(h1:1<=n)(h2:n<=top)(B:SBase a₀ st)(G:Gh a₀ g<|arrOf st)(F:JK κ a₀ g n 0) (h:∀m q g' eW,SBase a₀ eW->Gh a₀ g' (arrOf eW)->n<=m->m<=top->JK κ a₀ g' m q->Q (none,m,q) eW):wpS (model prog w) A E s (descLoop n top) Q st:=by
 unfold descLoop;refine wpS_forRange (I:=λx c t=>∃q g',c=(none,x,q)/\SBase a₀ t/\Gh a₀ g' (arrOf t)/\JK κ a₀ g' x q) ?_ ?_ {0,g,rfl,B,G,F};rintro x c t Ew G0 ⟨q,g',rfl,B',G',F'⟩;have le:=F'.le;dsimp only;refine wpS_bind<|wpS_ltKK hO B' h0 (by lia) (by lia) ?_;rw[G'.key<|by lia,G'.key<|by lia];cases hl:κ.blt (KK κ a₀<|g' x) (KK κ a₀<|g'<|x-1) with|true=>(simp only[if_true];by_cases hq:q>0;rw[if_pos hq];refine wpS_bind<|wpS_reverse<|wpS_pure {0,_,rfl,B'.setArr<|mirror_perm _ _ _ _,G'.mirror B'.size<|by lia,?_};refine .next (F'.full<|by lia) (λk hk b8=>?_) (by lia) (by lia) ?_;rw[gb<|by lia];exact F'.tl k (by lia) b8;rw[gb<|by lia,iw<|by lia,F'.eq (x-(q+1)+x-1-(x-1)) (by lia)<|by lia];exact hl;rw[if_neg hq];obtain rfl:q=0:=(by lia);exact wpS_pure {0,g',rfl,B',G',.next F'.M_ (λk hk b8=>F'.tl k (by lia) b8) (by lia) (by lia) hl})|false=>simp only[Bool.false_eq_true,if_false];refine wpS_bind<|wpS_ltKK hO B' h0 (by lia) (by lia) ?_;rw[G'.key<|by lia,G'.key<|by lia];cases hg:κ.blt (KK κ a₀<|g'<|x-1) (KK κ a₀<|g' x) with|true=>exact wpS_pure (h x q g' t B' G' Ew (by lia) F')|false=>have e:KK κ a₀ (g' x)=KK κ a₀ (g'<|x-1):=KeyOrd.kle_antisymm hg hl;refine wpS_pure {q+1,g',rfl,B',G',{by lia,λk hk b8=>F'.tl k (by lia) b8,λi j lg hj hi=>?_,λi hi hj=>?_}};by_cases WU:j<x;exact F'.dn i j lg WU (by lia);obtain rfl:j=x:=(by lia);have:=F'.dn i (j-1) (by lia) (by lia) (by lia);rcases this with z|⟨_,z⟩;exact .inl (by rw[e];exact z);rw[F'.tl (j-1) (by lia)<|by lia]at z;have:=G'.low (m:=j-(q+1)) F'.tl (by lia) (i:=i) (by lia);lia;rw[show x+1-1=x by lia];by_cases UR:i=x;rw[UR];rw[e];exact F'.eq i (by lia)<|by lia
 rintro c t ⟨q,g',rfl,B',G',F'⟩;rw[show max n top=top by lia]at F'⊢;exact h top q g' t B' G' h2 (zo _) F'
theorem Hv{st:SortSt}{g:Nat->Nat}{n top:Nat}{Q:Option Nat->SortSt->Prop}(hO:κ.OneLt)(h0:KeysOf κ a₀)(ht:top<=a₀.size)(h2:n+1<=top)(B:SBase a₀ st)(G:Gh a₀ g<|arrOf st)(F:JK κ a₀ g (n+1) 0) (h:∀m g' eW,SBase a₀ eW->Gh a₀ g' (arrOf eW)->ES g' m a₀.size->1<=m->m<=top->Bx κ a₀ g' m->Q (some m) eW):wpS (model prog w) A E s (descPart n top) Q st:=by
 unfold descPart;refine wpS_bind<|wpS_lift<|wpAny_rule {rfl,?_};refine wpS_bind<|PM hO h0 ht (by lia) h2 B G F λm q g' eW B' G' hm1 M9 F'=>?_;have le:=F'.le;dsimp only;by_cases hq:q>0;rw[if_pos hq];refine wpS_bind<|wpS_reverse<|Hu hO h0 ht (by lia) M9 (B'.setArr<|mirror_perm _ _ _ _) (G'.mirror B'.size<|by lia) (λk hk b8=>?_) (F'.full<|by lia) h;rw[gb<|by lia];exact F'.tl k (by lia) b8;rw[if_neg hq];obtain rfl:q=0:=by lia
 exact Hu hO h0 ht (by lia) M9 B' G' (λk hk b8=>F'.tl k (by lia) b8) F'.M_ h
theorem U8{st:SortSt}{g:Nat->Nat}{top:Nat}{Q:Option Nat->SortSt->Prop}(hO:κ.OneLt)(h0:KeysOf κ a₀)(ht:top<=a₀.size)(h1:1<=top)(B:SBase a₀ st)(G:Gh a₀ g<|arrOf st)(T:ES g 0 a₀.size) (h:∀m g' eW,SBase a₀ eW->Gh a₀ g' (arrOf eW)->ES g' m a₀.size->1<=m->m<=top->Bx κ a₀ g' m->Q (some m) eW):wpS (model prog w) A E s (countRun' 0 top) Q st:=by
 rw[countRun0_eq];refine wpS_bind<|M8 hO h0 ht (zo 1) h1 B G (λk hk b8=>T k (by lia) b8) (λi j lg hj=>by lia) λn Na MI U hor=>?_;dsimp only;have Tn:∀m,ES g m a₀.size:=λm k hk b8=>T k (by lia) b8;by_cases Zt:n=top;rw[if_pos<|by simpa using Zt];exact wpS_pure<|h n g st B G (Tn n) Na MI U;rw[if_neg<|by simpa using Zt];have eY:=hor.resolve_left Zt;by_cases WV:n>1;rw[if_pos WV];refine wpS_bind<|wpS_ltKK hO B h0 (by lia) (by lia) ?_;rw[G.key<|by lia,G.key<|by lia];cases hr:κ.blt (KK κ a₀<|g 0) (KK κ a₀<|g<|n-1) with|true=>exact wpS_pure (h n g st B G (Tn n) Na MI U)|false=>simp only[Bool.false_eq_true,if_false];have all:∀k,k<n->KK κ a₀ (g k)=KK κ a₀ (g<|n-1):=λk hk=>(by have a1:κ.kle (KK κ a₀<|g 0) (KK κ a₀<|g k):=(by by_cases z:k=0;rw[z];exact KeyOrd.kle_refl _;exact(U 0 k (by lia) hk).kle);have a2:κ.kle (KK κ a₀<|g k) (KK κ a₀<|g<|n-1):=(by by_cases z:k=n-1;rw[z];exact KeyOrd.kle_refl _;exact(U k (n-1) (by lia)<|by lia).kle);exact KeyOrd.kle_antisymm a2<|KeyOrd.kle_trans hr a1);refine wpS_bind<|wpS_reverse<|Hv hO h0 ht (by lia) (B.setArr<|mirror_perm _ _ _ _) (G.mirror B.size<|by lia) ?_ h;refine .next (λi j lg hj=>?_) (λk hk b8=>by rw[gb<|by lia];exact T k (by lia) b8) (by lia) (by lia) ?_;rw[iw<|by lia,iw<|by lia];refine .inr {(all _<|by lia).trans (all _<|by lia).symm,?_};rw[T _ (by lia)<|by lia,T _ (by lia)<|by lia];lia;rw[gb<|by lia,iw<|by lia,all (0+n-1-(n-1))<|by lia];exact eY
 rw[if_neg WV];obtain rfl:n=1:=by lia
 exact Hv hO h0 ht (by lia) B G (.next (λi j lg hj=>by lia) (Tn 1) (by lia) (by lia) eY) h
theorem U9{st:SortSt}{g:Nat->Nat}{n ok:Nat}{Q:Bool->SortSt->Prop}(hO:κ.OneLt)(h0:KeysOf κ a₀)(hn:n<=a₀.size)(aG:ok<=n)(B:SBase a₀ st)(G:Gh a₀ g<|arrOf st)(T:ES g ok a₀.size)(U:Bx κ a₀ g ok) (h:∀g' eW,SBase a₀ eW->Gh a₀ g' (arrOf eW)->Bx κ a₀ g' n->Q true eW):wpS (model prog w) A E s (binarySort' 0 n ok) Q st:=by
 rw[binarySort'_eq];simp only[Nat.zero_add];refine wpS_bind<|wpS_mono (wpS_forRange (I:=λk c t=>c=(none,())/\∃g',SBase a₀ t/\Gh a₀ g' (arrOf t)/\ES g' k a₀.size/\Bx κ a₀ g' (min k n)) (Q:=λc t=>c=(none,())/\∃g',SBase a₀ t/\Gh a₀ g' (arrOf t)/\Bx κ a₀ g' n) ?_ ?_ ?_) ?_;rintro k c t By b8 ⟨rfl,g',B',G',T',V⟩;rw[show min k n=k by lia]at V;have hk:k<a₀.size:=by lia
 refine wpS_bind<|wpS_mono (wpS_forRange (I:=λx c t2=>t2=t/\∃l r,c=(none,l,r)/\l<=r/\r<=k/\r-l<=k-x/\(∀i,i<l->κ.kle (KK κ a₀<|g' i) (KK κ a₀<|g' k))/\(∀i,r<=i->i<k->κ.klt (KK κ a₀<|g' k) (KK κ a₀<|g' i))) (Q:=λc t2=>t2=t/\∃l r,c=(none,l,r)/\l<=k/\(∀i,i<l->κ.kle (KK κ a₀<|g' i) (KK κ a₀<|g' k))/\(∀i,l<=i->i<k->κ.klt (KK κ a₀<|g' k) (KK κ a₀<|g' i))) ?_ ?_ ?_) ?_;rintro x c t2 _ hxk ⟨rfl,l,r,rfl,Hw,Zu,hm,lo,hi⟩;dsimp only;by_cases WW:l>=r;rw[if_pos WW];obtain rfl:l=r:=by lia
 exact wpS_pure ⟨rfl,l,l,rfl,Zu,lo,hi⟩;rw[if_neg WW];refine wpS_bind<|wpS_ltKK hO B' h0 hk (by lia) ?_;rw[G'.key hk,G'.key<|by lia];cases hl:κ.blt (KK κ a₀<|g' k) (KK κ a₀<|g'<|(l+r)/2) with|true=>refine wpS_pure {rfl,l,(l+r)/2,rfl,by lia,by lia,by lia,lo,λi a b=>?_};by_cases z:i=(l+r)/2;rw[z];exact hl;exact KeyOrd.klt_of_klt_of_kle hl (V _ _ (by lia) b).kle|false=>refine wpS_pure {rfl,(l+r)/2+1,r,rfl,by lia,by lia,by lia,λi a=>?_,hi};by_cases z:i=(l+r)/2;rw[z];exact hl;exact KeyOrd.kle_trans (V i ((l+r)/2) (by lia)<|by lia).kle hl
 rintro c t2 ⟨rfl,l,r,rfl,Hw,Zu,hm,lo,hi⟩;obtain rfl:l=r:=by lia
 exact⟨rfl,l,l,rfl,Zu,lo,hi⟩;exact{rfl,0,k,rfl,by lia,by lia,by lia,λi hi=>by lia,λi a b=>by lia};rintro c t2 ⟨rfl,l,r,rfl,Zv,lo,hi⟩;show wpS _ _ _ _ (do moveDown' k l;pure (ForInStep.yield (none,()))) _ _;rw[moveDown'_eq];refine wpS_bind<|wpS_modify<|wpS_pure {rfl,_,B'.setArr<|bubble_perm _ _ _,G'.bubble B'.size Zv hk,λx Ew G0=>?_,?_};show Lh g' k l x=x;unfold Lh;rw[if_neg<|by lia,if_neg<|by lia];exact T' x (by lia) G0;rw[show min (k+1) n=k+1 by lia];have lw:∀i,i<k->g' i<k:=λi q=>G'.low T' (by lia) q;have ek:=T' k (zo _) hk;intro i j lg hj;show Log κ a₀ (Lh g' k l i) (Lh g' k l j);unfold Lh;by_cases i1:i=l;rw[if_pos i1,if_neg<|by lia,if_pos<|by lia];exact .inl<|hi _ (by lia) (by lia);rw[if_neg i1];by_cases j1:j=l;rw[if_pos j1,if_neg<|by lia];have h1:=lo i (by lia);have h2:=lw i (by lia);rw[ek]at h1⊢;exact M7 h1 h2;rw[if_neg j1];by_cases i2:l<i/\i<=k<;>by_cases j2:l<j/\j<=k;rw[if_pos i2,if_pos j2];exact V _ _ (by lia) (by lia);lia;rw[if_neg i2,if_pos j2];exact V _ _ (by lia) (by lia);rw[if_neg i2,if_neg j2];exact V _ _ (by lia) (by lia);rintro c t ⟨hc,g',B',G',T',V⟩;refine{hc,g',B',G',?_};rwa [show min (max (max ok 1) n) n=n by lia]at V;refine{rfl,g,B,G,λk hk b8=>T k (by lia) b8,λi j lg hj=>?_};exact U i j lg (by lia);rintro c t ⟨rfl,g',B',G',V⟩;exact wpS_pure<|h g' t B' G' V
def PN(κ:KeyKind)(a₀:Array Keyed)(st:SortSt):Prop:=failedOf st=none/\pendingOf st=#[(0,a₀.size,0)]/\∃g,(arrOf st).size=a₀.size/\Gh a₀ g (arrOf st)/\Bx κ a₀ g a₀.size
theorem PQ{st:SortSt}{Q:Unit->SortSt->Prop}(hO:κ.OneLt)(h0:KeysOf κ a₀)(B:SBase a₀ st)(e0:arrOf st=a₀)(h2:2<=a₀.size)(FU:a₀.size<64) (h:∀eW g,failedOf eW=none->(arrOf eW).size=a₀.size->Gh a₀ g (arrOf eW)->Bx κ a₀ g a₀.size->Q () eW):wpS (model prog w) A E s sortRuns' Q st:=by
 have G:Gh a₀ (λk=>k) (arrOf st):={λk _=>by rw[e0],λk hk=>hk,λ_ _ _ _ e=>e};have fin:∀(t:SortSt)(g:Nat->Nat),SBase a₀ t->Gh a₀ g (arrOf t)->Bx κ a₀ g a₀.size->PN κ a₀ (setPending t<|(pendingOf t).push (0,a₀.size,0)):=λt g B' G' U=>{B'.failed,by show(pendingOf t).push _=_;rw[B'.pend];rfl,g,B'.size,G',U};rw[sortRuns'_eq];refine wpS_bind<|wpS_get ?_;dsimp only;have hm:minRun' a₀.size a₀.size 0=a₀.size:=by obtain⟨f,hf⟩:∃f,a₀.size=f+1:={a₀.size-1,by lia};have:minRun' (f+1) a₀.size 0=a₀.size:=(by rw[minRun'_succ,if_pos FU];rfl);rwa [<-hf]at this
 simp only[B.size,hm];refine wpS_bind<|wpS_mono (wpS_forRange (I:=λx c t=>(x=0/\c=(none,0)/\t=st)\/(1<=x/\c=(none,a₀.size)/\PN κ a₀ t)) (Q:=λc t=>c=(none,a₀.size)/\PN κ a₀ t) ?_ ?_<|.inl ⟨rfl,rfl,rfl⟩) ?_;rintro x c t _ hx (⟨rfl,rfl,rfl⟩|⟨Ew,rfl,D⟩);dsimp only;rw[if_neg<|by lia];simp only[Nat.sub_zero,Nat.min_self,Nat.zero_add];refine wpS_bind<|U8 hO h0 (zo _) (by lia) B G (λ_ _ _=>rfl) λm g' t2 B2 G2 T2 hm1 M9 U2=>?_;dsimp only;by_cases eY:m<a₀.size;rw[if_pos eY];refine wpS_bind<|wpS_lift<|wpAny_rule {rfl,?_};refine wpS_bind<|U9 hO h0 (zo _) M9 B2 G2 T2 U2 λg3 t3 B3 G3 U3=>?_;simp only[Bool.not_true,Bool.false_eq_true,if_false];refine wpS_bind<|wpS_get ?_;rw[show(pendingOf t3).back?=none by rw[B3.pend];rfl];dsimp only;exact wpS_bind<|wpS_modify<|wpS_pure<|.inr {by lia,rfl,fin t3 g3 B3 G3 U3};rw[if_neg eY];obtain rfl:m=a₀.size:=by lia
 refine wpS_bind<|wpS_get ?_;rw[show(pendingOf t2).back?=none by rw[B2.pend];rfl];dsimp only;exact wpS_bind<|wpS_modify<|wpS_pure<|.inr {by lia,rfl,fin t2 g' B2 G2 U2};dsimp only;rw[if_pos<|zo _];exact wpS_pure ⟨rfl,D⟩;rintro c t (⟨hx,_,_⟩|⟨_,hc,D⟩);lia;exact⟨hc,D⟩;rintro c t ⟨rfl,D⟩;dsimp only;obtain⟨d1,d2,g,d3,d4,d5⟩:=D;refine wpS_bind<|wpS_mono (wpS_forRange (I:=λ_ c t2=>t2=t/\c=(none,())) (Q:=λc t2=>t2=t/\c=(none,())) ?_ (λ_ _ z=>z) ⟨rfl,rfl⟩) ?_;rintro x c t2 _ _ ⟨rfl,rfl⟩;refine wpS_bind<|wpS_get ?_;rw[if_pos<|by rw[d2];exact zo 1];exact wpS_pure ⟨rfl,rfl⟩;rintro c t2 ⟨rfl,rfl⟩;exact wpS_pure<|h _ g d1 d3 d4 d5
end
noncomputable abbrev Li(X:Cx)(qual:Str)(scope:Scope)(L f:Addr)(cv:Value):Env:=envX qual scope L f cv<|clOf X.env.cells scope.names
noncomputable def RM(X:Cx)(N:List Str)(qual:Str)(scope:Scope)(f:Addr)(cv:Value)(A:Around)(s:Shared)(H:Hp):Cx:={X with A:=A.deeper<|Li X qual scope s.heap.objs.size f cv,N:=N,cZ:=s,uO:=H,env:=Li X qual scope s.heap.objs.size f cv,outer:=X.stack,stack:=Li X qual scope s.heap.objs.size f cv::X.stack,ex:=[],fn:=λ_=>false,calm:=true,pn:=[],xe:=λ_ _=>False}
noncomputable abbrev xy(X:Cx)(qual:Str)(params:Arguments)(body:Expr)(scope:Scope)(pm cv lQ:Value):Obj:={cls:=.type "function",data:=.func<|kla_fn "<lambda>" qual params body scope (clOf X.env.cells scope.names) pm cv lQ}
section
variable{X:Cx}{pins:List (Addr×Obj)}{σ:St}{H:Hp}{s:Shared}{N:List Str}{src:List (Option Nat)}{scope:Scope}{params:Arguments}{body:Expr}{qual p:Str}{pm cv lQ u:Value}{f:Addr}{A:Around}{v:V}{te:TE}{Q:VK}
theorem Lj(I:Inv X pins σ H s)(S:bA X N src scope)(Lk:N[0]?=some p)(hp:scope.names.lookup p=some .local)(h0:src[0]?=some none)(ub:A.frames=some X.stack)(hh:A.handled=none)(r:RelV v u) (PR:h₁.Ns s.heap.objs.size λx=>[(p,u)].reverse.lookup x) (old:∀b o,s.heap.get? b=some o->h₁.get? b=some o): Inv (RM X N qual scope f cv A s H) [] ((pick σ src).set 0<|some v) H {s with heap:=h₁,toks:=tk}:=by
 have iR:∀x c,(clOf X.env.cells scope.names).lookup x=some c->X.env.cells.lookup x=some c:=qx X.env.cells scope.names [] (by intro x c h;simp at h);have Kc:∀b:Addr,b∉(RM X N qual scope f cv A s H).ex:=λb z=>absurd (show b∈([]:List Addr) from z) (by simp);have As:∀x,scope.names.lookup x=some .free->∃c,(clOf X.env.cells scope.names).lookup x=some c:=λx hl=>by have hm:=yg hl;obtain⟨c,Km⟩:=I.ok.has x<|S.As _ hm rfl;exact{c,jg X.env.cells scope.names [] x c (by intro x c h;simp at h) hm Km}
 refine{{I.ok.mod,S.kind,rfl,rfl,zo _,λx y c h1 h2=>I.ok.inj x y c (iR _ _ h1)<|iR _ _ h2,λx hk=>?_,λx c h=>(nomatch h),λ_=>hh,Around.frames_deeper ub,.inr ⟨rfl,rfl⟩,λb z=>absurd z<|Kc b,I.bs,zL I.ok.AE I.sz,λb _ _=>Kc b,λb z=>absurd z<|Kc b,I.stack,I.pR},rfl,I.bare,Un.kept old,{_,PR,λi x w e1 e2 e3=>?_},λx c e=>?_,I.aG.fresh<|zo _,λx c e=>I.c8 x c<|iR x c e,λq hq=>absurd (show q∈([]:List (Addr×Obj)) from hq)<|by simp,I.aG.kept old,?_};have hk:scope.names.lookup x=some .cell\/scope.names.lookup x=some .free:=hk;rcases hk with hk|hk;exact absurd rfl<|S.gC _<|yg hk;exact As x hk;have e1:N[i]?=some x:=e1;by_cases hi:i=0;subst hi;rw[Lk]at e1;cases e1;have hl:0<(pick σ src).length:=by unfold pick;rw[zc];exact(zg.mp h0).1
 rw[List.getElem?_set_self hl]at e2;cases e2;exact{u,r,.inl {hp,by simp[zN]}};rw[List.getElem?_set_ne<|Ne.symm hi]at e2;unfold pick at e2;rw[zr]at e2;cases es:src[i]? with|none=>(rw[es]at e2;cases e2)|some o=>rw[es]at e2;cases o with|none=>(cases e2)|some j=>have e3:(σ[j]?).join=some w:=zU e2;have e4:σ[j]?=some (some w):=(by cases q:σ[j]? with|none=>(rw[q]at e3;cases e3)|some z=>rw[q]at e3;exact congrArg some e3);obtain⟨a1,a2,a3⟩:=S.src i j x es e1;obtain⟨m0,_,hl⟩:=I.loc;obtain⟨u',r',l⟩:=hl j x w a1 e4 a3;have hm:=yg a2;have hk:=S.As _ hm rfl;rcases l with⟨k,_⟩|⟨_,c,Km,⟨o,ho,hd⟩⟩;rcases hk with hk|hk<;>(rw[k]at hk;cases hk);exact{u',r',.inr {.inr a2,c,jg X.env.cells scope.names [] x c (by intro x c h;simp at h) hm Km,o,old _ _ ho,hd}}
 obtain⟨w,o,ho,hd⟩:=I.cell x c<|iR x c e;exact{w,o,old _ _ ho,hd};show((pick σ src).set 0<|some v).length=N.length;unfold pick;rw[List.length_set,zc,S.len]
theorem Hx(I:Inv X pins σ H s)(S:bA X N src scope)(Lk:N[0]?=some p)(hp:scope.names.lookup p=some .local)(h0:src[0]?=some none)(ub:A.frames=some X.stack)(hh:A.handled=none)(U_:A.depth<recursionLimit)(r:RelV v u) (ho:s.heap.get? f=some (xy X qual params body scope pm cv lQ)) (pT:s.heap.CodeRec cv qual) (Ll:scope.isCoroutine=false) (Bz:scope.isGenerator=false) (hb:bindArgs (kla_fn "<lambda>" qual params body scope (clOf X.env.cells scope.names) pm cv lQ) {[u],[]}=pure [(p,u)]) (he:PE (RM X N qual scope f cv A s H) body te) (h:te ((pick σ src).set 0<|some v) H Q): codeAny (model X.prog X.w) A (.call (.ref f) {[u],[]}) (λq s'=>∃w,q=.ok (.ret w)/\CE X.stack X.prog X.w H s Q w s') s:=by refine PySem.W.kla_callFunE U_ ho rfl Ll Bz rfl pT ?_;show wpAny _ _ (bindArgs (kla_fn "<lambda>" qual params body scope (clOf X.env.cells scope.names) pm cv lQ) {[u],[]}) _ _ _;rw[hb];refine zw<|wpAny_newFunctionEnv S.gC (λx hx=>?_) (λh₁ PR KG=>{I.nolimit.fresh _ KG,?_}) S.kind;rw[zu.mp hx];exact hp;have old:∀b o,s.heap.get? b=some o->h₁.get? b=some o:=λb o e=>KG.extBut b o (zy<|zt e)<|za _ e;show codeAny _ _ (.expr body<|Li X qual scope s.heap.objs.size f cv) _ _;refine PySem.W.kla_codeExpr<|yj (he [] _ _ H Q (Lj I S Lk hp h0 ub hh r PR old) h) (by rintro w s' ⟨x,H',J,rv,q⟩;exact⟨w,rfl,x,H',J.os,J.bare,J.base,J.aG,rv,q⟩) λ_ _ z=>z.elim
end
@[reducible] def intK:KeyKind where
 α:=Int
 blt a b:=decide<|a<b
 irrefl a:=by simp
 trans a b c h1 h2:=by simp only[yr]at *;lia
 negTrans a b c h:=by simp only[yr]at *;lia
 total a b h1 h2:=by simp only[decide_eq_false_iff_not]at *;lia
 keyOf v:=match v with|.int x _=>some x|_=>none
 dflt:=0
theorem Hy:intK.OneLt:=by intro prog w A E s x y a b Q ha hb h;cases x<;>simp only[intK,reduceCtorEq,Option.some.injEq]at ha;cases y<;>simp only[intK,reduceCtorEq,Option.some.injEq]at hb;cases ha;cases hb;exact oneLt_int h
structure WX(κ:KeyKind)(b:Bool)(key:Nat->κ.α)(n:Nat)(g:Nat->Nat):Prop where
 lt:∀k,k<n->g k<n
 inj:∀i j,i<n->j<n->g i=g j->i=j
 ord:∀i j,i<j->j<n->(if b=true then κ.klt (key<|g j) (key<|g i) else κ.klt (key<|g i) (key<|g j))\/(key (g i)=key (g j)/\g i<g j)
noncomputable def iW(κ:KeyKind)(us:List Value)(j:Nat):κ.α:=(κ.keyOf<|us.getD j .none).getD κ.dflt
theorem Hz{us vs:List Value}(hl:us.length=vs.length){j:Nat}(hj:j<vs.length):(us.toArray.zip vs.toArray)[j]?=some (us.getD j .none,vs.getD j .none):=by have e:(us.zip vs)[j]?=some (us.getD j .none,vs.getD j .none):=List.getElem?_zip_eq_some.mpr {by show us[j]?=some (us.getD j .none);rw[zE,ze<|by lia];rfl,by show vs[j]?=some (vs.getD j .none);rw[zE,ze hj];rfl};rw[<-Array.getElem?_toList,ksk_zip,List.toList_toArray];exact e
theorem vi{κ:KeyKind}{us vs:List Value}(hl:us.length=vs.length){j:Nat}(hj:j<vs.length):KK κ (us.toArray.zip vs.toArray) j=iW κ us j:=by unfold KK iW;rw[Hz hl hj]
theorem xA{l m:List Value}{n:Nat}(h1:l.length=n)(h2:m.length=n)(h:∀k,k<n->l[k]?=m[k]?):l=m:=by apply List.ext_getElem?;intro k;by_cases hk:k<n;exact h k hk;rw[List.getElem?_eq_none<|by lia,List.getElem?_eq_none<|by lia]
section
variable{prog:Program}{w:World}{A:Around}{E:Value->Shared->Prop}{s:Shared}{a kS:Addr}{b:Bool}{us vs:List Value}{e e1:Nat}{P:PySem.Fin->Shared->Prop}{κ:KeyKind}
theorem C6{st:SortSt}{keys:Array Value}(hk:s.heap.get? kS=some (seqObj "list" keys e))(ha:s.heap.get? a=some (seqObj "list" #[] e1))(PU:kS≠a)(hz:keys.size<64)(PX:(arrOf st).size<64)(RB:failedOf st=none) (h:∀h' c,(∀b o,b≠a->b≠kS->s.heap.get? b=some o->h'.get? b=some o)->h'.get? a=some (seqObj "list" (if b then ((arrOf st).map (·.2)).reverse else (arrOf st).map (·.2)) c)->P (.done<|.ret .none) {s with heap:=h'}): wpAny (model prog w) A (ksk_tail a b e1 (.ref kS) st) P E s:=by
 have s1:=yy s.heap kS<|Obj.mapSeq λ_=>(#[]:Array Value);have Zw:(s.heap.update kS<|Obj.mapSeq λ_=>(#[]:Array Value)).get? a=some (seqObj "list" #[] e1):=(s1.2 a PU.symm).trans ha;have BA:∀o:Array Value,o=(if b then ((arrOf st).map (·.2)).reverse else (arrOf st).map (·.2))->o.size<64:=by rintro o rfl;cases b with|false=>rw[if_neg zd,Array.size_map];exact PX|true=>rw[if_pos rfl,Array.size_reverse,Array.size_map];exact PX
 generalize ho:(if b then ((arrOf st).map (·.2)).reverse else (arrOf st).map (·.2))=out at h BA;have BA:=BA out rfl;have s2:=yy (s.heap.update kS<|Obj.mapSeq λ_=>(#[]:Array Value)) a<|Obj.mapSeq λ_=>out;obtain⟨c2,Ke⟩:∃c2,((s.heap.update kS<|Obj.mapSeq λ_=>(#[]:Array Value)).update a<|Obj.mapSeq λ_=>out).get? a=some (seqObj "list" out c2):={_,get?_update_seq Zw λ_=>out};unfold ksk_tail;try dsimp only
 refine zb<|listUpdate_at hk rfl ?_ (by rw[zY];lia)<|zZ _;refine zb<|wpAny_letGo ?_;refine zb<|seqEpoch_at Zw rfl ?_;rw[ho];refine zb<|listUpdate_at Zw rfl ?_ (zZ _)<|zL (yM BA) (by rw[zY];lia);rw[RB];simp only[bne_self_eq_false,Bool.false_eq_true,if_false];exact zw<|h _ c2 (λb o h1 h2 q=>(s2.2 b h1).trans<|(s1.2 b h2).trans q) Ke
theorem HA{xs:Array Keyed}{g:Nat->Nat}(hl:us.length=vs.length)(hs:xs.size=vs.length) (G:Gh (if b=true then (us.toArray.zip vs.toArray).reverse else us.toArray.zip vs.toArray) g xs) (U:Bx κ (if b=true then (us.toArray.zip vs.toArray).reverse else us.toArray.zip vs.toArray) g vs.length): ∃g',WX κ b (iW κ us) vs.length g'/\(if b then (xs.map (·.2)).reverse else xs.map (·.2)).toList=(List.range vs.length).map λk=>vs.getD (g' k) .none:=by
 have Ay:(us.toArray.zip vs.toArray).size=vs.length:=by rw[Array.size_zip,zm,zm,hl,Nat.min_self]
 have zat:∀k,k<vs.length->(us.toArray.zip vs.toArray)[k]?=some (us.getD k .none,vs.getD k .none):=λk hk=>Hz hl hk;cases b with|false=>rw[if_neg zd]at G U;refine{g,{λk hk=>by have:=G.lt k (by rw[Ay];exact hk);rwa [Ay]at this,λi j hi hj=>G.inj i j (by rw[Ay];exact hi)<|by rw[Ay];exact hj,λi j lg hj=>?_},?_};have h1:=G.lt i (by rw[Ay];lia);have h2:=G.lt j (by rw[Ay];lia);rw[Ay]at h1 h2;have:=U i j lg hj;unfold Log at this;rw[vi hl h1,vi hl h2]at this;rw[if_neg zd];exact this;rw[if_neg zd];refine xA (n:=vs.length) (by rw[yp,Array.size_map,hs]) (by simp) λk hk=>?_;have h1:=G.lt k (by rw[Ay];lia);rw[Ay]at h1;rw[Array.getElem?_toList,Array.getElem?_map,G.at_ k<|by rw[Ay];exact hk,zat _ h1,zr,List.getElem?_range hk];rfl|true=>rw[if_pos rfl]at G U;have sG:(us.toArray.zip vs.toArray).reverse.size=vs.length:=(by rw[Array.size_reverse,Ay]);have lt:∀k,k<vs.length->g k<vs.length:=λk hk=>(by have:=G.lt k (by rw[sG];exact hk);rwa [sG]at this);have rat:∀k,k<vs.length->(us.toArray.zip vs.toArray).reverse[k]?=(us.toArray.zip vs.toArray)[vs.length-1-k]?:=λk hk=>(by rw[Array.getElem?_reverse<|by rw[Ay];exact hk,Ay]);refine{λk=>vs.length-1-g (vs.length-1-k),{λk hk=>by have:=lt (vs.length-1-k) (by lia);lia,λi j hi hj e=>?_,λi j lg hj=>?_},?_};have h1:=lt (vs.length-1-i) (by lia);have h2:=lt (vs.length-1-j) (by lia);have:=G.inj (vs.length-1-i) (vs.length-1-j) (by rw[sG];lia) (by rw[sG];lia) (by lia);lia;have h1:=lt (vs.length-1-i) (by lia);have h2:=lt (vs.length-1-j) (by lia);have:=U (vs.length-1-j) (vs.length-1-i) (by lia) (by lia);unfold Log at this;have e1:KK κ (us.toArray.zip vs.toArray).reverse (g<|vs.length-1-i)=iW κ us (vs.length-1-g (vs.length-1-i)):=(KK_congr<|rat _ h1).trans<|vi hl (by lia);have e2:KK κ (us.toArray.zip vs.toArray).reverse (g<|vs.length-1-j)=iW κ us (vs.length-1-g (vs.length-1-j)):=(KK_congr<|rat _ h2).trans<|vi hl (by lia);rw[e1,e2]at this;rw[if_pos rfl];rcases this with z|⟨z1,z2⟩;exact .inl z;exact .inr {z1.symm,by lia};rw[if_pos rfl];refine xA (n:=vs.length) (by rw[yp,Array.size_reverse,Array.size_map,hs]) (by simp) λk hk=>?_;have h1:=lt (vs.length-1-k) (by lia);rw[Array.getElem?_toList,Array.getElem?_reverse<|by rw[Array.size_map,hs];exact hk,Array.size_map,hs,Array.getElem?_map,G.at_ _<|by rw[sG];lia,rat _ h1,zat _<|by lia,zr,List.getElem?_range hk];rfl
theorem PY(hO:κ.OneLt)(hk:s.heap.get? kS=some (seqObj "list" us.toArray e))(ha:s.heap.get? a=some (seqObj "list" #[] e1))(PU:kS≠a)(hl:us.length=vs.length)(FU:vs.length<64)(h0:∀u∈us,∃x,κ.keyOf u=some x) (hkk:∀nC nD rest,us=nC::nD::rest->keyKind' (nC::nD::rest).toArray=pure oneType') (h:∀h' c g out,(∀b o,b≠a->b≠kS->s.heap.get? b=some o->h'.get? b=some o)->h'.get? a=some (seqObj "list" out c)->WX κ b (iW κ us) vs.length g->out.toList=(List.range vs.length).map (λk=>vs.getD (g k) .none)->P (.done<|.ret .none) {s with heap:=h'}): wpAny (model prog w) A (ksk_end a b vs.toArray e1 (.ref kS) us.toArray) P E s:=by
 have Ay:(us.toArray.zip vs.toArray).size=vs.length:=by rw[Array.size_zip,zm,zm,hl,Nat.min_self]
 have step:∀t:Sem PySem.Fin,wpAny (model prog w) A t P E s->wpAny (model prog w) A (if b=true then (do let _ <-rule "list.sort.reverse";t) else t) P E s:=by intro t ht;split;exact zb<|wpAny_rule ht;exact ht
 have hsz:(if b=true then (us.toArray.zip vs.toArray).reverse else us.toArray.zip vs.toArray).size=vs.length:=by cases b with|false=>exact Ay|true=>rw[if_pos rfl,Array.size_reverse,Ay]
 have keys:KeysOf κ (if b=true then (us.toArray.zip vs.toArray).reverse else us.toArray.zip vs.toArray):=λp hp=>by have hp:p∈us.zip vs:=(by have e2:(us.toArray.zip vs.toArray).toList=us.zip vs:=(by rw[ksk_zip]);cases b with|false=>rw[if_neg zd,e2]at hp;exact hp|true=>rw[if_pos rfl,Array.toList_reverse,e2]at hp;exact List.mem_reverse.mp hp);obtain⟨x,y⟩:=p;exact h0 _ (List.of_mem_zip hp).1
 unfold ksk_end;try dsimp only
 refine step _ ?_;by_cases h2:vs.toArray.size<2;{rw[if_pos h2,if_pos h2];refine zb<|zw ?_;rw[StateT.run_pure];refine zb<|zw ?_;(try dsimp only);rw[zm]at h2;refine C6 (st:=SortSt.mk' general' (if b=true then (us.toArray.zip vs.toArray).reverse else us.toArray.zip vs.toArray) #[] 7 none) hk ha PU (by rw[zm];lia) (by show(if b=true then (us.toArray.zip vs.toArray).reverse else us.toArray.zip vs.toArray).size<64;lia) rfl λh' c k1 k2=>?_;obtain⟨g,g1,g2⟩:=HA (κ:=κ) (b:=b) (xs:=if b=true then (us.toArray.zip vs.toArray).reverse else us.toArray.zip vs.toArray) (g:=λk=>k) hl hsz {λ_ _=>rfl,λ_ hk=>hk,λ_ _ _ _ e=>e} (λi j lg hj=>by lia);exact h h' c g _ k1 k2 g1 g2};{rw[if_neg h2,if_neg h2];rw[zm]at h2;obtain⟨nC,nD,rest,eu⟩:∃nC nD rest,us=nC::nD::rest:=(by match us,hl with|[],hl=>simp at hl;lia|[_],hl=>simp at hl;lia|nC::nD::rest,_=>exact⟨nC,nD,rest,rfl⟩);have ek:keyKind' us.toArray=pure oneType':=(by rw[eu];exact hkk _ _ _ eu);rw[ek];refine zb<|zw ?_;refine zb<|yj (PQ (κ:=κ) hO (a₀:=if b=true then (us.toArray.zip vs.toArray).reverse else us.toArray.zip vs.toArray) (st:=SortSt.mk' oneType' (if b=true then (us.toArray.zip vs.toArray).reverse else us.toArray.zip vs.toArray) #[] 7 none) (Q:=λ_ eW=>failedOf eW=none/\(arrOf eW).size=vs.length/\∃g,Gh (if b=true then (us.toArray.zip vs.toArray).reverse else us.toArray.zip vs.toArray) g (arrOf eW)/\Bx κ (if b=true then (us.toArray.zip vs.toArray).reverse else us.toArray.zip vs.toArray) g vs.length) keys {Array.Perm.refl _,rfl,rfl,rfl} rfl (by lia) (by lia) λeW g q1 q2 q3 q4=>{q1,q2.trans hsz,g,q3,by rw[hsz]at q4;exact q4}) ?_ λ_ _ e=>e;rintro⟨⟨⟩,eW⟩ s' ⟨rfl,hf,Zx,g,G,U⟩;(try dsimp only);have Zx:(arrOf eW).size=vs.length:=Zx;refine C6 hk ha PU (by rw[zm];lia) (by lia) hf λh' c k1 k2=>?_;obtain⟨g',g1,g2⟩:=HA (κ:=κ) hl Zx G U;exact h h' c g' _ k1 k2 g1 g2}
end
structure Nb(X:Cx)(pins:List (Addr×Obj))(b:Addr):Prop where
 loc:b≠X.env.locals
 fs:b∉X.fs
 cell:∀x c,X.env.cells.lookup x=some c->c≠b
 pin:∀p∈X.pn++pins,p.1≠b
 new:X.cZ.heap.objs.size<=b
section
variable{X:Cx}{pins:List (Addr×Obj)}{σ:St}{H:Hp}{s:Shared}
theorem Inv.WY(I:Inv X pins σ H s)(h:s.heap.objs.size<=b):Nb X pins b:={yk<|zl I.lt h,I.Sk h,λx c e=>by obtain⟨v,q⟩:=I.cell x c e;exact zy<|zl q.lt h,λp hp=>zy<|zl (zt (I.pin p hp).1) h,zL I.sz h}
theorem Inv.Ln(I:Inv X pins σ H s)(kp:∀b o,b≠a->b≠k->s.heap.get? b=some o->h'.get? b=some o)(ha:H a=none)(hk:H k=none)(Aa:Nb X pins a)(Ak:Nb X pins k):Inv X pins σ H {s with heap:=h',toks:=t'}:=by have N1:∀b u,H b=some u->b≠a/\b≠k:=λb u e=>{λz=>(by rw[z,ha]at e;cases e),λz=>(by rw[z,hk]at e;cases e)};refine I.step (g':=s.gens) (d':=s.drawn) (ch:=[a,k]) (λb hb=>?_) (λb o _ _ hc e _=>kp b o (λz=>hc<|by simp[z]) (λz=>hc<|by simp[z]) e) (λb o _ _ hc e _=>{o.slots,kp b o (λz=>hc<|by simp[z]) (λz=>hc<|by simp[z]) e}) (λ_ _ _ _ n=>n) (λb o hc e=>{o,kp b o (λz=>hc<|by simp[z]) (λz=>hc<|by simp[z]) e}) (λ_ _ e=>e) (λ_ _ _ e=>e) (λb ps e=>{#[],by rw[e];simp}) (λm hm=>?_) (λb u e=>?_) I.bare;simp only[zf,zD,or_false]at hb;rcases hb with rfl|rfl;exact{.inr Aa.new,Aa.loc,Aa.cell,Aa.pin};exact{.inr Ak.new,Ak.loc,Ak.cell,Ak.pin};obtain⟨o,es,ep,ho,r⟩:=hm;exact{o,es,ep,kp _ o (Ne.symm Aa.loc) (Ne.symm Ak.loc) ho,r};refine(I.aG b u e).lR (λc v hc q=>?_) (λ_ q=>q) λ_ _ q=>q;rcases hc with z|z;rw[z]at q⊢;exact kp b v (N1 b u e).1 (N1 b u e).2 q;exact kp c v (N1 c _ z).1 (N1 c _ z).2 q
theorem Inv.Va(I:Inv X pins σ H s)(ha:H a=none)(A:Nb X pins a)(new:aV X.prog X.w (upd H a o) s.heap a o):Inv X pins σ (upd H a o) s:=by refine I.step (h':=s.heap) (g':=s.gens) (d':=s.drawn) (t':=s.toks) (ch:=[a]) (λb hb=>?_) (λb o _ _ hc e _=>e) (λb o _ _ hc e _=>⟨o.slots,e⟩) (λb u hc e n=>?_) (λb o hc e=>⟨o,e⟩) (λb xs e=>?_) (λb u v e=>?_) (λb ps e=>?_) (λm hm=>hm) (λb u e=>?_) I.bare;rw[zu.mp hb];exact{.inr A.new,A.loc,A.cell,A.pin};rw[ar λz=>hc<|by simp[z]];exact n;rw[ar<|ax e ha];exact e;rw[ar<|ax e ha];exact e;exact{#[],by rw[ar<|ax e ha,e];simp};by_cases hb:b=a;subst hb;rw[aC]at e;cases e;exact new;rw[ar hb]at e;exact(I.aG b u e).lR (λc v _ q=>q) (λc q=>by rw[ar<|ax q ha];exact q) λc xs q=>by rw[ar<|ax q ha];exact q
end
def HB(X:Cx)(pins:List<|Addr×Obj)(σ:St)(A:Around)(f:Addr)(xs:List V)(W:Nat->List V->Hp->Prop):Prop:=∀i x u ks s' H' more,Inv X (pins++more) σ H' s'->W i ks H'->xs[i]?=some x->RelV x u->codeAny (model X.prog X.w) A (.call (.ref f) {[u],[]}) (λq AX=>∃w,q=.ok (.ret w)/\CE X.stack X.prog X.w H' s' (λk H''=>W (i+1) (ks++[k]) H'') w AX) s'
structure Nc(κ:KeyKind)(us:List Value):Prop where
 all:∀u∈us,∃x,κ.keyOf u=some x
 kind:∀nC nD rest,us=nC::nD::rest->keyKind' (nC::nD::rest).toArray=pure oneType'
section
variable{X:Cx}{pins:List (Addr×Obj)}{σ:St}{H:Hp}{s:Shared}{A:Around}{E:Value->Shared->Prop}{xs:List V}{vs:List Value}{f:Addr}{b:Bool}{κ:KeyKind}{W:Nat->List V->Hp->Prop}
theorem ET{P:PySem.Fin->Shared->Prop}(hO:κ.OneLt)(I:Inv X pins σ H s)(ha:s.heap.get? a=some (seqObj "list" #[] e1))(hk:s.heap.get? kS=some (seqObj "list" #[] 0))(PU:kS≠a)(na:H a=none)(nk:H kS=none)(Aa:Nb X pins a)(Ak:Nb X pins kS) (hv:Vals xs vs) (FU:vs.length<64) (T:HB X pins σ A f xs W) (w0:W 0 [] H) (G:∀ks us H',W vs.length ks H'->Vals ks us->ks.length=vs.length->Nc κ us) (h:∀s' H' ks us c g out,Inv X pins σ H' s'->H' a=none->s'.heap.get? a=some (seqObj "list" out c)->W vs.length ks H'->Vals ks us->ks.length=vs.length->WX κ b (iW κ us) vs.length g->out.toList=(List.range vs.length).map (λk=>vs.getD (g k) .none)->P (.done<|.ret .none) s'): wpAny (model X.prog X.w) A (ksk_rest a (.ref f) b vs.toArray e1<|.ref kS) P E s:=by
 have nc:∀(k:Array Value) (n:Nat) (v:Option Value),(seqObj "list" k n).data≠.cell v:=λ_ _ _ z=>nomatch z;unfold ksk_rest;refine zb<|wpAny_rule ?_;rw[List.forIn_toArray];refine zb<|ksk_fold (λi s'=>∃ks kA e H',Inv X pins σ H' s'/\W i ks H'/\Vals ks kA.toList/\ks.length=i/\H' a=none/\H' kS=none/\s'.heap.get? a=some (seqObj "list" #[] e1)/\s'.heap.get? kS=some (seqObj "list" kA e)) vs 0 s {[],#[],0,H,I,w0,.nil,rfl,na,nk,ha,hk} ?_ ?_;rintro j x s' hx ⟨ks,kA,e,H',I',w',v',l',WZ,Zy,Zz,O0⟩;simp only[Nat.zero_add]at l' w'⊢;have hj:j<vs.length:=(zg.mp hx).1;have hl:xs.length=vs.length:=hv.length;obtain⟨y,hy⟩:∃y,xs[j]?=some y:={_,ze<|by lia};obtain⟨u,hu,ru⟩:=hv.get hy;rw[hx]at hu;cases hu;have Ip:Inv X (pins++[(a,seqObj "list" #[] e1),(kS,seqObj "list" kA e)]) σ H' s':=by refine{I'.ok,I'.os,I'.bare,I'.base,I'.loc,I'.cell,I'.free,I'.c8,λp hp=>?_,I'.aG,I'.len};rcases zR.mp hp with hp|hp;exact I'.pin p<|zS _ hp;rcases zR.mp hp with hp|hp;exact I'.pin p<|zC _ hp;simp only[zf,zD,or_false]at hp;rcases hp with rfl|rfl;exact{Zz,WZ,Aa.loc,Aa.fs,nc _ _};exact{O0,Zy,Ak.loc,Ak.fs,nc _ _}
 have hz:kA.size=j:=by have h1:ks.length=kA.toList.length:=v'.length;have h2:kA.toList.length=kA.size:=yp;lia
 refine zb<|wpAny_attempt<|wpAny_call<|yN (T j y x ks s' H' _ Ip w' hy ru) λr s2 hq=>?_;obtain⟨w,rfl,ce⟩:=hq;obtain⟨k,H2,I2,rk,w2⟩:=Ip.after ce;dsimp only;have pa:=I2.pin (a,seqObj "list" #[] e1)<|zC _<|zC _ (by simp);have pk:=I2.pin (kS,seqObj "list" kA e)<|zC _<|zC _ (by simp);have I3:Inv X pins σ H2 s2:={I2.ok,I2.os,I2.bare,I2.base,I2.loc,I2.cell,I2.free,I2.c8,λp hp=>I2.pin p<|by rcases zR.mp hp with z|z;exact zS _ z;exact zC _<|zS _ z,I2.aG,I2.len};have s1:=yy s2.heap kS (Obj.mapSeq (·.push w));obtain⟨c2,Ke⟩:∃c2,(s2.heap.update kS (Obj.mapSeq (·.push w))).get? kS=some (seqObj "list" (kA.push w) c2):={_,get?_update_seq pk.1 (·.push w)};refine zb<|listUpdate_at pk.1 rfl ?_ (by rw[zY];lia)<|zL (Nat.le_of_eq<|Array.size_push ..) (by rw[zY];lia);refine zw {rfl,ks++[k],kA.push w,c2,H2,I3.turned (t':=s2.toks) (it:=kS) (λb o hb q=>(s1.2 b hb).trans q) pk.2.1 Ak.loc (.inr Ak.new) Ak.cell Ak.pin,w2,?_,by simp[l'],pa.2.1,pk.2.1,(s1.2 a PU.symm).trans pa.1,Ke};rw[show(kA.push w).toList=kA.toList++[w] by simp];exact v'.append<|.cons rk .nil;rintro s' ⟨ks,kA,e,H',I',w',v',l',WZ,Zy,Zz,O0⟩;simp only[Nat.zero_add]at l' w';refine zb<|listItems_at O0 rfl ?_;have eA:kA=kA.toList.toArray:=by simp
 have good:=G ks kA.toList H' w' v' l';have hl:kA.toList.length=vs.length:=by have h1:ks.length=kA.toList.length:=v'.length;lia
 rw[eA]at O0;show wpAny _ _ (ksk_end a b vs.toArray e1 (.ref kS) kA) _ _ _;rw[eA];refine PY (κ:=κ) hO O0 Zz PU hl FU good.all good.kind λh' c g out k1 k2 k3 k4=>?_;exact h _ H' ks kA.toList c g out (I'.Ln (t':=s'.toks) k1 WZ Zy Aa Ak) WZ k2 w' v' l' k3 k4
theorem uu(hO:κ.OneLt)(I:Inv X pins σ H s)(hl:jd X.K H l xs)(FU:xs.length<64)(RN:argsOk "sorted" {[.ref l],kw})(RO:∀x,argsOk "list.sort" {[.ref x],kw})(ht:∀x,Builtin.«list.sort» {[.ref x],kw}=ksk_tree x (.ref f) b) (T:HB X pins σ A.in1.in1 f xs W) (w0:W 0 [] H) (G:∀ks us H',W xs.length ks H'->Vals ks us->ks.length=xs.length->Nc κ us) (h:∀H' ks us g D,W xs.length ks H'->Vals ks us->ks.length=xs.length->WX κ b (iW κ us) xs.length g->H' D=none->Q (.ref D) (upd H' D<|.lst<|(List.range xs.length).map λk=>xs.getD (g k) .ao)): wpAny (model X.prog X.w) A (call (.builtin "sorted") [.ref l] kw) (EP X pins σ Q) E s:=by
 obtain⟨vs,hv,pl,_⟩:=I.list hl;have RP:xs.length=vs.length:=hv.length;rw[RP]at FU G h;refine call_function_entry_kw kind_sorted plain_sorted entry_sorted RN ?_;unfold Builtin.«sorted»;refine zb (m:=checkCount "sorted" 1 1 _)<|zw ?_;refine zb<|collect_list pl.isList ?_ (by rw[zY];lia);refine zb<|wpAny_newList ?_ (by rw[zY];lia);have hsz:((s.heap.push<|seqObj "list" #[] 0).update s.heap.objs.size (Obj.mapSeq (·++vs.toArray))).objs.size=s.heap.objs.size+1:=by rw[Heap.size_update,size_push']
 have FL:(((s.heap.push<|seqObj "list" #[] 0).update s.heap.objs.size (Obj.mapSeq (·++vs.toArray))).push<|seqObj "list" vs.toArray 0).get? (s.heap.objs.size+1)=some (seqObj "list" vs.toArray 0):=by rw[<-hsz];exact zk _ rfl
 have keep:∀b o,s.heap.get? b=some o->(((s.heap.push<|seqObj "list" #[] 0).update s.heap.objs.size (Obj.mapSeq (·++vs.toArray))).push<|seqObj "list" vs.toArray 0).get? b=some o:=λb o q=>by have eY:b<s.heap.objs.size:=zt q;rw[Heap.get?_push_ne _ _ _<|by rw[hsz];exact zy<|Nat.lt_succ_of_lt eY,Heap.get?_update_ne _ _ _ _<|zy eY,Heap.get?_push_ne _ _ _<|zy eY];exact q
 show wpAny _ _ _ _ _ {s with heap:=((s.heap.push<|seqObj "list" #[] 0).update s.heap.objs.size (Obj.mapSeq (·++vs.toArray))).push<|seqObj "list" vs.toArray 0};rw[hsz];generalize hg:((s.heap.push<|seqObj "list" #[] 0).update s.heap.objs.size (Obj.mapSeq (·++vs.toArray))).push (seqObj "list" vs.toArray 0)=h1 at FL keep⊢;have I1:Inv X pins σ H {s with heap:=h1}:=I.kept (t':=s.toks) keep;have Aa:Nb X pins (s.heap.objs.size+1):=I.WY<|yS _;have na:H (s.heap.objs.size+1)=none:=I.aG.fresh<|yS _;generalize s.heap.objs.size+1=a at FL Aa na⊢;refine zb<|yJ<|wpAny_call_entry_kw slot_list_sort {_,FL,rfl} entry_list_sort ?_<|RO _;show wpAny (model X.prog X.w) A.in1.in1 (Builtin.«list.sort» {[.ref a],kw}) _ _ _;rw[ht a];have s1:=yy h1 a<|Obj.mapSeq λ_=>(#[]:Array Value);obtain⟨e1,RQ⟩:∃e1,(h1.update a<|Obj.mapSeq λ_=>(#[]:Array Value)).get? a=some (seqObj "list" #[] e1):={_,get?_update_seq FL λ_=>#[]};have I2:Inv X pins σ H {s with heap:=h1.update a<|Obj.mapSeq λ_=>(#[]:Array Value)}:=Inv.turned (s:={s with heap:=h1}) (h':=h1.update a<|Obj.mapSeq λ_=>(#[]:Array Value)) (t':=s.toks) (it:=a) I1 (λb o hb q=>(s1.2 b hb).trans q) na Aa.loc (.inr Aa.new) Aa.cell Aa.pin;unfold ksk_tree;refine zb<|listItems_at FL rfl ?_;refine zb<|listUpdate_at FL rfl ?_ (by rw[zm,zY];lia)<|zZ _;refine zb<|seqEpoch_at RQ rfl ?_;refine zb<|wpAny_newTuple ?_ (by show vs.length<=_;rw[zY];lia);refine zb<|wpAny_newList ?_<|zZ _;refine yJ ?_;generalize h1.update a (Obj.mapSeq λ_=>(#[]:Array Value))=h2 at RQ I2⊢;have k3:∀b u,h2.get? b=some u->((h2.push<|seqObj "tuple" vs.toArray 0).push<|seqObj "list" #[] 0).get? b=some u:=λb u q=>za _<|za _ q;have I3:Inv X pins σ H {s with heap:=(h2.push<|seqObj "tuple" vs.toArray 0).push<|seqObj "list" #[] 0}:=I2.kept (t':=s.toks) k3;have JL:h2.objs.size<=(h2.push<|seqObj "tuple" vs.toArray 0).objs.size:=by rw[size_push'];exact yS _
 refine ET (s:={s with heap:=(h2.push<|seqObj "tuple" vs.toArray 0).push<|seqObj "list" #[] 0}) (kS:=(h2.push<|seqObj "tuple" vs.toArray 0).objs.size) hO I3 (k3 _ _ RQ) (zk _ rfl) (yk<|zl (zt RQ) JL) na (I2.aG.fresh JL) Aa (I2.WY JL) hv FU T w0 G λs' H' ks us c g out J n1 o1 w1 v1 l1 q1 q2=>{.none,rfl,?_};refine zw !{.ref a,_,J.Va (o:=.lst<|(List.range vs.length).map λk=>xs.getD (g k) .ao) n1 Aa {?_,out.toList,c,?_,?_},rfl,h H' ks us g a w1 v1 l1 q1 n1};rw[zc,List.length_range,zY];lia;rw[q2];have:∀(ns:List Nat),(∀k∈ns,g k<vs.length)->Vals (ns.map λk=>xs.getD (g k) .ao) (ns.map λk=>vs.getD (g k) .none):=λns=>by induction ns with|nil=>exact λ_=>.nil|cons k ns ih=>intro hk;have ZA:=hk k zp;obtain⟨y,hy⟩:∃y,xs[g k]?=some y:={_,ze<|by lia};obtain⟨u,hu,ru⟩:=hv.get hy;refine .cons ?_<|ih λk b8=>hk k<|zh _ b8;show RelV (xs.getD (g k) .ao) (vs.getD (g k) .none);rw[zE,hy,zE,hu];exact ru
 exact this _ λk hk=>q1.lt k<|zT.mp hk;rw[o1]
end
def Bm(mg:Str->Option Value)(base:Heap):Prop:=∃bm o,mg "__builtins__"= some (.ref bm)/\bm≠builtinsNs/\base.get? bm=some o/\o.cls=.type "module"/\o.dict=some builtinsNs/\o.data=.plain
structure ZC(K:Frag)(mg:Str->Option Value)(base:Heap)(c P:Addr):Prop where
 hd:codeHdIn K c P=true
 bm:Bm mg base
theorem BB{pos p2:Pos}{c cv:Value}(l:List Value)(h:TriplesOk l)(e:codeAmong pos (l++[rawInt p2.line,rawInt p2.col,c])=some cv):codeAmong pos l=some cv\/cv=c:=by fun_induction TriplesOk l with|case1=>(simp only[List.nil_append,rawInt,codeAmong]at e;split at e;cases e;exact .inr rfl;cases e)|case2 a t b u x rest ih=>simp only[List.cons_append,codeAmong]at e⊢;split at e;rename_i hc;rw[if_pos hc];exact .inl e;rename_i hc;rw[if_neg hc];exact ih h e|case3 l h1 h2=>exact h.elim
section
variable{X:Cx}{pins:List (Addr×Obj)}{σ:St}{H:Hp}{s:Shared}
theorem Inv.tab{h':Heap}{tk:Nat}{P c:Addr}{ps RS:Array Value}{oc fo:Obj}(I:Inv X pins σ H s)(hP:H P=some (.pQ ps))(hx:Heap.ExtBut P s.heap h')(h1:s.heap.objs.size<=c)(h2:c<h'.objs.size)(hc:h'.get? c=some oc)(hp:h'.get? P=some (tabObj<|ps++RS)): Inv X pins σ (upd (upd H P<|.pQ<|ps++RS) c<|.k7 oc<|.own 0) {s with heap:=h'.push fo,toks:=tk}:=by
 have hcP:c≠P:=λz=>absurd (zl (I.aG.lt hP)<|z ▸ h1)<|yx _;have nc:H c=none:=I.aG.fresh h1;have other:∀b,b≠P->b≠c->upd (upd H P<|.pQ<|ps++RS) c (.k7 oc<|.own 0) b=H b:=λb z1 z2=>by rw[ar z2,ar z1]
 have nP:∀b o,H b=some o->(∀q,o≠.pQ q)->b≠P:=λb o e z q=>by rw[q,hP]at e;cases e;exact z _ rfl
 have ZD:∀b,H b=none->b≠P:=λb e q=>by rw[q,hP]at e;cases e
 have lt:∀b o,s.heap.get? b=some o->b≠c:=λb o e=>zy<|zl (zt e) h1;refine I.un (h':=h'.push fo) {λb o e n _ _=>za _<|hx b o (ZD b n) e,λb o e n _ _=>{o.slots,za _<|hx b o (ZD b n) e},λb o e n _=>by rw[other b (ZD b n)<|lt b o e];exact n,λb o e _=>?_,λb xs e=>by rw[other b (nP b _ e λ_=>nofun)<|ax e nc];exact e,λb o u e=>by rw[other b (nP b _ e λ_=>nofun)<|ax e nc];exact e,λb q e=>?_} λb u e=>?_;by_cases hb:b=P;rw[hb];exact{_,za _ hp};exact{o,za _<|hx b o hb e};by_cases hb:b=P;subst hb;rw[hP]at e;cases e;exact{RS,by rw[ar<|Ne.symm hcP,aC]};exact{#[],by rw[other b hb<|ax e nc,e];simp};by_cases RT:b=c;subst RT;rw[aC]at e;cases e;exact{za _ hc,_,za _ hc};rw[ar RT]at e;by_cases hb:b=P;subst hb;rw[aC]at e;cases e;exact za _ hp;rw[ar hb]at e;refine(I.aG b u e).lR (λd v hd q=>?_) (λd q=>by rw[other d (nP d _ q λ_=>nofun)<|ax q nc];exact q) λd xs q=>by rw[other d (nP d _ q λ_=>nofun)<|ax q nc];exact q
 rcases hd with rfl|hd;exact za _<|hx d v hb q;exact za _<|hx d v (nP d _ hd λ_=>nofun) q
theorem Inv.C7(I:Inv X pins σ H s)(ho:s.heap.get? f=some o)(hn:H f=none)(A:Nb X pins f)(d:∀v,o.data≠.cell v):Inv X (pins++[(f,o)]) σ H s:=by refine{I.ok,I.os,I.bare,I.base,I.loc,I.cell,I.free,I.c8,λp hp=>?_,I.aG,I.len};rcases zR.mp hp with hp|hp;exact I.pin p<|zS _ hp;rcases zR.mp hp with hp|hp;exact I.pin p<|zC _ hp;rw[zu.mp hp];exact⟨ho,hn,A.loc,A.fs,d⟩
structure Vb(X:Cx)(pins:List (Addr×Obj))(σ:St)(H H':Hp)(P:Addr)(q:Str)(params:Arguments)(body:Expr)(scope:Scope)(u:Value)(s':Shared)(f:Addr)(pm cv lQ:Value):Prop where
 u:u=.ref f
 inv:Inv X (pins++[(f,xy X q params body scope pm cv lQ)]) σ H' s'
 code:∃c o vs t,cv=.ref c/\H' c=some (.k7 o<|.own 0)/\o.data=.fields vs/\vs[1]?=some (.str q t)
 same:∀b,H' b=H b\/(b=P/\∃ps,H' b=some (.pQ ps)/\CT H' q ps)\/(H b=none/\∃o,H' b=some (.k7 o<|.own 0))
theorem xB{M:Model}{A:Around}{E:Value->Shared->Prop}{N:List Str}{src:List<|Option Nat}{scope:Scope}{params:Arguments}{body:Expr}{pos:Pos}{c P:Addr}{q:Str}{ps:Array Value}{Q:Value->Shared->Prop}(I:Inv X pins σ H s)(S:bA X N src scope)(oB:X.env.code=.ref c)(mk:ZC X.K X.mg X.base c P) (hP:H P=some (.pQ ps)) (ok:CT H q ps) (hq:X.env.qual ++ "<lambda>"= q) (HC:defaultsOf params X.env=([],[])) (h:∀u s' H' f pm cv lQ,Vb X pins σ H H' P q params body scope u s' f pm cv lQ->Q u s'):wpAny M A (eval (.Lambda params body scope pos) X.env) Q E s:=by
 have A5:closureFor scope X.env=pure (clOf X.env.cells scope.names):=gB λy hy hf=>I.ok.has y.1<|S.As y hy hf;have W0:s.heap.get? P=some (tabObj ps):=I.aG P _ hP;have hg:s.heap.Ns mainGlobals X.mg:=I.mod.glob.keeps I.bk;have hC:=codeHd_of_K I.ku mk.hd;obtain⟨bm,ob,b1,b2,b3,b4,b5,b6⟩:=mk.bm;have W2:s.heap.get? bm=some ob:=I.bk _ _ b3;have hgP:mainGlobals≠P:=λz=>by obtain⟨o,es,ep,e,d,_⟩:=id hg;rw[z,W0]at e;cases e;cases d
 have hbG:bm≠mainGlobals:=λz=>by obtain⟨o,es,ep,e,d,_⟩:=id hg;rw[<-z,W2]at e;cases e;rw[b6]at d;cases d
 have hbP:bm≠P:=λz=>by rw[z,W0]at W2;cases W2;cases b4
 have hB:s.heap.BuiltinsAt X.mg P:=⟨bm,ob,b1,b2,hbG,hbP,W2,b4,b5,b6⟩;have hqs:H P≠none:=by rw[hP];nofun
 refine PySem.W.kla_eval HC ?_;rw[hq];cases hf:codeAmong pos ps.toList with|none=>(refine PySem.W.kla_makeFunction A5 I.ok.glob hg oB hC W0 ok.1 hf hgP hB λc' lQ h' tk hx h1 h2 hr hp=>?_;obtain⟨c2,oc,vs,t,e2,Wo,hd,hv⟩:=hr;cases e2;have J:=I.tab (tk:=tk) (fo:=xy X q params body scope ((X.mg "__name__").getD .none) (.ref c') lQ) hP hx h1 h2 Wo hp;have hcP:c'≠P:=λz=>absurd (zl (I.aG.lt hP)<|z ▸ h1)<|yx _;have nc:H c'=none:=I.aG.fresh h1;have fresh:∀b,h'.objs.size<=b->upd (upd H P<|.pQ<|ps++#[rawInt pos.line,rawInt pos.col,.ref c']) c' (.k7 oc<|.own 0) b=none:=λb hb=>(by have uQ:s.heap.objs.size<=b:=zL (zL h1<|yM h2) hb;rw[ar<|yk<|zl h2 hb,ar<|yk<|zl (I.aG.lt hP) uQ];exact I.aG.fresh uQ);have hsz:s.heap.objs.size<=h'.objs.size:=zL h1<|yM h2;refine h _ _ _ h'.objs.size _ _ _ {rfl,J.C7 (zk _ rfl) (fresh _<|zo _) (I.WY hsz) (λv z=>nomatch z),⟨c',oc,vs,t,rfl,aC,hd,hv⟩,λb=>?_};by_cases RT:b=c';subst RT;exact .inr<|.inr ⟨nc,oc,aC⟩;by_cases hb:b=P;subst hb;refine .inr<|.inl {rfl,_,by rw[ar RT,aC],?_,λp2 cv e=>?_};rw[Array.toList_append];exact TriplesOk_snoc _ _ _ _ ok.1;rw[Array.toList_append]at e;rcases BB _ ok.1 e with e|e;obtain⟨d,o,ws,t2,z1,z2,z3⟩:=ok.2 p2 cv e;exact{d,o,ws,t2,z1,by rw[ar<|ax z2 nc,ar λz=>by rw[z,hP]at z2;cases z2];exact z2,z3};exact⟨c',oc,vs,t,e,aC,hd,hv⟩;exact .inl<|by rw[ar RT,ar hb])|some cv=>refine PySem.W.kla_makeFunctionHit A5 I.ok.glob hg oB hC W0 ok.1 hf hB λlQ h' tk hk hsz=>?_;have J:Inv X pins σ H {s with heap:=h'.push<|xy X q params body scope ((X.mg "__name__").getD .none) cv lQ,toks:=tk}:=I.kept λb u e=>za _<|hk b u e;exact h _ _ _ h'.objs.size _ _ _ {rfl,J.C7 (zk _ rfl) (I.aG.fresh hsz) (I.WY hsz) (λv z=>nomatch z),ok.2 pos cv hf,λb=>.inl rfl}
end
def Vc:D->D->Prop|.int a,.int b=>a<b|.str a,.str b=>a.cps.toList<b.cps.toList|_,_=>False
def xC(ks:List D):Prop:=(∃zs:List Str,ks=zs.map D.str)\/∃ns:List Int,ks=ns.map D.int
structure PZ(b:Bool)(key:Nat->D)(n:Nat)(g:Nat->Nat):Prop where
 lt:∀k,k<n->g k<n
 inj:∀i j,i<n->j<n->g i=g j->i=j
 ord:∀i j,i<j->j<n->(if b=true then Vc (key<|g j) (key<|g i) else Vc (key<|g i) (key<|g j))\/(key (g i)=key (g j)/\g i<g j)
def xD(b:Bool)(P:Addr)(q:Str)(src:List<|Option Nat)(te:TD)(σ:SD)(R:KD)(d:D)(S1:aw):Prop:=∃(l:Addr)(xs:List D)(f:D->D),d=.ref l/\S1 l=some (.lst xs)/\xs.length<64/\S1 P=some (.tab q)/\xC (xs.map f)/\(∀x,x∈xs->∀S',Sub S1 S'->∀Qk:KD,(∀S2,Sub S' S2->Qk (f x) S2)->te ((oA σ src).set 0<|some x) S' Qk Zf)/\∀g S2 p,PZ b (λj=>f<|xs.getD j .ao) xs.length g->Sub S1 S2->S2 p=none->R (.ref p) (S2.set p<|.lst<|(List.range xs.length).map λk=>xs.getD (g k) .ao)
def Nd(b:Bool)(P:Addr)(q:Str)(src:List<|Option Nat)(tl te:TD):TD:=λσ S R Z=>tl σ S (λd S1=>xD b P q src te σ R d S1) Z
def HD(F:D->aw->Prop):List D->aw->Prop|[d],S=>F d S|_,_=>False
theorem C8{F:D->aw->Prop}{ds:List D}{S:aw}(h:HD F ds S):∃d,ds=[d]/\F d S:=by match ds,h with|[d],h=>exact⟨d,rfl,h⟩
theorem qO:∀{ss:List Int}{az:List Value},Vals (ss.map V.int) az->IntsAre az ss|[],_,.nil=>.nil|z::ss,_,.cons r t=>by obtain⟨tk,rfl⟩:=r;exact .cons z tk<|qO t
theorem qP:∀{us:List Value}{zs:List Str},StrsAre us zs->∀j,j<zs.length->iW strKind us j=(zs.getD j "").cps.toList|_,_,.cons z t h,0,_=>rfl|_,_,.cons z t h,j+1,hj=>by have:=qP h j (by simpa using hj);unfold iW at this⊢;rw[List.getD_cons_succ,List.getD_cons_succ];exact this
theorem qQ:∀{us:List Value}{zs:List Int},IntsAre us zs->∀j,j<zs.length->iW intK us j=zs.getD j 0|_,_,.cons z t h,0,_=>rfl|_,_,.cons z t h,j+1,hj=>by have:=qQ h j (by simpa using hj);unfold iW at this⊢;rw[List.getD_cons_succ,List.getD_cons_succ];exact this
theorem HE(h:StrsAre us zs):∀u∈us,∃x,strKind.keyOf u=some x:=by induction h with|nil=>(intro u hu;cases hu)|cons z t h ih=>intro u hu;rcases zf.mp hu with rfl|hu;exact{_,rfl};exact ih u hu
theorem HF(h:IntsAre us zs):∀u∈us,∃x,intK.keyOf u=some x:=by induction h with|nil=>(intro u hu;cases hu)|cons z t h ih=>intro u hu;rcases zf.mp hu with rfl|hu;exact{_,rfl};exact ih u hu
theorem HG{xs:List D}{f:D->D}{j:Nat}(hj:j<xs.length):(xs.map f)[j]?=some (f<|xs.getD j .ao):=by rw[zr,zE,ze hj];rfl
theorem vj{K:Frag}{H:Hp}{ds:List D}{xs:List V}(h:RvAll K H ds xs)(g:Nat->Nat):∀(ns:List Nat),(∀k∈ns,g k<ds.length)->RvAll K H (ns.map λk=>ds.getD (g k) .ao) (ns.map λk=>xs.getD (g k) .ao)|[],_=>bh|k::ns,hk=>by have ZA:=hk k zp;obtain⟨v,e,r⟩:=h.get<|ze ZA;refine aT ?_<|vj h g ns λk b8=>hk k<|zh _ b8;show Rv K H (ds.getD (g k) .ao) (xs.getD (g k) .ao);rw[zE,ze ZA,zE,e];exact r
section
variable{K:Frag}{Y:Cx}{pins:List (Addr×Obj)}{τ:St}{H H2:Hp}{s:Shared}{N:List Str}{src:List (Option Nat)}{scope:Scope}{params:Arguments}{body:Expr}{q p:Str}{pm cv lQ:Value}{f l:Addr}{te:TD}{b:Bool}{kw:List (Str×Value)}{k:Nat}
theorem xE{σ:SD}{S1:aw}{xs:List D}{fD:D->D}{Q:VK}{R:KD}{E:Value->Shared->Prop}(I:Inv Y (pins++[(f,xy Y q params body scope pm cv lQ)]) τ H s)(hK:Y.K=K)(Vd:Y.calm=true)(hr:bf k Y.A)(oB:∃c o vs t,cv=.ref c/\H c=some (.k7 o<|.own 0)/\o.data=.fields vs/\vs[1]?=some (.str q t)) (CS:bA Y N src scope) (Lk:N[0]?=some p) (hp:scope.names.lookup p=some .local) (h0:src[0]?=some none) (Ll:scope.isCoroutine=false) (Bz:scope.isGenerator=false) (hb:∀cl pm cv lQ u,bindArgs (kla_fn "<lambda>" q params body scope cl pm cv lQ) {[u],[]}=pure [(p,u)]) (he:∀cv s H,DE K (RM Y N q scope f cv Y.A.in1.in1 s H) body te) (aB:fX K H σ τ) (hS:Rs K S1 H) (hl:S1 l=some (.lst xs)) (FU:xs.length<64) (kd:xC<|xs.map fD) (step:∀x,x∈xs->∀S',Sub S1 S'->∀Qk:KD,(∀S2,Sub S' S2->Qk (fD x) S2)->te ((oA σ src).set 0<|some x) S' Qk Zf) (hR:Cn K H R Q) (fin:∀g S2 p,PZ b (λj=>fD<|xs.getD j .ao) xs.length g->Sub S1 S2->S2 p=none->R (.ref p) (S2.set p<|.lst<|(List.range xs.length).map λk=>xs.getD (g k) .ao)) (RN:argsOk "sorted" {[.ref l],kw}) (RO:∀x,argsOk "list.sort" {[.ref x],kw}) (ht:∀x,Builtin.«list.sort» {[.ref x],kw}=ksk_tree x (.ref f) b): wpAny (model Y.prog Y.w) Y.A (call (.builtin "sorted") [.ref l] kw) (EP Y pins τ Q) E s:=by
 subst hK;obtain⟨vs,hv,rv⟩:=hS.lst hl;have RP:vs.length=xs.length:=rv.len;obtain⟨c,oc,ws,tk,ecv,hc,pT,hcq⟩:=oB;have drop:∀{u:Value}{s':Shared},EP Y (pins++[(f,xy Y q params body scope pm cv lQ)]) τ Q u s'->EP Y pins τ Q u s':=λ⟨v,H',J,r,q⟩=>{v,H',{J.ok,J.os,J.bare,J.base,J.loc,J.cell,J.free,J.c8,λp hp=>J.pin p<|by rcases zR.mp hp with z|z;exact zS _ z;exact zC _<|zS _ z,J.aG,J.len},r,q};have T:HB Y (pins++[(f,xy Y q params body scope pm cv lQ)]) τ Y.A.in1.in1 f vs λi ks H'=>∃S',Sub S1 S'/\Rs Y.K S' H'/\Kp Y.K H H'/\RvAll Y.K H' ((xs.take i).map fD) ks:=by rintro i x u ks s' H' more I' ⟨S',sb,rs,kp,rk⟩ hx ru;have hi:i<xs.length:=(by have:=(zg.mp hx).1;lia);obtain⟨v,e1,r1⟩:=rv.get<|ze hi;rw[hx]at e1;cases e1;have po:=(I'.pin (f,xy Y q params body scope pm cv lQ)<|zC _<|zS _<|zC _<|by simp).1;have hcr:s'.heap.CodeRec cv q:={c,oc,ws,tk,ecv,(I'.aG c _<|kp.f _ _ _ hc).1,pT,hcq};refine Hx (A:=Y.A.in1.in1) I' CS Lk hp h0 I'.ok.frames (I'.ok.hd Vd) (by have:=hr.dp;show Y.A.depth<_;lia) ru po hcr Ll Bz (hb _ _ _ _ _) ((he cv s' H').of<|.none _ rfl) ?_;refine{_,S',λkk S2=>kk=fD xs[i]/\Sub S' S2,Zf,((aB.ts kp).pick src).set 0<|Rv.ts kp _ r1,rs,step _ (List.getElem_mem hi) S' sb _ λS2 h2=>⟨rfl,h2⟩,λkk S2 v2 H2 ⟨e2,Et⟩ RU ZE W3=>?_,.f};subst e2;refine{S2,sb.trans Et,ZE,kp.trans W3,?_};rw[show xs.take (i+1)=xs.take i++[xs[i]] by rw[List.take_add_one,ze hi];rfl,zH];exact(RvAll.ts W3 _ rk).app<|aT RU bh
 have w0:∃S',Sub S1 S'/\Rs Y.K S' H/\Kp Y.K H H/\RvAll Y.K H ((xs.take 0).map fD) []:={S1,.refl _,hS,.refl _,by rw[List.take_zero];exact bh};have Wu:jd Y.K H l vs:=.of hv;rcases kd with⟨zs,ez⟩|⟨zs,ez⟩;have ZF:zs.length=xs.length:=by have:=congrArg List.length ez;rw[zc,zc]at this;exact this.symm
 have ka:∀j,j<xs.length->fD (xs.getD j .ao)=.str (zs.getD j ""):=λj hj=>by have e1:=HG (f:=fD) hj;rw[ez,zr,ze<|by lia]at e1;rw[zE (l:=zs),ze<|by lia];exact(zU e1).symm
 have kv:∀ks us H',(∃S',Sub S1 S'/\Rs Y.K S' H'/\Kp Y.K H H'/\RvAll Y.K H' ((xs.take vs.length).map fD) ks)->Vals ks us->StrsAre us zs:=λks us H' ⟨S',_,_,_,rk⟩ hu=>by rw[RP,List.take_length,ez]at rk;rw[rk.strs]at hu;exact qM hu
 refine yj (uu (κ:=strKind) (Q:=Q) (b:=b) strKind_oneLt I Wu (by lia) RN RO ht T w0 (λks us H' w1 v1 l1=>{HE<|kv ks us H' w1 v1,λnC nD rest e=>keyKind_strs<|by rw[<-e];exact kv ks us H' w1 v1}) λH' ks us g D w1 v1 l1 sr hD=>?_) (λu s' z=>drop z) λ_ _ z=>z;have sk:=kv ks us H' w1 v1;obtain⟨S',sb,rs,kp,rk⟩:=w1;rw[RP]at sr⊢;refine(hR.kp kp).new rs hD (λhp=>fin g S' D {sr.lt,sr.inj,λi j lg hj=>?_} sb hp)<|vj (RvAll.ts kp _ rv) g _ λk hk=>sr.lt k<|zT.mp hk;have h1:=sr.lt i (by lia);have h2:=sr.lt j hj;have:=sr.ord i j lg hj;rw[qP sk _<|by lia,qP sk _<|by lia]at this;rw[ka _ h1,ka _ h2];rcases this with z|⟨z1,z2⟩;left;cases b with|false=>rw[if_neg zd]at z⊢;show(zs.getD (g i) "").cps.toList<(zs.getD (g j) "").cps.toList;exact zi z|true=>rw[if_pos rfl]at z⊢;show(zs.getD (g j) "").cps.toList<(zs.getD (g i) "").cps.toList;exact zi z
 exact .inr {by rw[Zs z1],z2};have ZF:zs.length=xs.length:=by have:=congrArg List.length ez;rw[zc,zc]at this;exact this.symm
 have ka:∀j,j<xs.length->fD (xs.getD j .ao)=.int (zs.getD j 0):=λj hj=>by have e1:=HG (f:=fD) hj;rw[ez,zr,ze<|by lia]at e1;rw[zE (l:=zs),ze<|by lia];exact(zU e1).symm
 have kv:∀ks us H',(∃S',Sub S1 S'/\Rs Y.K S' H'/\Kp Y.K H H'/\RvAll Y.K H' ((xs.take vs.length).map fD) ks)->Vals ks us->IntsAre us zs:=λks us H' ⟨S',_,_,_,rk⟩ hu=>by rw[RP,List.take_length,ez]at rk;rw[rk.ints]at hu;exact qO hu
 refine yj (uu (κ:=intK) (Q:=Q) (b:=b) Hy I Wu (by lia) RN RO ht T w0 (λks us H' w1 v1 l1=>{HF<|kv ks us H' w1 v1,λnC nD rest e=>keyKind_ints<|by rw[<-e];exact kv ks us H' w1 v1}) λH' ks us g D w1 v1 l1 sr hD=>?_) (λu s' z=>drop z) λ_ _ z=>z;have sk:=kv ks us H' w1 v1;obtain⟨S',sb,rs,kp,rk⟩:=w1;rw[RP]at sr⊢;refine(hR.kp kp).new rs hD (λhp=>fin g S' D {sr.lt,sr.inj,λi j lg hj=>?_} sb hp)<|vj (RvAll.ts kp _ rv) g _ λk hk=>sr.lt k<|zT.mp hk;have h1:=sr.lt i (by lia);have h2:=sr.lt j hj;have:=sr.ord i j lg hj;rw[qQ sk _<|by lia,qQ sk _<|by lia]at this;rw[ka _ h1,ka _ h2];rcases this with z|⟨z1,z2⟩;left;cases b with|false=>rw[if_neg zd]at z⊢;show zs.getD (g i) 0<zs.getD (g j) 0;exact zi z|true=>rw[if_pos rfl]at z⊢;show zs.getD (g j) 0<zs.getD (g i) 0;exact zi z
 exact .inr {by rw[z1],z2}
end
section
variable{K:Frag}{X:Cx}{N:List Str}{src:List (Option Nat)}{scope:Scope}{params:Arguments}{e body:Expr}{q p x:Str}{np pos lp kq kq2 cp:Pos}{ci}{tl te:TD}{k:Nat}{c P:Addr}
theorem Vb.kp{pins:List<|Addr×Obj}{τ:St}{H H':Hp}{u:Value}{s':Shared}{f:Addr}{pm cv lQ:Value}{Y:Cx}(L:Vb Y pins τ H H' P q params body scope u s' f pm cv lQ){ps:Array Value}(hP:H P=some (.pQ ps)):Kp K H H':=.of λb o e=>by rcases L.same b with z|⟨z,_⟩|⟨z,_⟩;exact .inl (by rw[z];exact e);rw[z,hP]at e;cases e;exact .inr {λ_=>nofun,λ_ _=>nofun};rw[z]at e;cases e
theorem Vb.rs{pins:List<|Addr×Obj}{τ:St}{H H':Hp}{u:Value}{s':Shared}{f:Addr}{pm cv lQ:Value}{Y:Cx}{S:aw}(L:Vb Y pins τ H H' P q params body scope u s' f pm cv lQ)(hS:Rs K S H)(ht:S P=some (.tab q)):Rs K S H':=λb x hb=>by obtain⟨ps,hP,_⟩:=hS P _ ht;have kp:Kp K H H':=L.kp hP;rcases L.same b with z|⟨rfl,RS,z1,z2⟩|⟨z,_⟩;exact(hS b x hb).keep (λo e=>by rw[z];exact e) kp;rw[ht]at hb;cases hb;exact⟨RS,z1,z2⟩;obtain⟨o,e,_⟩:=(hS b x hb).has;rw[z]at e;cases e
theorem Ve(oB:X.env.code=.ref c)(mk:ZC K X.mg X.base c P)(hr:bf k X.A)(CS:bA X N src scope)(hl:DE K X e tl)(he:∀f cv s H,DE K (RM X N q scope f cv X.A.in1.in1 s H) body te)(hm:X.mg x=none)(hv:bootBuiltins x=some (.builtin "sorted")) (hq:autoParam (X.env.qual ++ "<lambda>"= q) qQJ) (Lk:autoParam (N[0]?=some p) qQJ) (hp:autoParam (scope.names.lookup p=some .local) qQJ) (h0:autoParam (src[0]?=some none) qQJ) (Ll:autoParam (scope.isCoroutine=false) qQJ) (Bz:autoParam (scope.isGenerator=false) qQJ) (hb:autoParam (∀cl pm cv lQ u,bindArgs (kla_fn "<lambda>" q params body scope cl pm cv lQ) {[u],[]}=pure [(p,u)]) qJ1) (HC:autoParam (defaultsOf params X.env=([],[])) qQJ) (hg:autoParam (Gl X x) qQJ) (hn:autoParam (x≠"__name__") qQZ) (i8:autoParam ((x==("__debug__": Str))=false) qQZ) (Vf:autoParam (backTo pos (starEach [e] X.env)=(false,eval e X.env)::backTo pos (starEach [] X.env)) qQJ) (eX:autoParam ((backTo pos<|starEach [e] X.env).any (·.1)=false) qQJ) (ZG:autoParam (isPlain e=true) qQJ) (hK:autoParam (X.K=K) qQJ) (hC:autoParam (X.calm=true) qQJ): DE K X (.Call (.Name x np) [e] [{some "key",.Lambda params body scope lp,kq}] pos) (Nd false P q src tl te):=by subst hK;refine⟨λy=>?_⟩;rintro pins s τ H Q I ⟨σ,S,R,Z,aB,hS,t,hR,hZ⟩;refine yD<|gA I hg hm hv ?_ hn i8;refine callWith_kw (aX (((ac hl an ZG).of y) pos pins s τ H (λvs H1=>∃ds S1,HD (xD false P q src te σ R) ds S1/\RvAll X.K H1 ds vs/\Rs X.K S1 H1/\Kp X.K H H1) I {σ,S,HD<|xD false P q src te σ R,Z,aB,hS,t,λds S1 vs H1 r rv rs k1=>⟨ds,S1,r,rv,rs,k1⟩,hZ}) λus s1 ⟨vs,H1,I1,r1,ds,S1,r,rv,rs,k1⟩=>?_) Vf eX;obtain⟨d,rfl,l,xs,fD,rfl,el,FU,et,kd,step,fin⟩:=C8 r;obtain⟨v,Yt,rfl,Vh,RU⟩:=rv.cons;cases RU.nil;cases Vh.ref;obtain⟨u,rfl,ru⟩:=vals1 r1;cases ru;obtain⟨ps,hP,aG⟩:=rs P _ et;refine kws_cons<|xB I1 ⟨CS.kind,CS.gC,CS.loc,CS.As,CS.len,CS.src⟩ oB mk hP aG hq HC λw s2 H2 f pm cv lQ L=>?_;refine kws_nil ?_;cases L.u;have k2:Kp X.K H1 H2:=L.kp hP;exact xE L.inv rfl hC hr L.code ⟨CS.kind,CS.gC,CS.loc,CS.As,CS.len,CS.src⟩ Lk hp h0 Ll Bz hb (he f) ((aB.ts k1).ts k2) (L.rs rs et) el FU kd step (hR.kp<|k1.trans k2) fin (ksk_s1 _ _) (λx=>ksk_l1 _ _) λx=>ksk_t1 _ _
theorem Nf(oB:X.env.code=.ref c)(mk:ZC K X.mg X.base c P)(hr:bf k X.A)(CS:bA X N src scope)(hl:DE K X e tl)(he:∀f cv s H,DE K (RM X N q scope f cv X.A.in1.in1 s H) body te)(hm:X.mg x=none)(hv:bootBuiltins x=some (.builtin "sorted")) (hq:autoParam (X.env.qual ++ "<lambda>"= q) qQJ) (Lk:autoParam (N[0]?=some p) qQJ) (hp:autoParam (scope.names.lookup p=some .local) qQJ) (h0:autoParam (src[0]?=some none) qQJ) (Ll:autoParam (scope.isCoroutine=false) qQJ) (Bz:autoParam (scope.isGenerator=false) qQJ) (hb:autoParam (∀cl pm cv lQ u,bindArgs (kla_fn "<lambda>" q params body scope cl pm cv lQ) {[u],[]}=pure [(p,u)]) qJ1) (HC:autoParam (defaultsOf params X.env=([],[])) qQJ) (hg:autoParam (Gl X x) qQJ) (hn:autoParam (x≠"__name__") qQZ) (i8:autoParam ((x==("__debug__": Str))=false) qQZ) (Vf:autoParam (backTo pos (starEach [e] X.env)=(false,eval e X.env)::backTo pos (starEach [] X.env)) qQJ) (eX:autoParam ((backTo pos<|starEach [e] X.env).any (·.1)=false) qQJ) (ZG:autoParam (isPlain e=true) qQJ) (hK:autoParam (X.K=K) qQJ) (hC:autoParam (X.calm=true) qQJ): DE K X (.Call (.Name x np) [e] [{some "key",.Lambda params body scope lp,kq},{some "reverse",.Constant (.bool true) ci cp,kq2}] pos) (Nd true P q src tl te):=by subst hK;refine⟨λy=>?_⟩;rintro pins s τ H Q I ⟨σ,S,R,Z,aB,hS,t,hR,hZ⟩;refine yD<|gA I hg hm hv ?_ hn i8;refine callWith_kw (aX (((ac hl an ZG).of y) pos pins s τ H (λvs H1=>∃ds S1,HD (xD true P q src te σ R) ds S1/\RvAll X.K H1 ds vs/\Rs X.K S1 H1/\Kp X.K H H1) I {σ,S,HD<|xD true P q src te σ R,Z,aB,hS,t,λds S1 vs H1 r rv rs k1=>⟨ds,S1,r,rv,rs,k1⟩,hZ}) λus s1 ⟨vs,H1,I1,r1,ds,S1,r,rv,rs,k1⟩=>?_) Vf eX;obtain⟨d,rfl,l,xs,fD,rfl,el,FU,et,kd,step,fin⟩:=C8 r;obtain⟨v,Yt,rfl,Vh,RU⟩:=rv.cons;cases RU.nil;cases Vh.ref;obtain⟨u,rfl,ru⟩:=vals1 r1;cases ru;obtain⟨ps,hP,aG⟩:=rs P _ et;refine kws_cons<|xB I1 ⟨CS.kind,CS.gC,CS.loc,CS.As,CS.len,CS.src⟩ oB mk hP aG hq HC λw s2 H2 f pm cv lQ L=>?_;refine kws_cons<|aX (MD (X:=y.cx) _ s2 τ H2 (λv H'=>v=.bl true/\H'=H2) L.inv ⟨rfl,rfl⟩) λw2 s3 ⟨v2,H3,I3,r3,e3,e4⟩=>?_;subst e3 e4;obtain rfl:w2=Value.bool true:=r3;refine kws_nil ?_;cases L.u;have k2:Kp X.K H1 H3:=L.kp hP;exact xE I3 rfl hC hr L.code ⟨CS.kind,CS.gC,CS.loc,CS.As,CS.len,CS.src⟩ Lk hp h0 Ll Bz hb (he f) ((aB.ts k1).ts k2) (L.rs rs et) el FU kd step (hR.kp<|k1.trans k2) fin (ksk_s2 _ _ _) (λx=>ksk_l2 _ _ _) λx=>ksk_t2 _ _ _
end
section
variable{P:Program}{w:World}{K:Frag}{mg:Str->Option Value}{base:Heap}
theorem nB.okC{x qual:Str}{st:Stmt}{f:Addr}{fd:FuncData}{N ps:List Str}{k:Nat}{sp:jm}(F:nB K x qual st f fd)(S:eK N ps<|ae st)(len:∀ds S R Z,sp ds S R Z->ds.length=ps.length) (gO:∀(eL:Value)(A:Around)(outer:List Env)(s:Shared)(H:Hp)(E:XK)(ds:List D)(S:aw)(R:KD)(Z:KX),eL=fd.code->bf k (A.deeper<|envOfC qual (ae st) s.heap.objs.size f eL)->sp ds S R Z->∃t,xt K (ig (fi P w mg) P w K mg base N qual (ae st) f eL A outer s H E) true (aW st) t/\t {nx:=λ_ S'=>Fo S'<|R .ao,rt:=λd S'=>Fo S'<|R d} (d_ N ds) S λ_ C S'=>Fo S'<|Z C):bD P w K mg base (fi P w mg) (k+1) f fd ps (qL K sp):=by
 obtain⟨oc,od,dV,kV,doc,pm,an,eL,ct,ML,rfl,lk,pT⟩:=F.ex;have eX:ps.length<=N.length:=by have:=congrArg List.length S.pre;rw[yh]at this;lia
 refine MK lk pT S (by rintro vs H Q E ⟨ds,S',R,Z,v,_,h,_⟩;exact by rw[v.len];exact len _ _ _ _ h) λA outer s H vs Q E hr ⟨ds,S',R,Z,v,hS,h,hR,hZ⟩=>?_;obtain⟨t,ht,q⟩:=gO eL A outer s H E ds S' R Z rfl hr h;have L:cO (ig (fi P w mg) P w K mg base N qual (ae st) f eL A outer s H E) E:=ud;let y:Ev (ig (fi P w mg) P w K mg base N qual (ae st) f eL A outer s H E) true:={_,(ig (fi P w mg) P w K mg base N qual (ae st) f eL A outer s H E).xe,λ_=>E,{λp2 τ H1 s1 e s' I h=>MQ L p2 τ H1 s1 e s' I h,λ_ p2 τ H1 s1 h' a cls args I hx he=>oz L I hx he,λ_=>PassesOwn.leaving}};refine{L2.Tl K (λ_=>E) t,ht.of y,d_ N ds,S',_,λ_ C S'=>Fo S'<|Z C,?_,hS,q,{by rintro σ S1 τ H1 ⟨S2,sb,r⟩ a b c;exact(hR.kp c).now (b.sub sb) r ip,by rintro d S1 v H1 ⟨S2,sb,r⟩ a b c;exact hR _ _ _ _ r a (b.sub sb) c,λ_ _ _ _ z=>z.elim,λ_ _ _ _ z=>z.elim},by rintro σ τ C S1 H1 ⟨S2,sb,r⟩ a b c;exact hZ C S2 H1 r (b.sub sb) c};unfold d_ start;refine(l6 v).app ?_;rw[v.len];exact l5 _ _<|by rw[yf]
end
structure xG(ts:List Addr)(H:Hp):Prop where
 all:∀b,H b=none\/(∃o xs,H b=some (.k7 o<|.lst xs))\/(b∈ts/\H b=some (.pQ #[]))
 tab:∀b∈ts,H b=some (.pQ #[])
theorem EU{P:Program}{w:World}{K:Frag}{mg mb:Str->Option Value}{CX:AW}{k:Nat}{fa a:Addr}{fd:FuncData}{x:Str}{sp:Sp}{aU:Shared}{vs:List Value}{ns:List Int}{ts:List Addr} (KX:K.In aU.heap) (PR:aU.heap.Ns mainGlobals mg) (hb:aU.heap.Ns builtinsNs mb) (hbb:∀x:Str,x≠"__name__"->mb x=bootBuiltins x) (ZH:aU.heap.NoLimit) (hbm:Bm mg aU.heap) (hg:aU.gens=#[]) (hT:∀b∈ts,aU.heap.get? b=some (tabObj #[])) (hC:∀b∈ts,isCodeTable aU.heap b) (hN:∀b∈ts,K.lookup b=none) (ha:aU.heap.get? a=some {cls:=.type "list",data:=.seq vs.toArray}) (hi:IntsAre vs ns) (hl:ns.length<=sizeLine) (hr:bf k callerA) (F:∀base:Heap,Bm mg base->K.In base->base.Ns mainGlobals mg->bD P w K mg base CX k fa fd [x] sp) (Vi:∀(s:Shared) (u:Value),BindsTo s fd {[u],[]} [(x,u)]) (MM:∀H:Hp,xG ts H->jd K H a (ns.map V.int)->sp [.ref a] H (λv _=>v=.bl true) λ_ _ _=>False) (ZI:∀H e s',CX [] H aU (λ_ _ _=>False) e s'->False): codeAny (model P w) callerA (.call (.ref fa) {[.ref a],[]}) (λr s'=>r=.ok (.ret<|.bool true)/\OldK aU.heap s'.heap/\s'.os=aU.os/\AllBare s'.gens) aU:=by
 have rv:=t6 hi;have ZJ:=hi.length;have WR:a∉ts:=λz=>by rw[hT a z]at ha;cases ha
 have core:∀H:Hp,xG ts H->jd K H a (ns.map V.int)->kr P w H aU.heap->(∀b,H b≠none->b=a\/b∈ts)->(H a≠none->K.lookup a=none)->codeAny (model P w) callerA (.call (.ref fa) {[.ref a],[]}) (λr s'=>r=.ok (.ret<|.bool true)/\OldK aU.heap s'.heap/\s'.os=aU.os/\AllBare s'.gens) aU:=by intro H hO hS aG hA hK;have vk:∀{b:Addr}{o:Obj},aU.heap.get? b=some o->H b=none->(sM aU.heap H).get? b=some o:=λe n=>FX e n;have Kc:∀{b:Addr}{o:Obj}{es:Array DictEntry}{ep:Nat},aU.heap.get? b=some o->o.data=.dict es ep->H b=none:=λ{b o es ep} e d=>(by cases q:H b with|none=>rfl|some u=>rcases hA b (by rw[q];simp) with e'|e';subst e';rw[ha]at e;cases e;have d':Data.seq vs.toArray _=Data.dict es ep:=d;cases d';rw[hT b e']at e;cases e;cases d);have W4:∀{b:Addr}{m:Str->Option Value},aU.heap.Ns b m->(sM aU.heap H).Ns b m:=λ{b m} ⟨o,es,ep,e,d,r⟩=>{o,es,ep,vk e<|Kc e d,d,r};have hKb:K.In (sM aU.heap H):=λb o e=>vk (KX b o e) (by cases q:H b with|none=>rfl|some u=>rcases hA b (by rw[q];simp) with e'|e';subst e';rw[hK<|by rw[q];simp]at e;cases e;rw[hN b e']at e;cases e);have hM:Mod K mg (sM aU.heap H):={hKb,W4 PR,{mb,W4 hb,hbb},by obtain⟨mc,h1,h2⟩:=ZH;exact{mc,W4 h1,h2}};have e0:uR P w K mg (sM aU.heap H) callerA [] aU H:={rfl,hM,λb o e=>JR e,Nat.le_of_eq<|D2 _ _,trivial,λb hb=>absurd (show b∈([]:List Addr) from hb)<|by simp,aG,.of_eq hg};have hBm:Bm mg (sM aU.heap H):=(by obtain⟨bm,ob,b1,b2,b3,b4,b5,b6⟩:=hbm;refine{bm,ob,b1,b2,vk b3 ?_,b4,b5,b6};cases q:H bm with|none=>rfl|some u=>rcases hA bm (by rw[q];simp) with e'|e';rw[e',ha]at b3;cases b3;cases b6;rw[hT bm e']at b3;cases b3;cases b4);refine yN ((F _ hBm hKb<|W4 PR).run callerA [] aU H {[.ref a],[]} [.ref a] [.ref a] _ _ hr e0 (Vi aU<|.ref a) (.cons rfl .nil)<|MM H hO hS) λr s' h=>?_;cases r with|error e=>exact(ZI H e s' h).elim|ok fl=>cases fl with|next=>exact False.elim h|brk=>exact False.elim h|cont=>exact False.elim h|ret u=>obtain⟨v,H',os,bare,un,Vj,r',q⟩:=h;have q':v=.bl true:=q;subst q';obtain rfl:u=Value.bool true:=r';refine{rfl,{λb o e=>?_,λb o e=>un.there b o e<|by simp},os,bare};rcases hO.all b with z|⟨ob,xs,z⟩|⟨z1,z⟩;exact .inl<|un.keep b o e z (by intro z;exact absurd (show b∈([]:List Addr) from z)<|by simp) (by simp);have z2:=un.fG b ob _ z;obtain⟨e1,_⟩:=aG b _ z;obtain⟨e2,_⟩:=Vj b _ z2;rw[e]at e1;cases e1;exact .inl e2;obtain⟨more,z2⟩:=un.fH b _ z;have e2:=hT b z1;rw[e]at e2;cases e2;exact .inr<|.inl {hC b z1,rfl,#[],more,rfl,by have:=Vj b _ z2;exact this}
 have tabs:∀(H:Hp),(∀b,b∈ts->H b=some (.pQ #[]))->∀b u,b∈ts->H b=some u->aV P w H aU.heap b u:=λH h b u hb e=>by rw[h b hb]at e;cases e;exact hT b hb
 cases hk:K.lookup a with|some o=>(have e:=KX a o hk;rw[ha]at e;cases e;refine core (λb=>if b∈ts then some (.pQ #[]) else none) {λb=>?_,λb hb=>if_pos hb} (.inr {_,vs.toArray,_,hk,rfl,rfl,rfl,by rw[zm,ZJ];exact hl,by simpa using rv}) (λb u z=>?_) (λb z=>?_) λz=>absurd (if_neg WR) z;by_cases hb:b∈ts;exact .inr<|.inr {hb,if_pos hb};exact .inl<|if_neg hb;by_cases hb:b∈ts;exact tabs _ (λb hb=>if_pos hb) b u hb z;have z':=(if_neg hb).symm.trans z;cases z';by_cases hb:b∈ts;exact .inr hb;exact absurd (if_neg hb) z)|none=>refine core (λb=>if b=a then some (.k7 {cls:=.type "list",data:=.seq vs.toArray}<|.lst<|ns.map V.int) else if b∈ts then some (.pQ #[]) else none) {λb=>?_,λb hb=>?_} (.inl<|.inr {{cls:=.type "list",data:=.seq vs.toArray},if_pos rfl}) (λb u z=>?_) (λb z=>?_) λ_=>hk;by_cases hb:b=a;exact .inr<|.inl {_,_,if_pos hb};by_cases EO:b∈ts;exact .inr<|.inr {EO,(if_neg hb).trans<|if_pos EO};exact .inl<|(if_neg hb).trans<|if_neg EO;have:b≠a:=λz=>WR<|z ▸ hb;exact(if_neg this).trans<|if_pos hb;by_cases hb:b=a;have z':=(if_pos hb).symm.trans z;cases z';subst hb;exact{ha,by rw[zc];exact hl,vs,_,rv,ha};have z':=(if_neg hb).symm.trans z;by_cases EO:b∈ts;have z2:=(if_pos EO).symm.trans z';cases z2;exact hT b EO;have z2:=(if_neg EO).symm.trans z';cases z2;by_cases hb:b=a;exact .inl hb;by_cases EO:b∈ts;exact .inr EO;exact absurd ((if_neg hb).trans<|if_neg EO) z
theorem C9:∀{K:Frag},b∉K.map (·.1)->K.lookup b=none|[],_=>rfl| (a,o)::K,h=>by rw[zJ,zf,not_or]at h;rw[zN,show(b==a)=false from beq_false_of_ne h.1];exact C9 h.2
theorem Lo{K:Params->Frag}{as:List Addr}{e:∀P,as=(K P).map (·.1)}{ts:List Addr}{w:World}{h:Heap}(_:(PySem.W.kmHook K as e ts).says w h)(d:∀b∈ts,b∉as):∀b∈ts,(K w.params).lookup b=none:=λb hb=>C9<|by rw[<-e];exact d b hb
theorem HH{l:PySem.W.OpenLaw}{n k:Nat}{q:Program}{loose:List Str}{XP:(Str->Option Value)->Heap->Prop}{YP:World->Heap->Prop}{d:DefRec}{K:Params->Frag}{CX:AW}{x:Str}{ts:List Addr} (hn:l.most=some n) (MI:n<=sizeLine) (Yf:d.params.defaults=[]) (hr:bf k callerA) (hY:∀(w:World)(h:Heap),YP w h->(K w.params).In h) (hT:∀(w:World)(h:Heap),YP w h->∀b∈ts,h.get? b=some (tabObj #[])) (hN:∀(w:World)(h:Heap),YP w h->∀b∈ts,(K w.params).lookup b=none) (F:∀(w:World)(mg:Str->Option Value)(fa:Addr)(h:Heap),(K w.params).In h->h.Ns mainGlobals mg->mg d.name=some (.ref fa)->∃(fd:FuncData)(sp:Sp),(∀b∈ts,∃c,codeHdIn (K w.params) c b=true)/\(∀(s:Shared)(u:Value),BindsTo s fd {[u],[]} [(x,u)])/\(∀base:Heap,Bm mg base->(K w.params).In base->base.Ns mainGlobals mg->bD l.prog w (K w.params) mg base CX k fa fd [x] sp)/\∀(H:Hp)(a:Addr)(ns:List Int),ns.length<=n->xG ts H->jd (K w.params) H a (ns.map V.int)->sp [.ref a] H (λv _=>v=.bl true) λ_ _ _=>False) (ZI:∀(H:Hp)(s:Shared)(e:Value)(s':Shared),CX [] H s (λ_ _ _=>False) e s'->False): PySem.W.WalkO q loose XP YP l.row.toRowW d [] (λf vs=>PySem.call f vs):=by refine Att.wX hn Yf λw cZ aU mg mb fa o pm cd doc a vs ns G Y ho hd pT OX OY hints hlen hg=>?_;have KX:=hY w _ Y;obtain⟨fd,sp,hC,hb,hF,MM⟩:=F w mg fa _ KX G.T.g OX;have hT':=hT w _ Y;exact EU KX G.T.g G.T.b G.T.builtins G.T.nolimit G.T.bmain hg hT' (λb z=>by obtain⟨c,hc⟩:=hC b z;exact((codeHd_of_K KX hc).tab<|hT' b z).isCodeTable) (hN w _ Y) OY hints (zL hlen MI) hr hF hb (λH hO hS=>MM H a ns hlen hO hS) λH e s'=>ZI H aU e s'
namespace Rt
theorem own:Manifest.owners.lookup (String.ofList ['d','e','s','r','e','v','e','r'].reverse)=some Manifest.sig_reversed:=by kernel_rfl
theorem ma:Slot "reversed" "__next__" "reversed.__next__":=.of (owner:="reversed") (n:="__next__") (by rw[typeLookup_type,builtinLookup_eq_fast];kernel_rfl) (by trivial) (by trivial) (by trivial) (by first|exact .inl (by trivial)|exact .inr (by trivial))<|by rw[isSubtype_type];kernel_rfl
theorem C_:entryFor table "reversed.__next__"= some Builtin.«reversed.__next__»:=entryFor_of_tree<|by kernel_rfl
theorem Dc(a:Value):argsOk "reversed.__next__" {[a],[]}:=by unfold argsOk;rw[signature?_of (id:="reversed.__next__") (n:=['_','_','t','x','e','n','_','_']) (o:=['d','e','s','r','e','v','e','r']) (by kernel_rfl) own];kernel_rfl
theorem Dd:Slot "reversed" "__iter__" "reversed.__iter__":=.of (owner:="reversed") (n:="__iter__") (by rw[typeLookup_type,builtinLookup_eq_fast];kernel_rfl) (by trivial) (by trivial) (by trivial) (by first|exact .inl (by trivial)|exact .inr (by trivial))<|by rw[isSubtype_type];kernel_rfl
theorem Lp(a:Value):argsOk "reversed.__iter__" {[a],[]}:=by unfold argsOk;rw[signature?_of (id:="reversed.__iter__") (n:=['_','_','r','e','t','i','_','_']) (o:=['d','e','s','r','e','v','e','r']) (by kernel_rfl) own];kernel_rfl
theorem Lq:entryFor table "reversed.__iter__"= some Builtin.«dict_keyiterator.__iter__»:=entryFor_alias (id':="dict_keyiterator.__iter__") (by kernel_rfl) (by first|rfl|decide +kernel|(unfold String.splitOn;simp +decide [String.splitOnAux])) (by trivial)<|by kernel_rfl
theorem Ls:Slot "reversed" "__init__" "object.__init__":=.of (owner:="object") (n:="__init__") (by rw[typeLookup_type,builtinLookup_eq_fast];kernel_rfl) (by trivial) (by trivial) (by trivial) (by first|exact .inl (by trivial)|exact .inr (by trivial))<|by rw[isSubtype_type];kernel_rfl
theorem called:TypeCalled "reversed" "reversed.__new__" "object.__init__":={by trivial,by trivial,{_,_,F.mro_reversed},F.made_reversed,by trivial,by rw[isSubtype_type];kernel_rfl,Ls}
theorem P0:typeLookup (.type "tuple") "__reversed__"= pure none:=by rw[typeLookup_type,builtinLookup_eq_fast];kernel_rfl
theorem Df:typeLookup (.type "tuple") "__getitem__"= pure (some<|.builtin "tuple.__getitem__"):=by rw[typeLookup_type,builtinLookup_eq_fast];kernel_rfl
theorem Lu:isSubtype (.type "tuple") (.type "dict")=pure false:=by rw[isSubtype_type];kernel_rfl
end Rt
noncomputable def xH(l:Addr)(i:Int):Obj:={cls:=.type "reversed",data:=.fields #[.ref l,rawInt i]}
def qR(h:Heap)(a l:Addr)(i:Int):Prop:=∃o,h.get? a=some o/\o.cls=.type "reversed"/\o.data=.fields #[.ref l,rawInt i]
section
variable{prog:Program}{w:World}{A:Around}{E:Value->Shared->Prop}{s:Shared}
theorem qR.typeIs(x:qR s.heap a l i):s.TypeIs (.ref a) "reversed":=by obtain⟨o,ho,hc,_⟩:=x;exact⟨o,ho,hc⟩
theorem qR.keep(x:qR h a l i)(e:∀o,h.get? a=some o->h'.get? a=some o):qR h' a l i:=by obtain⟨o,ho,r⟩:=x;exact{o,e _ ho,r}
theorem P1(hl:IsTup s.heap l items)(hz:items.size<=sizeLine)(h:Q₁ (.ref s.heap.objs.size) {s with heap:=s.heap.push<|xH l<|(items.size:Int)-1,toks:=s.toks+1+1}): codeAny (model prog w) A (.call (.builtin "reversed.__new__") {[.type "reversed",.ref l],[]}) (wants Q₁ E) s:=by
 refine codeAny_of_tree ?_;show wpAny _ A.in1 (do checkBuiltinCall "reversed.__new__" {[.type "reversed",.ref l],[]};again (.builtin "reversed.__new__" {[.type "reversed",.ref l],[]})) _ _ s;refine zb<|yT (F.newCall_reversed_1 _)<|zw {plainId_quiet F.plain_reversed_new _,yI F.entry_reversed_new ?_};rw[Around.under_plainId F.plain_reversed_new _];unfold Builtin.«reversed.__new__»;refine zb<|yT (newClass_reversed _) ?_;refine zb<|yT (a:=()) (by first|rfl|kernel_rfl)<|zb<|yT (a:=()) (by first|rfl|kernel_rfl) ?_;refine zb<|wpAny_specialOf hl.typeIs Rt.P0 ?_;refine zb<|zb<|wpAny_isInstance hl.typeIs Rt.Lu<|zb<|wpAny_specialOf hl.typeIs Rt.Df ?_;show wpAny _ _ (if (["tuple.__getitem__","str.__getitem__","bytes.__getitem__","bytearray.__getitem__","memoryview.__getitem__","numpy.ndarray.__getitem__","sqlite3.Row.__getitem__"]:List String).contains "tuple.__getitem__"= true then pure true else _) _ _ _;rw[if_pos<|by trivial];refine zw ?_
 show wpAny _ _ (do
     let nE <-call (Value.builtin "len") [Value.ref l]
     let __x <-asInt? nE
     match __x with
      |some n=>do
       let nE <-Builtin.SmallTypes.newRecord (Value.type "reversed") [Value.ref l,rawInt (n-1)]
       ret nE
      |x=>unsupported "internal:reversed.__new__") _ _ _
 refine zb<|len_tuple hl (by rw[zY]at hz;lia) ?_;refine zb<|yT (a:=some ((items.size:Nat):Int)) rfl ?_;exact zb (m:=newObj (.type "reversed")<|.fields #[.ref l,rawInt<|((items.size:Nat):Int)-1])<|yF<|zw h
theorem Lv(hl:IsTup s.heap l items)(hz:items.size<=sizeLine)(h:Q (.ref s.heap.objs.size) {s with heap:=s.heap.push<|xH l<|(items.size:Int)-1,toks:=s.toks+1+1}): wpAny (model prog w) A (call (.type "reversed") [.ref l]) Q E s:=by refine callType_codes Rt.called (F.typeCall_reversed_1 _) F.entry_object_init (Q₁:=λobj aU=>aU.TypeIs obj "reversed"/\Q obj aU) (P1 hl hz {{_,zk _ rfl,rfl},h}) λobj aU h₁=>?_;exact{h₁.1,F.args_object_init_2 obj _,object_init_meets Rt.called.init.lookup Rt.called.made (by decide) prog w A.in1 _ aU ⟨h₁.1,rfl,h₁.2⟩}
theorem sqx(h:k<n):seqIndex? ((k:Nat):Int) n=some k:=by have e:(if ((k:Nat):Int)<0 then ((k:Nat):Int)+(n:Int) else ((k:Nat):Int))=((k:Nat):Int):=if_neg (by lia);unfold seqIndex?;dsimp only;rw[e,if_pos<|by simp;lia];rfl
theorem Lw{it l:Addr}{i:Nat}{items:Array Value}{x:Value}{Q:Option Value->Shared->Prop}(hit:qR s.heap it l (i:Int))(hl:IsTup s.heap l items)(hz:items.size<=sizeLine)(hx:items[i]?=some x) (hQ:∀h' tk,qR h' it l ((i:Int)-1)->Heap.SameBut it s.heap h'->Q (some x) {s with heap:=h',toks:=tk}):wpAny (model prog w) A (pyNext<|.ref it) Q E s:=by obtain⟨o,ho,hc,hd⟩:=id hit;have hi:i<items.size:=(Array.getElem?_eq_some_iff.mp hx).1;unfold pyNext;refine zb<|wpAny_attempt<|wpAny_callSpecial?_slot (name:=Str.ofString "__next__") hit.typeIs Rt.ma<|yK Rt.ma hit.typeIs Rt.C_ ?_<|Rt.Dc _;unfold Builtin.«reversed.__next__»;refine zb<|yT (a:=(Value.ref it,[])) rfl<|zb<|yc ho hd (x:=.ref l) rfl<|zb<|yc ho hd (x:=rawInt (i:Int)) rfl ?_;show wpAny _ _ (if (i:Int)<0 then _ else _) _ _ s;rw[if_neg<|by lia];show wpAny _ _ (specialOf (.ref l) "__getitem__" >>=_) _ _ s;refine zb<|wpAny_specialOf hl.typeIs Rt.Df ?_;show wpAny _ _ (mkInt (i:Int) >>=_) _ _ s;refine zb<|wpAny_mkInt ?_;refine zb<|wpAny_attempt<|getItem_tuple (j:=i) hl (by lia) (by rw[zY]at hz;lia) (sqx hi) hx ?_;refine zb<|yc ho hd (x:=rawInt (i:Int)) rfl ?_;show wpAny _ _ (setField (.ref it) 1 (rawInt<|(i:Int)-1) >>=λ_=>ret x) _ _ _;refine zb<|yQ ho hd (by simp)<|zw {x,rfl,zw<|hQ _ _ ?_<|yy ..};exact{_,yt _ ho<|Obj.isFreed_of_fields<|yw hd _,(Obj.cls_mapFields ..).trans hc,by rw[yw hd];simp}
theorem P2(hh:A.handled=none)(hit:qR s.heap it l (-1))(hQ:∀h',Heap.ExtBut it s.heap h'->Q none {s with heap:=h'}):wpAny (model prog w) A (pyNext<|.ref it) Q E s:=by
 obtain⟨o,ho,hc,hd⟩:=id hit;unfold pyNext;refine zb<|wpAny_attempt<|wpAny_callSpecial?_slot (name:=Str.ofString "__next__") hit.typeIs Rt.ma<|yK Rt.ma hit.typeIs Rt.C_ ?_<|Rt.Dc _;unfold Builtin.«reversed.__next__»;refine zb<|yT (a:=(Value.ref it,[])) rfl<|zb<|yc ho hd (x:=.ref l) rfl<|zb<|yc ho hd (x:=rawInt (-1)) rfl ?_;show wpAny _ _ (if (-1:Int)<0 then _ else _) _ _ s;rw[if_pos<|by decide];refine zb<|wpAny_rule ?_;have hd1:=yw hd (·.setIfInBounds 1 (rawInt (-1)));have RQ:=yt (Obj.mapFields (·.setIfInBounds 1 (rawInt (-1)))) ho<|Obj.isFreed_of_fields hd1;refine zb (m:=setField (.ref it) 1 (rawInt (-1)) >>=λ_=>setField (.ref it) 0 .none)<|zb<|yQ ho hd (by simp)<|yQ RQ hd1 (by simp) ?_;have eb:Heap.ExtBut it s.heap ((s.heap.update it (Obj.mapFields (·.setIfInBounds 1 (rawInt (-1))))).update it (Obj.mapFields (·.setIfInBounds 0 Value.none))):=λb u hb e=>by rw[yo _ _<|Ne.symm hb,yo _ _<|Ne.symm hb];exact e
 refine zb ?_;show wpAny _ _ (newExc (.type "StopIteration") [] >>=_) _ _ _;refine zb ?_;simp only[newExc,newTuple];refine zb<|yF ?_ (by size_fits);refine zb (m:=firstArgMember _ _)<|yT (a:=Value.none) (by first|rfl|(simp only[firstArgMember];rfl)) ?_;refine yF ?_ (by size_fits);simp only[raiseNew];refine zb<|wpAny_handled ?_;first|rw[show A.in1.handled=none from hh]|rw[hh]
 refine zb<|zw<|wpAny_throw ?_;refine zb<|wpAny_isInstance (T:="StopIteration") (b:=true) {_,zk _ rfl,rfl} isSubtype_stop ?_;exact zw<|hQ _<|(eb.push _).push _
theorem Dg(hit:qR s.heap it l i)(h:Q (.ref it) s):wpAny (model prog w) A (pyIter<|.ref it) Q E s:=by refine wpAny_pyIter_slot hit.typeIs Rt.Dd<|yK Rt.Dd hit.typeIs Rt.Lq ?_<|Rt.Lp _;show wpAny _ _ (ret<|.ref it) _ _ s;exact zw !{"reversed",_,hit.typeIs,Rt.ma.lookup,h}
end
end L2
namespace L2
open PySem PySem.Spec PyProof.Rows
def Vk(K:Frag)(a:Addr)(n:Nat):It:={λi H=>∃xs x,gM K H a xs/\xs.length=n/\i<n/\xs[n-1-i]?=some x,λi H x H'=>H'=H/\∀xs,gM K H a xs->xs.length=n->xs[n-1-i]?=some x,λi _=>n<=i}
theorem Lx{P:Program}{w:World}{K:Frag}{tg:Expr}(a it:Addr)(n:Nat):Turn P w K tg (Vk K a n) [it] it (λi h=>i<=n/\qR h it a ((n:Int)-1-(i:Int))) where
 mem:=by simp
 obj:=λi h st b hb=>by
  have e:b=it:=by simpa using hb
  subst e
  obtain⟨_,o,e,c,d⟩:=st
  exact{o,e,λv z=>by rw[d]at z;cases z}
 keep:=λi h h' st k=>{st.1,st.2.keep λo e=>k it (by simp) o e}
 item:=by
  intro X hP hw hK hc i pins s σ H E I hf st hg
  subst hP hw hK
  obtain⟨xs,x,hq,hn,hi,hx⟩:=hg
  obtain⟨az,rv,p,hz⟩:=I.tuple hq
  obtain⟨u,hu,ru⟩:=rv.get hx
  obtain⟨f0,f1,f2,f3,f4,f5⟩:=hf it<|by simp
  have e:(n:Int)-1-(i:Int)=((n-1-i:Nat):Int):=by lia
  have hit:=st.2
  rw[e]at hit
  refine Lw hit p (by rw[zm,<-rv.length];exact hz) (x:=u) (by simpa using hu) λh' tk eW sb=>?_
  have I1:Inv X pins σ H {s with heap:=h',toks:=tk}:=I.turned (t':=tk) (λb o hb e=>(sb.2 b hb).trans e) f0 f1 f3 f4 f5
  obtain⟨o,e1,c,d⟩:=id eW
  refine{u,rfl,tQ (s:={s with heap:=h',toks:=tk}) e1 c d (by decide) {x,H,I1,ru,{rfl,λys hy _=>by rw[I.m6 hy hq];exact hx},{hi,?_},λb hb=>(hf b hb).1}}
  have e2:(n:Int)-1-((i+1:Nat):Int)=((n-1-i:Nat):Int)-1:=by lia
  rw[e2];exact eW
 done:=by
  intro X hP hw hK hc i pins s σ H E I hf st hg
  subst hP hw hK
  obtain⟨f0,f1,f2,f3,f4,f5⟩:=hf it<|by simp
  have hg:n<=i:=hg
  have e:(n:Int)-1-(i:Int) = -1:=by have:=st.1;lia
  have hit:=st.2
  rw[e]at hit
  exact P2 (I.ok.hd hc) hit λh' eb=>{rfl,I.turned (t':=s.toks) (λb o hb e=>eb b o hb e) f0 f1 f3 f4 f5}
 self:=λ_ _ _ _ _ st h=>Dg st.2 h
def iRt(K:Frag)(ta:TA):TI:=λσ H R=>ta σ H λvs H1=>∃a xs,vs=[.ref a]/\gM K H1 a xs/\R (Vk K a xs.length) H1
theorem Vl{X:Cx}{tg a:Expr}{ta:TA}{p pos:Pos}(hg:Gl X "reversed")(hm:X.mg "reversed"= none)(ha:PA X [a] ta)(hs:starEach [a] X.env=[(false,eval a X.env)]):PI X tg (.Call (.Name "reversed" p) [a] [] pos) (iRt X.K ta):=by
 intro pins s σ H R I h;refine Call_<|gA I hg hm boot_reversed<|PyProof.Rows.callWith_type1 (aX (ha pos pins s σ H _ I h) λus s1 ⟨vs,H1,I1,r1,q1⟩=>?_) hs rfl;obtain⟨l,xs,e,q,hR⟩:=q1;subst e;obtain⟨u,rfl,ru⟩:=vals1 r1;cases ru;obtain⟨az,rv,pl,hz⟩:=I1.tuple q;have hn:az.toArray.size=xs.length:=by rw[zm,rv.length]
 refine Lv pl (by rw[hn];exact hz) ?_;rw[hn];have st:qR (s1.heap.push<|xH l<|(xs.length:Int)-1) s1.heap.objs.size l ((xs.length:Int)-1-((0:Nat):Int)):={_,zk _ rfl,rfl,by show Data.fields _=Data.fields _;simp};have I2:Inv X pins σ H1 {s1 with heap:=s1.heap.push<|xH l<|(xs.length:Int)-1,toks:=s1.toks+1+1}:=I1.kept (t':=s1.toks+1+1) λb o e=>za _ e;refine Dg (s:={s1 with heap:=s1.heap.push<|xH l<|(xs.length:Int)-1,toks:=s1.toks+1+1}) st {_,_,_,_,H1,rfl,I2,Lx l s1.heap.objs.size xs.length,{zZ _,st},λb hb=>?_,hR};have hb:b=s1.heap.objs.size:=by simpa using hb
 subst hb;exact I1.pe (zo _)<|I1.aG.fresh<|zo _
section
variable{K:Frag}{X:Cx}{tg:Expr}
def ZK(t:ir):Aw:=λσ S R Z=>t σ S (λds S1=>∃es,ds=[.tup es]/\R {es.reverse,λ_=>True} S1) Z
theorem irt{t:ir}(hm:X.mg "reversed"= none)(ha:DA K X [a] t)(hg:autoParam (Gl X "reversed") qQJ)(hs:autoParam (starEach [a] X.env=[(false,eval a X.env)]) qQJ)(hK:autoParam (X.K=K) qQJ):DI K X tg (.Call (.Name "reversed" p) [a] [] pos) (ZK t):=by subst hK;exact⟨λy=>(Vl (X:=y.cx) hg hm (ha.of y) hs).mono <| by rintro τ H R ⟨σ,S,RI,Z,aB,hS,q,hR,hZ⟩;exact{σ,S,_,Z,aB,hS,q,by rintro ds S1 vs H1 ⟨es,e,r1⟩ v1 s1 k1;subst e;obtain⟨v,rfl,r⟩:=v1.one;obtain⟨a,xs,rfl,hq,t⟩:=r.tup;refine{a,xs,rfl,.inl<|.of hq,hR _ S1 _ H1 r1 (λi S2 H2 k2 s2 WM=>?_) s1 k1};have RK:gM X.K H2 a xs:=.inl<|.of<|k2.t _ _ hq;have t2:=RvAll.ts k2 _ t;have hl:xs.length=es.length:=t.len;refine{λd hd=>?_,λh=>by rw[yz]at h;show xs.length<=i;lia};have hi:i<es.length:=(by have:=(zg.mp hd).1;rwa [yz]at this);rw[List.getElem?_reverse hi]at hd;obtain⟨v,e1,r⟩:=t2.get hd;rw[hl];refine{⟨xs,v,RK,hl,hi,e1⟩,λx' H' ⟨e2,e3⟩=>?_};subst e2;have:=e3 xs RK hl;rw[e1]at this;cases this;exact{r,.refl _,s2},hZ}⟩
end
section
variable{K:Frag}{X:Cx}{pos:Pos}
def P4(tc:l7)(tb:kB):kB:=λDe σ S Z=>∃P:Nat->SD->aw->Prop,(∃m,P m σ S)/\∀m σ S,P m σ S->tc σ S (λb S1=>if b=true then tb {De with nx:=λav S'=>∃m',m'<m/\P m' av S',ct:=λav S'=>∃m',m'<m/\P m' av S',bk:=De.nx} σ S1 Z else De.nx σ S1) (Z σ)
theorem ZL(hc:DT K X c tc)(hb:xt K X true body tb):DS K X true (.While c body [] pos) (P4 tc tb):=
 ⟨λy=>(Gb (X:=y.cx) (y.ok.loop rfl) (hc.of y)<|hb.of y).mono <| by rintro D τ H ⟨σ,S,De,Z,aB,hS,⟨P,⟨m,p0⟩,turn⟩,hD,hZ⟩;exact
  ⟨λm RG H'=>∃σ S,fX K H' σ RG/\Rs K S H'/\P m σ S/\Kp K H H',⟨m,σ,S,aB,hS,p0,.refl _⟩,by rintro m WJ H1 ⟨uP,S1,a1,s1,p1,k1⟩;exact⟨uP,S1,_,Z uP,a1,s1,turn m uP S1 p1,λb S2 H2 r2 s2 k2=>by
   cases b with
   |true =>
    rw[if_pos rfl]at r2⊢
    refine{λτ3 H3=>∃σ S,fX K H3 σ τ3/\Rs K S H3/\(∃m',m'<m/\P m' σ S)/\Kp K H H3,by rintro τ3 H3 ⟨i7,S3,a3,s3,⟨m',hm,p3⟩,k3⟩;exact⟨m',hm,i7,S3,a3,s3,p3,k3⟩,?_}
    have kk:=k1.trans k2
    exact{uP,S2,_,Z,a1.ts k2,s2,r2,{λPC S5 Zi H5 r5 a5 s5 k5=>{PC,S5,a5,s5,r5,kk.trans k5},hD.rt.kp kk,hD.nx.kp kk,λPC S5 Zi H5 r5 a5 s5 k5=>{PC,S5,a5,s5,r5,kk.trans k5}},hZ.kp kk}
   |false =>
    rw[if_neg zd]at r2⊢
    exact hD.nx _ _ _ _ r2 (a1.ts k2) s2<|k1.trans k2,(hZ.kp k1).at a1⟩⟩⟩
def ZM(i:Nat)(te:TD):kB:=λDe σ S Z=>∃a:Int,σ[i]?=some (some<|.int a)/\te σ S (λd S1=>∃b:Int,d=.int b/\De.nx (σ.set i<|some<|.int<|a+b) S1) (Z σ)
theorem sau(hN:X.N.Nodup)(he:DE K X e te)(hi:autoParam (X.N[i]?=some x) qQJ)(hx:autoParam (Loc X.env.scope x) qQ8)(hf:autoParam (X.fn x=true\/X.env.scope.names.lookup x=some .local) qQ8): DS K X b (.AugAssign (.Name x pos') .Add e pos) (ZM i te):=⟨λy=>(Oh (X:=y.cx) hN hi hx (he.of y) Oi hf).mono <| by rintro D τ H ⟨σ,S,De,Z,aB,hS,⟨a,ha,t⟩,hD,hZ⟩;obtain⟨v,e1,r⟩:=aB.get ha;exact{v,e1,σ,S,_,Z σ,aB,hS,t,by rintro d S1 u H1 ⟨c,e2,n⟩ rv s1 k1;subst e2;exact{a,c,r.int,rv.int,hD.nx _ _ _ _ n ((aB.ts k1).set i<|aP _) s1 k1},hZ.at aB}⟩
noncomputable def vD:V->D|.int i=>.int i|.str z=>.str z|.bl b=>.bl b|_=>.ao
noncomputable def HJ:V->Bool|.int _=>true|.str _=>true|_=>false
def Vm(kvs:List<|Str×V)(ty:TD):TD:=λσ S R Z=>ty σ S (λy S1=>∃z,y=.str z/\R ((kvs.lookup z).elim .ao vD) S1) Z
theorem mgk{w:World}{ad:Addr}{kvs:List<|Str×V}{o e:Expr}{apos aN:Pos}{ty:TD}(d:K0 w K ad kvs)(hf:(kvs.all λp=>HJ p.2)=true)(ho:∀Y:Cx,Y.env=X.env->Y.mg=X.mg->PE Y o (tC<|.ref ad))(he:DE K X e ty)(hw:autoParam (X.w=w) qQJ)(hK:autoParam (X.K=K) qQJ)(m:autoParam (M1 X o "get" apos e aN) qQ4): DE K X (.Call (.Attribute o "get" apos) [e] [] aN) (Vm kvs ty):=⟨λy=>(G7 (X:=y.cx) hw hK (ho y.cx rfl rfl) (he.of y) ⟨m.base,m.FO,m.line,m.trees⟩).mono <| by rintro τ H Q ⟨σ,S,R,Z,aB,hS,q,hR,hZ⟩;exact⟨ad,kvs,rfl,d,σ,S,_,Z,aB,hS,q,by
 rintro yv S1 v H1 ⟨z,e1,r⟩ rv s1 k1;subst e1;refine{z,rv.str,hR _ _ _ _ r ?_ s1 k1};have fl:∀v,kvs.lookup z=some v->HJ v=true:=λv hv=>by have:=yg hv;exact ye.mp hf _ this
 cases q:kvs.lookup z with|none=>exact ip|some v=>have:=fl v q;cases v with|int i=>exact aP i|str i=>exact e8 i|_=>(cases this),hZ⟩⟩
end
theorem gK(hm:X.mg x=some (.ref a))(hg:autoParam (Gl X x) qQJ)(hd:autoParam ((x==("__debug__": Str))=false) qQZ):∀Y:Cx,Y.env=X.env->Y.mg=X.mg->PE Y (.Name x pos) (tC<|.ref a):=λY e1 e2=>Cy (X:=Y) (u:=.ref a) (show Y.env.kindOf x=_ by rw[e1];exact hg) (by rw[e2];exact hm) rfl hd
structure Fb(K:Frag)(x q:Str)(st:Stmt)(ps:List Str)(f:Addr)(d:FuncData):Prop where
 F:nB K x q st f d
 b:Binds K d ps []
structure Ng(K:Frag)(mg:Str->Option Value)(x:Str)(st:Stmt)(ps:List Str)(f:Addr)(d:FuncData):Prop extends Fb K x x st ps f d where
 k:keepIn K (.ref f)=true
 m:mg x=some (.ref f)
structure Nh(K:Frag)(c:Addr)(x q:Str)(st:Stmt)(ps:List Str)(f:Addr)(d:FuncData):Prop extends Fb K x q st ps f d where
 e:Meth K c x f
abbrev Ok(P:Program)(w:World)(base:Heap){K:Frag}{mg:Str->Option Value}{x:Str}{st:Stmt}{ps:List Str}{f:Addr}{d:FuncData}(_:Ng K mg x st ps f d)(k:Nat)(sp:jm):Prop:=bD P w K mg base (fi P w mg) k f d ps<|qL K sp
abbrev oE(P:Program)(w:World)(mg:Str->Option Value)(base:Heap){K:Frag}{c:Addr}{x q:Str}{st:Stmt}{ps:List Str}{f:Addr}{d:FuncData}(_:Nh K c x q st ps f d)(k:Nat)(sp:jm):Prop:=bD P w K mg base (fi P w mg) k f d ps<|qL K sp
theorem fsc{N P:List Str}{sc:Scope}(a:autoParam (sc.kind=.function/\sc.isCoroutine=false/\sc.isGenerator=false/\N.take P.length=P) qQ4)(b:autoParam (N.Nodup/\(∀x∈P,sc.names.lookup x=some .local\/sc.names.lookup x=some .cell)/\∀y∈sc.names,y.2≠.free) qJ3):eK N P sc:=⟨a.1,a.2.1,a.2.2.1,b.1,a.2.2.2,b.2.1,b.2.2⟩
section
variable{R:Prop}{K:Frag}{h:Heap}{mg:Str->Option Value}{od an:Option Addr}{sl:Array (Option Value)}{oc dV kV dc pm cd ct:Value}{f da:Addr}{P5:Option Addr}{dn:Nat}{P6:Array (Option Value)}{c:Addr}{tk:Tok}{d:FuncData}
theorem fn1(X:K.In h)(G:h.Ns mainGlobals mg)(x:Str)(st:Stmt)(ps:List Str)(a:nsIn K mainGlobals x=some (some<|.ref f))(l:K.lookup f=some {oc,od,.func<|fnOf x x (bu st) (aW st) (ae st) dV kV dc pm an cd ct,sl}) (e:codeIn K cd x=true) (k:keepIn K (.ref f)=true) (b:∀us:List Value,us.length=ps.length->bindArgs (fnOf x x (bu st) (aW st) (ae st) dV kV dc pm an cd ct) {us,[]}=pure (ps.zip us)) (g:∀d,Ng K mg x st ps f d->R):R:=g _ {{{_,_,_,_,_,_,_,_,_,_,rfl,l,e},.all b},k,mg_of X G a}
theorem ZO(X:K.In h)(G:h.Ns mainGlobals mg)(x:Str)(st:Stmt)(ps:List Str)(a:nsIn K mainGlobals x=some (some<|.ref f))(l:K.lookup f=some {oc,od,.func<|fnOf x x (bu st) (aW st) (ae st) dV kV dc pm an cd ct,sl}) (e:codeIn K cd x=true) (k:keepIn K (.ref f)=true) (b:∀us:List Value,us.length=ps.length->bindArgs (fnOf x x (bu st) (aW st) (ae st) dV kV dc pm an cd ct) {us,[]}=pure (ps.zip us)) (g:∀d,d.code=cd->(∀(s:Shared)(us:List Value),us.length=ps.length->BindsTo s d {us,[]} (ps.zip us))->Ng K mg x st ps f d->R):R:=g _ rfl (λs us h=>.of_eq<|b us h) {{{_,_,_,_,_,_,_,_,_,_,rfl,l,e},.all b},k,mg_of X G a}
theorem fm1(C:pW K c)(x q:Str)(st:Stmt)(ps:List Str)(a:findIn K (.ref c) x=some (some<|.ref f))(i:isFn K (.ref f)=true)(l:K.lookup f=some {oc,od,.func<|fnOf x q (bu st) (aW st) (ae st) dV kV dc pm an cd ct,sl}) (e:codeIn K cd q=true) (k:keepIn K (.ref f)=true) (b:∀us:List Value,us.length=ps.length->bindArgs (fnOf x q (bu st) (aW st) (ae st) dV kV dc pm an cd ct) {us,[]}=pure (ps.zip us)) (g:∀d,Nh K c x q st ps f d->R):R:=g _ {{{_,_,_,_,_,_,_,_,_,_,rfl,l,e},.all b},a,i,k}
theorem fmd(C:pW K c)(x q:Str)(st:Stmt)(ps:List Str)(a:findIn K (.ref c) x=some (some<|.ref f))(i:isFn K (.ref f)=true)(l:K.lookup f=some {oc,od,.func<|fnOf x q (bu st) (aW st) (ae st) (.ref da) kV dc pm an cd ct,sl}) (t:K.lookup da=some {.type "tuple",P5,.seq #[.none] dn,P6}) (e:codeIn K cd q=true) (k:keepIn K (.ref f)=true) (b:∀(s:Shared) (us:List Value),s.heap.get? da=some {.type "tuple",P5,.seq #[.none] dn,P6}->us.length=ps.length->BindsTo s (fnOf x q (bu st) (aW st) (ae st) (.ref da) kV dc pm an cd ct) {us,[]} (ps.zip us)) (b2:∀(s:Shared) (us:List Value),s.heap.get? da=some {.type "tuple",P5,.seq #[.none] dn,P6}->us.length+1=ps.length->BindsTo s (fnOf x q (bu st) (aW st) (ae st) (.ref da) kV dc pm an cd ct) {us,[]} (ps.zip<|us++[.none])) (g:∀d,Nh K c x q st ps f d->Binds K d ps [.none]->R):R:=g _ {{{_,_,_,_,_,_,_,_,_,_,rfl,l,e},λs us hK hl=>by rw[ym]at hl⊢;exact b s us (hK _ _ t) hl},a,i,k} λs us hK hl=>b2 s us (hK _ _ t)<|by simpa using hl
theorem xI(X:K.In h)(G:h.Ns mainGlobals mg)(x:Str)(a:nsIn K mainGlobals x=some none)(g:mg x=none->R):R:=g<|PySem.W.mg_none_of X G a
theorem Lz(X:K.In h)(G:h.Ns mainGlobals mg)(x:Str)(i:Int)(a:nsIn K mainGlobals x=some (some<|.int i tk))(g:mg x=some (.int i tk)->R):R:=g<|mg_of X G a
theorem W5(X:K.In h)(G:h.Ns mainGlobals mg)(x:Str)(a:nsIn K mainGlobals x=some (some<|.ref c))(l:K.lookup c=some o)(g:mg x=some (.ref c)->K.lookup c=some o->R):R:=g (mg_of X G a) l
theorem LA(X:K.In h)(G:h.Ns mainGlobals mg)(x:Str)(a:nsIn K mainGlobals x=some (some<|.ref c))(e:excIn K c L2.nj "ValueError.__new__"= true)(g:mg x=some (.ref c)->excIn K c L2.nj "ValueError.__new__"= true->R):R:=g (mg_of X G a) e
theorem gvc(X:K.In h)(G:h.Ns mainGlobals mg)(x:Str)(a:nsIn K mainGlobals x=some (some<|.ref c))(pg:plainGet K c Str.empty=true)(hd:hasDictIn K c=true)(po:plainOver K c=true)(sa:findIn K (.ref c) "__setattr__"= some (some<|.builtin "object.__setattr__"))(ms:makesIn K c=true)(kc:keepIn K (.ref c)=true) (g:mg x=some (.ref c)->pW K c->makesIn K c=true->keepIn K (.ref c)=true->R):R:=g (mg_of X G a) ⟨pg,hd,po,sa⟩ ms kc
theorem LB(C:pW K c)(x:Str)(a:findIn K (.ref c) x=some none)(g:findIn K (.ref c) x=some none->R):R:=g a
theorem P7{P:Addr}(l:K.lookup c=some o)(e:codeHdIn [(c,o)] c P=true):codeHdIn K c P=true:=by unfold codeHdIn at e⊢;rw[l];rw[show([(c,o)]:Frag).lookup c=some o by simp]at e;exact e
theorem gvm{P:Addr}(X:K.In h)(e:d.code=.ref c)(o:K.lookup c=some {oC,od,.fields vC,sl})(q:vC[11]?=some (.ref P))(hh:codeHdIn [(c,{oC,od,.fields vC,sl})] c P=true)(g:codeHdIn K c P=true->R):R:=g<|P7 o hh
end
section
variable{Q:List Value->Prop}
theorem W6(h:Q [])(us:List Value)(e:us.length=0):Q us:=by cases us with|nil=>exact h|cons a us=>cases e
theorem EV(h:∀a us,us.length=n->Q (a::us))(us:List Value)(e:us.length=n+1):Q us:=by cases us with|nil=>(cases e)|cons a us=>exact h a us<|yR e
theorem RV(h:∀a,Q [a]):∀us:List Value,us.length=1->Q us:=EV λa=>W6<|h a
theorem ln2(h:∀a b,Q [a,b]):∀us:List Value,us.length=2->Q us:=EV λa=>RV<|h a
theorem RW(h:∀a b c,Q [a,b,c]):∀us:List Value,us.length=3->Q us:=EV λa=>ln2<|h a
theorem W7(h:∀a b c d,Q [a,b,c,d]):∀us:List Value,us.length=4->Q us:=EV λa=>RW<|h a
theorem W8(h:∀a b c d e,Q [a,b,c,d,e]):∀us:List Value,us.length=5->Q us:=EV λa=>W7<|h a
theorem ZP(h:∀a b c d e f,Q [a,b,c,d,e,f]):∀us:List Value,us.length=6->Q us:=EV λa=>W8<|h a
theorem ZQ(h:∀a,Q [a])(us:List Value)(e:us.length+1=2):Q us:=RV h us<|yR e
theorem ZR(h:∀a b,Q [a,b])(us:List Value)(e:us.length+1=3):Q us:=ln2 h us<|yR e
end
section
variable{R:Prop}{K:Frag}{h:Heap}{mg:Str->Option Value}{X Y:Str}{c d:Addr}
theorem FV(_:K.In h)(_:mg X=some (.ref c))(_:mg Y=some (.ref d))(b:Bool)(e:kitOne K (.ref c) (.ref d)=some b)(g:kitOne K (.ref c) (.ref d)=some b->R):R:=g e
theorem ZS(_:K.In h)(_:mg X=some (.ref c))(_:mg Y=some (.ref d))(e:mroIn K c (.ref d)=some true)(g:mroIn K c (.ref d)=some true->R):R:=g e
theorem ZT(_:K.In h)(_:mg X=some (.ref c))(e1:findIn K (.ref c) "__getattribute__"= some (some<|.builtin "BaseException.__getattribute__"))(e2:findIn K (.ref c) "__getattr__"= some none)(e3:findIn K (.ref c) "__class__"= some (some<|.builtin "object.__class__"))(g:XA K c->R):R:=g ⟨e1,e2,e3⟩
end
section
variable{K:Frag}{X:Cx}{x:Str}{st:Stmt}{ps:List Str}{f:Addr}{fd:FuncData}{sp:jm}{e:Expr}{es:List Expr}{p pos:Pos}
theorem bC{t:ir}(T:Ng K X.mg x st ps f fd)(F:bD X.prog X.w K X.mg X.base (fi X.prog X.w X.mg) k f fd ps<|qL K sp)(hr:bf k' X.A)(ha:DA K X (e::es) t)(hle:autoParam (k<=k') qJX) (hg:autoParam (Gl X x) qQJ) (i8:autoParam ((x==("__debug__": Str))=false) qQZ) (he:autoParam (starEach (e::es) X.env=(false,eval e X.env)::starEach es X.env) qQJ) (eX:autoParam ((backTo pos<|starEach es X.env).any (·.1)=false) qQJ) (hK:autoParam (X.K=K) qQJ): DE K X (.Call (.Name x p) (e::es) [] pos) (Hk sp [] t):=cf (F.mono hle) hr T.m T.k T.b d0 ha hg i8 he eX hK
theorem gvg{R:Prop}{h:Heap}{mg:Str->Option Value}{c:Addr}(X:K.In h)(G:h.Ns mainGlobals mg)(x:Str)(a:nsIn K mainGlobals x=some (some<|.ref c))(g:mg x=some (.ref c)->R):R:=g<|mg_of X G a
end
theorem bf.u(r:bf k A):A.units+64<cLine:=r.units
section
variable{P:Program}{w:World}{K:Frag}{mg:Str->Option Value}{base:Heap}{x qual:Str}{st:Stmt}{f:Addr}{fd:FuncData}{N ps:List Str}{k:Nat}{sp:jm}
theorem nB.JM(F:nB K x qual st f fd)(S:eK N ps<|ae st) (gO:∀(eL:Value)(A:Around)(outer:List Env)(s:Shared)(H:Hp)(E:XK)(ds:List D)(S:aw)(R:KD)(Z:KX),bf k (A.deeper<|PyProof.Rows.envOfC qual (ae st) s.heap.objs.size f eL)->sp ds S R Z->∃t,xt K (ig (fi P w mg) P w K mg base N qual (ae st) f eL A outer s H E) true (aW st) t/\t {nx:=λ_ S'=>Fo S'<|R .ao,rt:=λd S'=>Fo S'<|R d} (d_ N ds) S λ_ C S'=>Fo S'<|Z C) (len:∀ds S R Z,sp ds S R Z->ds.length=ps.length:=by intro _ _ _ _ h;repeat first|(obtain⟨e,_⟩:=h;rw[e];rfl;done)|obtain⟨_,h⟩:=h):bD P w K mg base (fi P w mg) (k+1) f fd ps (qL K sp):=F.ok S len gO
end
end L2
namespace L2
open PySem PySem.Spec PyProof.Rows PySem.SeqAt
def isStrOf(z:Str):Value->Bool|.str y _=>y==z|_=>false
end L2
namespace L2
open PySem PySem.Spec PyProof.Rows
section
variable{K:Frag}
theorem RvAll.thr(h:RvAll K H [a,b,c] vs):∃x y z,vs=[x,y,z]/\Rv K H a x/\Rv K H b y/\Rv K H c z:=by obtain⟨x,vs1,rfl,h1,h⟩:=h.cons;obtain⟨y,vs2,rfl,h2,h⟩:=h.cons;obtain⟨z,vs3,rfl,h3,h⟩:=h.cons;rw[h.nil];exact⟨x,y,z,rfl,h1,h2,h3⟩
noncomputable def jn:List D->List D->List D->List D|x::xs,y::ys,z::zs=>.tup [x,y,z]::jn xs ys zs|_,_,_=>[]
theorem nF:∀{xs ys zs:List D},xs.length=ys.length->xs.length=zs.length->(jn xs ys zs).length=xs.length|[],_,_,_,_=>by rw[jn.eq_def]|x::xs,y::ys,z::zs,h,k=>congrArg Nat.succ<|nF (yR h)<|yR k
theorem nG:∀{xs ys zs:List D}{i:Nat}{d:D},(jn xs ys zs)[i]?=some d->∃x y z,xs[i]?=some x/\ys[i]?=some y/\zs[i]?=some z/\d=.tup [x,y,z]|x::xs,y::ys,z::zs,0,d,h=>{x,y,z,rfl,rfl,rfl,(zU h).symm}|x::xs,y::ys,z::zs,i+1,d,h=>nG (i:=i) h|[],_,_,i,d,h=>by rw[jn.eq_def]at h;simp at h|_::_,[],_,i,d,h=>by rw[jn.eq_def]at h;simp at h|_::_,_::_,[],i,d,h=>by rw[jn.eq_def]at h;simp at h
def P8(t:ir):Aw:=λσ S R Z=>t σ S (λds S1=>∃xs ys zs,ds=[.tup xs,.tup ys,.tup zs]/\xs.length=ys.length/\xs.length=zs.length/\R {jn xs ys zs,λ_=>True} S1) Z
end
mutual
inductive Dr (S:aw):D->PyData->Prop where
 |ao:Dr S .ao .none
 |bl (b:Bool):Dr S (.bl b) (.bool b)
 |int (i:Int):Dr S (.int i) (.int i)
 |str (z:Str):Dr S (.str z) (.str z)
 |tup {ds:List D}{ps:List PyData} : EW S ds ps->Dr S (.tup ds) (.tuple ps)
 |ref {a:Addr}{ds:List D}{ps:List PyData} : S a=some (.lst ds)->EW S ds ps->Dr S (.ref a) (.list ps)
inductive EW (S:aw):List D->List PyData->Prop where
 |nil:EW S [] []
 |cons {d:D}{ds:List D}{p:PyData}{ps:List PyData} : Dr S d p->EW S ds ps->EW S (d::ds) (p::ps)
end
section
variable{K:Frag}{H:Hp}{S:aw}
mutual
theorem Dr.dt(hS:Rs K S H):Dr S d p->Rv K H d v->Dt K H p v|.ao,r=>by simp only[Dt];exact r.ao|.bl b,r=>by simp only[Dt];exact r.bl|.int b,r=>by simp only[Dt];exact r.int|.str b,r=>by simp only[Dt];exact r.str|.tup h,r=>(by obtain⟨a,xs,rfl,q,t⟩:=r.tup;simp only[Dt];exact{a,xs,rfl,.of q,EW.dt hS h t})|.ref e h,r=>by obtain⟨xs,e1,t⟩:=hS.lst e;rw[r.ref];simp only[Dt];exact{_,xs,rfl,.of e1,EW.dt hS h t}
theorem EW.dt(hS:Rs K S H){ds:List D}{ps:List PyData}{vs:List V} : EW S ds ps->RvAll K H ds vs->DtAll K H ps vs|.nil,r=>by rw[r.nil];simp only[DtAll]|.cons h t,r=>by obtain⟨y,ys,rfl,r1,r2⟩:=r.cons;simp only[DtAll];exact{y,ys,rfl,Dr.dt hS h r1,EW.dt hS t r2}
end
end
def W9(neg:Bool):sX:=λx y S R=>∃p q,Dr S x p/\Dr S y q/\p.canLay0=true/\q.canLay0=true/\(p.depth<=64\/q.depth<=64)/\R (.bl<|if neg then !PyData.eqv p q else PyData.eqv p q) S
section
variable{K:Frag}
theorem Vn:nr K (compareOp .Eq) (W9 false):=by rintro X hK hu pins s σ H x y v u Q I rx ry ⟨d,e,S,R,r1,r2,hS,⟨p,q,h1,h2,c1,c2,dp,h⟩,hR⟩;subst hK;exact GU hu pins s σ H x y v u Q I rx ry {p,q,h1.dt hS r1,h2.dt hS r2,c1,c2,dp,hR.now hS h<|bx _}
theorem Vo:nr K (compareOp .NotEq) (W9 true):=by rintro X hK hu pins s σ H x y v u Q I rx ry ⟨d,e,S,R,r1,r2,hS,⟨p,q,h1,h2,c1,c2,dp,h⟩,hR⟩;subst hK;exact GV hu pins s σ H x y v u Q I rx ry {p,q,h1.dt hS r1,h2.dt hS r2,c1,c2,dp,hR.now hS h<|bx _}
end
theorem xJ(h1:Dr S x p)(h2:Dr S y p)(c:p.canLay0=true)(d:p.depth<=64)(q:R (.bl<|!neg) S):W9 neg x y S R:={p,p,h1,h2,c,c,.inl d,by rw[show(if neg then !PyData.eqv p p else PyData.eqv p p)=!neg by rw[SeqAt.eqv_refl p c];cases neg<;>rfl];exact q}
def lh:Stmt->Str|.FunctionDef n _ _ _ _ _ _ _ _ _=>n|_=>Str.empty
def pB(s:Stmt):List Str:=(bu s).args.map λa=>a.arg
def EX(K:Frag)(mg:Str->Option Value)(top:Nat->Stmt)(f:Nat->Addr)(d:Nat->FuncData)(l:List Nat):Prop:=∀i∈l,Ng K mg (lh<|top i) (top i) (pB<|top i) (f i)<|d i
def BC(K:Frag)(c:Addr)(q:Str)(cl:Stmt)(f:Nat->Addr)(d:Nat->FuncData)(l:List Nat):Prop:=∀i∈l,Nh K c (lh<|inClass cl i) (q++lh (inClass cl i)) (inClass cl i) (pB<|inClass cl i) (f i)<|d i
section
variable{K:Frag}{h:Heap}{mg:Str->Option Value}{od an:Option Addr}{sl:Array (Option Value)}{oc dV kV dc pm cd ct:Value}{x:Addr}{top:Nat->Stmt}{l:List Nat}{c:Addr}{q:Str}{cl:Stmt}
theorem af(X:K.In h)(G:h.Ns mainGlobals mg)(i:Nat)(ni:i∉l)(a:nsIn K mainGlobals (lh<|top i)=some (some<|.ref x))(o:K.lookup x=some {oc,od,.func<|fnOf (lh<|top i) (lh<|top i) (bu<|top i) (aW<|top i) (ae<|top i) dV kV dc pm an cd ct,sl}) (e:codeIn K cd (lh<|top i)=true) (k:keepIn K (.ref x)=true) (b:∀us:List Value,us.length=(pB<|top i).length->bindArgs (fnOf (lh<|top i) (lh<|top i) (bu<|top i) (aW<|top i) (ae<|top i) dV kV dc pm an cd ct) {us,[]}=pure ((pB<|top i).zip us)) (g:∃f d,EX K mg top f d l):∃f d,EX K mg top f d (i::l):=by refine fn1 X G _ _ _ a o e k b λd0 F=>?_;obtain⟨f,d,A⟩:=g;refine{λj=>if j=i then x else f j,λj=>if j=i then d0 else d j,λj hj=>?_};by_cases z:j=i;subst z;dsimp only;rw[if_pos rfl,if_pos rfl];exact F;dsimp only;rw[if_neg z,if_neg z];exact A j<|(zf.mp hj).resolve_left z
theorem af0:∃f d,EX K mg top f d []:={λ_=>0,λ_=>fnOf Str.empty Str.empty (bu<|.Pass {0,0,0,0}) [] (ae<|.Pass {0,0,0,0}) .none .none .none .none none .none .none,λ_ h=>nomatch h}
theorem afx{R:Prop}(_:K.In h)(_:h.Ns mainGlobals mg)(g:∃f d,EX K mg top f d l)(r:∀f d,EX K mg top f d l->R):R:=by obtain⟨f,d,A⟩:=g;exact r f d A
theorem amx{R:Prop}(_:pW K c)(g:∃f d,BC K c q cl f d l)(r:∀f d,BC K c q cl f d l->R):R:=by obtain⟨f,d,A⟩:=g;exact r f d A
theorem am(C:pW K c)(i:Nat)(ni:i∉l)(a:findIn K (.ref c) (lh<|inClass cl i)=some (some<|.ref x))(w:isFn K (.ref x)=true)(o:K.lookup x=some {oc,od,.func<|fnOf (lh<|inClass cl i) (q++lh (inClass cl i)) (bu<|inClass cl i) (aW<|inClass cl i) (ae<|inClass cl i) dV kV dc pm an cd ct,sl}) (e:codeIn K cd (q++lh (inClass cl i))=true) (k:keepIn K (.ref x)=true) (b:∀us:List Value,us.length=(pB<|inClass cl i).length->bindArgs (fnOf (lh<|inClass cl i) (q++lh (inClass cl i)) (bu<|inClass cl i) (aW<|inClass cl i) (ae<|inClass cl i) dV kV dc pm an cd ct) {us,[]}=pure ((pB<|inClass cl i).zip us)) (g:∃f d,BC K c q cl f d l):∃f d,BC K c q cl f d (i::l):=by refine fm1 C _ _ _ _ a w o e k b λd0 F=>?_;obtain⟨f,d,A⟩:=g;refine{λj=>if j=i then x else f j,λj=>if j=i then d0 else d j,λj hj=>?_};by_cases z:j=i;subst z;dsimp only;rw[if_pos rfl,if_pos rfl];exact F;dsimp only;rw[if_neg z,if_neg z];exact A j<|(zf.mp hj).resolve_left z
theorem am0:∃f d,BC K c q cl f d []:={λ_=>0,λ_=>fnOf Str.empty Str.empty (bu<|.Pass {0,0,0,0}) [] (ae<|.Pass {0,0,0,0}) .none .none .none .none none .none .none,λ_ h=>nomatch h}
end
section
variable{K:Frag}{X:Cx}{x q:Str}{st:Stmt}{ps:List Str}{C f:Addr}{fd:FuncData}{sp:jm}{o e:Expr}{es:List Expr}{apos pos:Pos}{k k':Nat}
theorem pC{t:ir}(he:DE K X o ta)(c:pW K C)(T:Nh K C x q st ps f fd)(F:bD X.prog X.w K X.mg X.base (fi X.prog X.w X.mg) k f fd ps<|qL K sp)(hr:bf k' X.A)(ha:DA K X (e::es) t)(hle:autoParam (k<=k') qJX)
  (om:autoParam (starEach (e::es) X.env=(false,eval e X.env)::starEach es X.env) qQJ) (eX:autoParam ((backTo pos<|starEach es X.env).any (·.1)=false) qQJ)
  (ht:autoParam (eval (.Call (.Attribute o x apos) (e::es) [] pos) X.env=(do
   let ov <-eval o X.env
   standAt apos.atName
   let (f,first) <-holding [ov] (getMethod ov x pl)
   callWith pos f first (backTo pos<|starEach (e::es) X.env) (backToKw pos<|keywordEach [] X.env))) qQJ) (hK:autoParam (X.K=K) qQJ):
  DE K X (.Call (.Attribute o x apos) (e::es) [] pos) (CV C x sp [] ta t):=Y7 he c T.e (F.mono hle) hr T.b d0 ha om eX ht hK
theorem iy(he:DE K X o ta)(c:pW K C)(T:Nh K C x q st ps f fd)(F:bD X.prog X.w K X.mg X.base (fi X.prog X.w X.mg) k f fd ps<|qL K sp)(hr:bf k' X.A)(hle:autoParam (k<=k') qJX)
  (ht:autoParam (eval (.Call (.Attribute o x apos) [] [] pos) X.env=(do
   let ov <-eval o X.env
   standAt apos.atName
   let (f,first) <-holding [ov] (getMethod ov x pl)
   callWith pos f first (backTo pos<|starEach [] X.env) (backToKw pos<|keywordEach [] X.env))) qQJ) (hK:autoParam (X.K=K) qQJ):
  DE K X (.Call (.Attribute o x apos) [] [] pos) (CV C x sp [] ta Ha):=UC he c T.e (F.mono hle) hr T.b d0 ht hK
end
section
variable{K:Frag}{X:Cx}
def Vp:D->Option Int->Option Int->aw->KD->Prop:=λx lo hi S R=>match x with|.ref a=>∃ds,S a=some (.lst ds)/\∀p,S p=none->R (.ref p) (S.set p<|.lst<|cq ds lo hi)|.iU ds=>∀p,S p=none->R (.ref p) (S.set p<|.lst<|cq ds lo hi)|_=>False
theorem Vq(hK:X.K=K):X3 X (λx lo hi H Q=>∃d S R,Rv K H d x/\Rs K S H/\Vp d lo hi S R/\Cn K H R Q):=by rintro pins s σ H x v vl vu lo hi sl Q I rx hs pl pu ⟨d,S,R,r1,hS,h,hR⟩;subst hK;cases d with|ref a=>(obtain⟨ds,e,h⟩:=h;obtain⟨xs,e1,t⟩:=hS.lst e;exact CK pins s σ H _ v vl vu lo hi sl Q I rx hs pl pu {a,xs,r1.ref,.of e1,λp hp=>hR.new hS hp (h p)<|t.cut lo hi})|iU ds=>(obtain⟨a,xs,rfl,q,t⟩:=r1.iU;exact CK pins s σ H _ v vl vu lo hi sl Q I rx hs pl pu {a,xs,rfl,q.sq,λp hp=>hR.new hS hp (h p)<|t.cut lo hi})|_=>exact h.elim
def ZU(te:TD)(tl th:RJ):TD:=λσ S R Z=>te σ S (λx S1=>tl σ S1 (λl S2=>th σ S2 (λu S3=>Vp x l u S3 R) Z) Z) Z
theorem Ni{e:Expr}{lo hi:Option Expr}{te:TD}{tl th:RJ}{p2 pos:Pos}(he:DE K X e te)(hl:DO K X lo tl)(hu:DO K X hi th)(hK:autoParam (X.K=K) qQJ):DE K X (.Subscript e (.Slice lo hi none p2) pos) (ZU te tl th):=
 ⟨λy=>(Gu (X:=y.cx) (Vq hK) (he.of y) (hl.of y)<|hu.of y).mono <| by rintro τ H Q ⟨σ,S,R,Z,aB,hS,q,hR,hZ⟩;exact
  ⟨σ,S,_,Z,aB,hS,q,λd S1 x H1 r1 v1 s1 k1=>⟨σ,S1,_,Z,aB.ts k1,s1,r1,λl S2 H2 r2 s2 k2=>⟨σ,S2,_,Z,aB.ts<|k1.trans k2,s2,r2,λu S3 H3 r3 s3 k3=>⟨d,S3,R,Rv.ts (k2.trans k3) _ v1,s3,r3,hR.kp<|(k1.trans k2).trans k3⟩,hZ.kp<|k1.trans k2⟩,hZ.kp k1⟩,hZ⟩⟩
def ZV:sX:=λx y S R=>match x,y with|.int i,.int j=>R (.int<|i+j) S|.str a,.str b=>a.length+b.length<=sizeLine/\R (.str<|a++b) S|.ref a,.ref b=>∃xs ys,S a=some (.lst xs)/\S b=some (.lst ys)/\xs.length+ys.length<=sizeLine/\∀p,S p=none->R (.ref p) (S.set p<|.lst<|xs++ys)|_,_=>False
theorem bj:nr K (binaryOp .Add) ZV:=by rintro X hK hu pins s σ H x y v u Q I rx ry ⟨d,e,S,R,r1,r2,hS,h,hR⟩;subst hK;cases d<;>cases e<;>first|exact False.elim h|exact Gi pins s σ H x y v u Q I rx ry {_,_,r1.int,r2.int,hR.now hS h<|aP _}|exact qq pins s σ H x y v u Q I rx ry {_,_,r1.str,r2.str,h.1,hR.now hS h.2<|e8 _}|skip;obtain⟨xs,ys,e1,e2,hl,q⟩:=h;obtain⟨vs,h1,t1⟩:=hS.lst e1;obtain⟨ws,h2,t2⟩:=hS.lst e2;exact GA pins s σ H x y v u Q I rx ry {_,_,vs,ws,r1.ref,r2.ref,h1,h2,by rw[t1.len,t2.len];exact hl,λp hp=>hR.new hS hp (q p)<|t1.app t2}
end
structure W(sp:jm)(ds:List D)(S:aw)(R:KD)(Z:KX):Prop where
 of:sp ds S R Z
def ZW(s:Stmt):List Str:=((ae s).names.filter λp=>p.2==.local||p.2==.cell).map (·.1)
theorem bQ(s:Stmt)(a:autoParam ((ae s).kind=.function/\(ae s).isCoroutine=false/\(ae s).isGenerator=false/\(ZW s).take (pB s).length=pB s) qQ4)(b:autoParam ((ZW s).Nodup/\(∀x∈pB s,(ae s).names.lookup x=some .local\/(ae s).names.lookup x=some .cell)/\∀y∈(ae s).names,y.2≠.free) qJ3):eK (ZW s) (pB s) (ae s):=fsc a b
section
variable{P:Program}{w:World}{K:Frag}{mg:Str->Option Value}{base:Heap}{x qual:Str}{st:Stmt}{f:Addr}{fd:FuncData}{N ps:List Str}{k:Nat}{sp:jm}
theorem nB.cP(F:nB K x qual st f fd)(S:eK N ps<|ae st) (gO:∀(eL:Value)(A:Around)(outer:List Env)(s:Shared)(H:Hp)(E:XK)(ds:List D)(S:aw)(R:KD)(Z:KX),bf k (A.deeper<|PyProof.Rows.envOfC qual (ae st) s.heap.objs.size f eL)->sp ds S R Z->∃t,xt K (ig (fi P w mg) P w K mg base N qual (ae st) f eL A outer s H E) true (aW st) t/\t {nx:=λ_ S'=>Fo S'<|R .ao,rt:=λd S'=>Fo S'<|R d} (d_ N ds) S λ_ C S'=>Fo S'<|Z C) (len:∀ds S R Z,sp ds S R Z->ds.length=ps.length:=by intro _ _ _ _ h;first|(cases h;subst_vars;rfl;done)|(repeat first|(obtain⟨e,_⟩:=h;rw[e];rfl;done)|obtain⟨_,h⟩:=h)):bD P w K mg base (fi P w mg) (k+1) f fd ps (qL K sp):=F.ok S len gO
end
structure abJ(X:Cx)(N:List Str)(src:List (Option Nat))(scope:Scope):Prop where
 kind:scope.kind=.function
 nd:(scope.names.map Prod.fst).Nodup
 loc:∀y∈scope.names,y.2=.local->scope.names.lookup y.1=some .local
 As:∀y∈scope.names,y.2=.free->X.env.kindOf y.1=some .cell\/X.env.kindOf y.1=some .free
 len:src.length=N.length
 src:∀(i j:Nat)(x:Str),src[i]?=some (some j)->N[i]?=some x->X.N[j]?=some x/\scope.names.lookup x=some .free/\NY X.env.scope x
section
variable{K:Frag}{p:Pos}{e:Expr}
structure ad4(P:Program)(w:World)(K:Frag)(mg:Str->Option Value)(base:Heap)(k:Nat)(f:Addr)(sp:Sp):Prop where
 ex:∃fd ps,bD P w K mg base (fi P w mg) k f fd ps sp/\Binds K fd ps []
 kp:keepIn K (.ref f)=true
inductive CvR {ι:Type} (i:Nat) (fa:ι->Addr) (σ:SD) (p:ι->Prop):Prop where
 |mk (o:ι) (e:σ[i]?=some (some<|.ref<|fa o)) (r:p o)
end
section
variable{R:Prop}{K:Frag}{h:Heap}{mg:Str->Option Value}{tk:Tok}
theorem gvs(X:K.In h)(G:h.Ns mainGlobals mg)(x:Str)(z:Str)(a:nsIn K mainGlobals x=some (some<|.str z tk))(g:mg x=some (.str z tk)->R):R:=g<|mg_of X G a
end
noncomputable def fJ(N:Nat)(v:Nat->Value):Array Value:=((List.range N).map v).toArray
structure ZN(n N:Nat)(l:Nat->Addr)(i:Nat)(h:Heap):Prop where
 z:IsZip h (n+N+2) (n+N) (n+N+1) .none
 t:l4 h (n+N) (fJ N λj=>.ref<|n+j)
 o:∃arr:Array Value,arr.size=N/\l4 h (n+N+1) arr
 it:∀j,j<N->h.IsTupleIter (n+j) (l j) i
theorem j5:(fJ N v).size=N:=by unfold fJ;simp
theorem jo:(fJ N v).toList.length=N:=by unfold fJ;simp
theorem LC(h:arr.size=N)(e:∀j,j<N->arr[j]?=some (v j)):arr=fJ N v:=by refine Array.ext (by rw[h,j5]) λj h1 h2=>?_;have:=e j (by lia);rw[Array.getElem?_eq_getElem h1]at this;rw[zU this];simp[fJ]
section
variable{prog:Program}{w:World}{A:Around}{E:Value->Shared->Prop}{s:Shared}{n N:Nat}{l:Nat->Addr}{i:Nat}{xs:Nat->Array Value}
theorem EY{v:Nat->Value}{Q:Value->Shared->Prop}(h1:1<=N)(h3:N<=3)(lt:∀j,j<N->l j<n)(hs:ZN n N l i s.heap)(tu:∀j,j<N->s.heap.IsTuple (l j) (xs j))(ev:∀j,j<N->(xs j)[i]?=some (v j)) (hQ:∀h',IsZip h' (n+N+2) (n+N) (n+N+1) (rawInt s.heap.objs.size)->l4 h' (n+N+1) (fJ N v)->(∀j,j<N->h'.IsTupleIter (n+j) (l j) (i+1))->l4 h' s.heap.objs.size (fJ N v)->(∀c o,c≠n+N+2->c≠n+N+1->(∀j,j<N->c≠n+j)->s.heap.get? c=some o->h'.get? c=some o)->Q (.ref s.heap.objs.size) {s with heap:=h'}): wpAny (model prog w) A (Builtin.«zip.__next__» {[.ref<|n+N+2],[]}) (λfin s'=>∃v,fin=.done (.ret v)/\Q v s') E s:=by
 obtain⟨hz,hI,⟨arr,na,hO⟩,hit⟩:=hs;show wpAny _ _ (field (.ref<|n+N+2) 2 >>=_) _ _ _;refine zb<|yc hz rfl (x:=.bool false) rfl ?_;show wpAny _ _ (field (.ref<|n+N+2) 3 >>=_) _ _ _;refine zb<|yc hz rfl (x:=.ref<|n+N) rfl ?_;refine zb<|wpAny_seqItems hI rfl ?_;have he:(fJ N λj=>Value.ref<|n+j).isEmpty=false:=by rw[Array.isEmpty_eq_false_iff];intro e;have:=congrArg Array.size e;rw[j5]at this;simp at this;lia
 dsimp only;rw[if_neg<|by rw[he];exact zd];refine zb ?_;unfold Builtin.SmallTypes.ownedTupleIsFree;refine zb<|yc hz rfl (x:=.none) rfl<|zw ?_;simp only[if_true];refine zb<|wpAny_rule ?_;refine zb<|yc hz rfl (x:=.ref<|n+N+1) rfl ?_;refine zb<|wpAny_setField_rec hz (by simp) λh0 P9 q0=>?_;replace P9:IsZip h0 (n+N+2) (n+N) (n+N+1) .ellipsis:=P9;have k0:∀c o,c≠n+N+2->s.heap.get? c=some o->h0.get? c=some o:=λc o d e=>q0.extBut _ _ d e;refine zb<|wpAny_forIn_list _ (λrest b s'=>∃(k:Nat)(h':Heap)(a':Array Value),k<=N/\rest=((fJ N λj=>Value.ref<|n+j).toList.zipIdx).drop k/\b=(none,())/\s'={s with heap:=h'}/\l4 h' (n+N+1) a'/\a'.size=N/\(∀j,j<k->a'[j]?=some (v j))/\(∀j,j<N->h'.IsTupleIter (n+j) (l j) (if j<k then i+1 else i))/\IsZip h' (n+N+2) (n+N) (n+N+1) .ellipsis/\h'.objs.size=s.heap.objs.size/\(∀c o,c≠n+N+2->c≠n+N+1->(∀j,j<N->c≠n+j)->s.heap.get? c=some o->h'.get? c=some o)) _ ?_ ?_ _ _ ?_;rintro x rest b s' ⟨k,h',a',hk,e1,rfl,rfl,O,ha,hv,J,Z,sz,kp⟩;have b8:k<N:=by have:=congrArg List.length e1;rw[zG,List.length_drop,List.length_zipIdx,jo]at this;lia
 have e2:((fJ N λj=>Value.ref<|n+j).toList.zipIdx).drop k=(Value.ref<|n+k,k)::((fJ N λj=>Value.ref<|n+j).toList.zipIdx).drop (k+1):=by rw[List.drop_eq_getElem_cons<|by rw[List.length_zipIdx,jo];exact b8];simp[fJ]
 rw[e2]at e1;cases e1;have lk:@LT.lt Nat _ (l k) n:=lt k b8;have Jk:=J k b8;rw[if_neg<|yx _]at Jk;have T0:Heap.IsTuple h' (l k) (xs k):=by obtain⟨o,a1,a2⟩:=tu k b8;exact{o,kp _ _ (by show @Ne Nat _ _;lia) (by show @Ne Nat _ _;lia) (λj _=>by show @Ne Nat _ _;lia) a1,a2}
 refine zb<|wpAny_onRaise ?_;show wpAny _ _ (Builtin.SmallTypes.nextOf (.ref<|n+k) >>=_) _ _ _;refine zb<|Bb (s:={s with heap:=h'}) Jk T0 (ev k b8) λg1 m0 q1=>zw ?_;have O1:l4 g1 (n+N+1) a':=q1.extBut _ _ (by show @Ne Nat _ _;lia) O;refine zb<|wpAny_seqItems (s:={s with heap:=g1}) O1 rfl ?_;refine zb<|EB (s:={s with heap:=g1}) O1 (by lia) λg2 O2 q2=>?_;refine zb<|wpAny_letGo<|zw ?_;refine{k+1,g2,_,b8,rfl,rfl,rfl,O2,by rw[Array.size_setIfInBounds];exact ha,λj hj=>?_,λj hj=>?_,q2.extBut _ _ (by show @Ne Nat _ _;lia)<|q1.extBut _ _ (by show @Ne Nat _ _;lia) Z,by rw[q2.1,q1.1];exact sz,λc o d1 d2 d3 e=>q2.extBut _ _ d2<|q1.extBut _ _ (d3 k b8)<|kp c o d1 d2 d3 e};by_cases z:j=k;subst z;rw[Array.getElem?_setIfInBounds_self_of_lt<|by lia];rw[Array.getElem?_setIfInBounds_ne<|Ne.symm z];exact hv j (by lia);by_cases z:j=k;subst z;rw[if_pos<|Nat.lt_succ_self _];exact u7 q2.extBut (by show @Ne Nat _ _;lia) m0;have:=J j hj;rw[show(if j<k+1 then i+1 else i)=if j<k then i+1 else i by by_cases y:j<k;rw[if_pos y,if_pos<|by lia];rw[if_neg y,if_neg<|by lia]];exact u7 q2.extBut (by show @Ne Nat _ _;lia)<|u7 q1.extBut (by show @Ne Nat _ _;lia) this;rintro b s' ⟨k,h',a',hk,e1,rfl,rfl,O,ha,hv,J,Z,sz,kp⟩;have b8:k=N:=by have:=congrArg List.length e1;rw[List.length_nil,List.length_drop,List.length_zipIdx,jo]at this;lia
 subst b8;have ea:=LC ha hv;subst ea;refine zb<|wpAny_seqItems (s:={s with heap:=h'}) O rfl ?_;refine zb<|wpAny_newTuple ?_ (hsz:=by rw[jo];exact YF h3);have lz:n+k+2<h'.objs.size:=zt Z;show wpAny _ _ (Builtin.SmallTypes.ownedTupleHandOut (.ref<|n+k+2) (.ref h'.objs.size) >>=_) _ _ _;refine zb ?_;unfold Builtin.SmallTypes.ownedTupleHandOut;have hzM:IsZip (h'.push {cls:=.type "tuple",data:=.seq<|fJ k v}) (n+k+2) (n+k) (n+k+1) .ellipsis:=za _ Z;refine zb<|wpAny_setField_rec (s:={s with heap:=h'.push {cls:=.type "tuple",data:=.seq<|fJ k v}}) hzM (by simp) λg1 RX r1=>?_;replace RX:IsZip g1 (n+k+2) (n+k) (n+k+1) (rawInt h'.objs.size):=RX;refine wpAny_setField_rec (s:={s with heap:=g1}) RX (by simp) λg2 PX r2=>?_;replace PX:IsZip g2 (n+k+2) (n+k) (n+k+1) (rawInt h'.objs.size):=PX;have up:∀c o,c≠n+k+2->h'.get? c=some o->g2.get? c=some o:=λc o d e=>r2.extBut _ _ d<|r1.extBut _ _ d<|za _ e;have hT:l4 g2 h'.objs.size (fJ k v):=r2.extBut _ _ (yk lz)<|r1.extBut _ _ (yk lz)<|zk _ rfl;rw[sz]at PX hT;refine zw !⟨?_⟩;show Q (.ref h'.objs.size) _;rw[sz];refine hQ g2 PX (up _ _ (by show @Ne Nat _ _;lia) O) (λj hj=>?_) hT λc o d1 d2 d3 e=>up c o d1<|kp c o d1 d2 d3 e;have:=J j hj;rw[if_pos hj]at this;exact MR (λo e=>up _ o (by show @Ne Nat _ _;lia) e) this;refine{0,h0,arr,zZ _,rfl,rfl,rfl,k0 _ _ (by show @Ne Nat _ _;lia) hO,na,λj hj=>absurd hj<|Nat.not_lt_zero _,λj hj=>?_,P9,q0.1,λc o d _ _ e=>k0 c o d e};rw[if_neg<|Nat.not_lt_zero _];obtain⟨o,a1,a2⟩:=hit j hj;exact{o,k0 _ _ (by show @Ne Nat _ _;lia) a1,a2}
theorem HK(h1:1<=N)(hh:A.handled=none)(hs:ZN n N l i s.heap)(lt:l 0<n)(t0:s.heap.IsTuple (l 0)<|xs 0)(e0:(xs 0)[i]?=none) (hE:∀h' e,(∀c o,c≠n+N+2->c≠n+0->s.heap.get? c=some o->h'.get? c=some o)->(∃o,h'.get? e=some o/\o.cls=.type "StopIteration")->E (.ref e) {s with heap:=h'}): wpAny (model prog w) A (Builtin.«zip.__next__» {[.ref<|n+N+2],[]}) Q E s:=by
 obtain⟨hz,hI,⟨arr,na,hO⟩,hit⟩:=hs;show wpAny _ _ (field (.ref<|n+N+2) 2 >>=_) _ _ _;refine zb<|yc hz rfl (x:=.bool false) rfl ?_;show wpAny _ _ (field (.ref<|n+N+2) 3 >>=_) _ _ _;refine zb<|yc hz rfl (x:=.ref<|n+N) rfl ?_;refine zb<|wpAny_seqItems hI rfl ?_;have he:(fJ N λj=>Value.ref<|n+j).isEmpty=false:=by rw[Array.isEmpty_eq_false_iff];intro e;have:=congrArg Array.size e;rw[j5]at this;simp at this;lia
 dsimp only;rw[if_neg<|by rw[he];exact zd];refine zb ?_;unfold Builtin.SmallTypes.ownedTupleIsFree;refine zb<|yc hz rfl (x:=.none) rfl<|zw ?_;simp only[if_true];refine zb<|wpAny_rule ?_;refine zb<|yc hz rfl (x:=.ref<|n+N+1) rfl ?_;refine zb<|wpAny_setField_rec hz (by simp) λh0 P9 q0=>?_;replace P9:IsZip h0 (n+N+2) (n+N) (n+N+1) .ellipsis:=P9;have lk:@LT.lt Nat _ (l 0) n:=lt;have J0:Heap.IsTupleIter h0 (n+0) (l 0) i:=by obtain⟨o,a1,a2⟩:=hit 0 h1;exact{o,q0.extBut _ _ (by show @Ne Nat _ _;lia) a1,a2}
 have T0:Heap.IsTuple h0 (l 0) (xs 0):=by obtain⟨o,a1,a2⟩:=t0;exact{o,q0.extBut _ _ (by show @Ne Nat _ _;lia) a1,a2}
 have e2:(fJ N λj=>Value.ref<|n+j).toList.zipIdx=(Value.ref<|n+0,0)::((fJ N λj=>Value.ref<|n+j).toList.zipIdx).drop 1:=by have:=List.drop_eq_getElem_cons (l:=(fJ N λj=>Value.ref<|n+j).toList.zipIdx) (i:=0) (by rw[List.length_zipIdx,jo];exact h1);rw[List.drop_zero]at this;rw[this];simp[fJ]
 rw[e2,List.forIn_cons];refine zb<|zb<|zb<|wpAny_onRaise ?_;show wpAny _ _ (Builtin.SmallTypes.nextOf (.ref<|n+0) >>=_) _ _ _;refine zb<|qE (s:={s with heap:=h0}) hh J0 T0 e0 λh1 e q1 he=>?_;obtain⟨oe,ZX,hce⟩:=he;have RX:IsZip h1 (n+N+2) (n+N) (n+N+1) .ellipsis:=q1 _ _ (by show @Ne Nat _ _;lia) P9;have ez:e≠n+N+2:=λx=>by subst x;rw[RX]at ZX;cases ZX;simp at hce
 refine wpAny_setField_rec (s:={s with heap:=h1}) RX (by simp) λh2 _ q2=>hE h2 e (λc o dz d0 x=>q2.extBut _ _ dz<|q1 _ _ d0<|q0.extBut _ _ dz x) {oe,q2.extBut _ _ ez ZX,hce}
end
noncomputable def P_(K:Frag)(N:Nat)(l:Nat->Addr):It:={λi H=>∃(xs:Nat->List V)(x:Nat->V),∀j,j<N->gM K H (l j) (xs j)/\(xs j)[i]?=some (x j),λi H y H'=>∃T,H T=none/\y=.ref T/\∀(xs:Nat->List V)(x:Nat->V),(∀j,j<N->gM K H (l j) (xs j)/\(xs j)[i]?=some (x j))->H'=upd H T (.tup<|(List.range N).map x),λi H=>∃xs:Nat->List V,(∀j,j<N->gM K H (l j) (xs j))/\(xs 0).length<=i}
noncomputable def RY(n N:Nat):List Addr:=(List.range<|N+3).map λj=>n+j
theorem p7(h:b∈RY n N):∃j,j<N+3/\b=n+j:=by obtain⟨j,hj,e⟩:=zj.mp h;exact{j,zT.mp hj,e.symm}
theorem fK(h:j<N+3):(n+j:Nat)∈RY n N:=zj.mpr {j,zT.mpr h,rfl}
theorem BD(h:∀j,j<N->RelV (x j) (u j)):Vals ((List.range N).map x) ((List.range N).map u):=by
 have:∀l:List Nat,(∀j∈l,j<N)->Vals (l.map x) (l.map u):=by intro l;induction l with|nil=>exact λ_=>.nil|cons a l ih=>exact λhl=>.cons (h a<|hl a zp)<|ih λj hj=>hl j<|zh _ hj
 exact this _ λj hj=>zT.mp hj
theorem uv{P:Program}{w:World}{K:Frag}{es:List Expr}{kk:Nat}{tp:Pos}{n N:Nat}{l:Nat->Addr}(h1:1<=N)(h3:N<=3)(lt:∀j,j<N->l j<n):Turn P w K (.Tuple es kk tp) (P_ K N l) (RY n N) (n+N+2) (ZN n N l) where
 mem:=fK (j:=N+2)<|by lia
 obj:=λi h st b hb=>by
  obtain⟨j,hj,rfl⟩:=p7 hb
  by_cases q:j<N
  ·obtain⟨o,e,c,d⟩:=st.it j q;exact{o,e,λv z=>by rw[d]at z;cases z}
  ·obtain⟨arr,na,hO⟩:=st.o
   have:j=N\/j=N+1\/j=N+2:=by lia
   rcases this with rfl|rfl|rfl
   ·exact{_,st.t,λv z=>by cases z}
   ·exact{_,hO,λv z=>by cases z}
   ·exact{_,st.z,λv z=>by cases z}
 keep:=λi h h' st k=>by
  obtain⟨hz,hI,⟨arr,na,hO⟩,J⟩:=st
  exact{k _ (fK (j:=N+2)<|by lia) _ hz,k _ (fK (j:=N)<|by lia) _ hI,{arr,na,k _ (fK (j:=N+1)<|by lia) _ hO},λj hj=>MR (λo e=>k _ (fK<|by lia) o e)<|J j hj}
 item:=by
  intro X hP hw hK hc i pins s σ H E I hf st hg
  subst hP hw hK
  obtain⟨xs,x,hx⟩:=hg
  have ex:∀j,∃(az:List Value)(u:Value),j<N->Vals (xs j) az/\s.heap.IsTuple (l j) az.toArray/\az[i]?=some u/\RelV (x j) u:=λj=>by
   by_cases q:j<N
   ·obtain⟨az,rv,p,_⟩:=I.tuple (hx j q).1
    obtain⟨u,hu,ru⟩:=rv.get (hx j q).2
    exact{az,u,λ_=>⟨rv,p,hu,ru⟩}
   ·exact{[],.none,λh=>absurd h q}
  have fx:=Classical.axiomOfChoice ex
  obtain⟨az,fx⟩:=fx
  obtain⟨u,fx⟩:=Classical.axiomOfChoice fx
  have hT:s.TypeIs (.ref<|n+N+2) "zip":={_,st.z,rfl}
  have lz:@LT.lt Nat _ (n+N+2) s.heap.objs.size:=zt st.z
  unfold pyNext
  refine zb<|wpAny_attempt<|wpAny_callSpecial?_slot (name:=Str.ofString "__next__") hT F.slot_zip_next<|yK F.slot_zip_next hT F.entry_zip_next (EY h1 h3 lt st (xs:=λj=>(az j).toArray) (v:=u) (λj hj=>(fx j hj).2.1) (λj hj=>by simpa using (fx j hj).2.2.1) λg1 z1 O1 m1 T1 kp=>zw !⟨?_⟩)<|F.args_zip_next_1 _
  refine wpAny_letOwnedTupleGo_zip (s:={s with heap:=g1}) z1 λg2 z2 r2=>?_
  have W3:∀c o,c∉RY n N->s.heap.get? c=some o->g2.get? c=some o:=λc o hc e=>r2.extBut _ _ (λz=>hc<|z ▸ fK (j:=N+2) (by lia))<|kp c o (λz=>hc<|z ▸ fK (j:=N+2) (by lia)) (λz=>hc<|z ▸ fK (j:=N+1) (by lia)) (λj hj z=>hc<|z ▸ fK (by lia)) e
  have T2:l4 g2 s.heap.objs.size (fJ N u):=r2.extBut _ _ (yk lz) T1
  have I2:Inv X pins σ (upd H s.heap.objs.size<|.tup<|(List.range N).map x) {s with heap:=g2}:=I.KO (t':=s.toks) (RY n N) hf W3 (Heap.get?_none_of_le<|zo _) {by rw[zc,List.length_range];exact YE<|zL h3<|by decide,_,BD λj hj=>(fx j hj).2.2.2,{_,T2,rfl,rfl,_,rfl}}
  refine{.ref s.heap.objs.size,_,I2,rfl,{_,I.aG.fresh<|zo _,rfl,λys y hy=>?_},{z2,?_,{_,j5,r2.extBut _ _ (by show @Ne Nat _ _;lia) O1},λj hj=>u7 r2.extBut (by show @Ne Nat _ _;lia)<|m1 j hj},λb hb=>?_}
  ·congr 2
   refine zX λj hj=>?_
   have hj:=zT.mp hj
   have:=I.m6 (hy j hj).1 (hx j hj).1
   have e:=(hy j hj).2
   rw[this,(hx j hj).2]at e
   exact zU e
  ·exact r2.extBut _ _ (by show @Ne Nat _ _;lia) (kp _ _ (by show @Ne Nat _ _;lia) (by show @Ne Nat _ _;lia) (λj hj=>by show @Ne Nat _ _;lia) st.t)
  ·obtain⟨j,hj,rfl⟩:=p7 hb
   rw[ar<|by show @Ne Nat _ _;lia]
   exact(hf _ hb).1
 done:=by
  intro X hP hw hK hc i pins s σ H E I hf st hg
  subst hP hw hK
  obtain⟨xs,hx,hl⟩:=hg
  obtain⟨HL,ZY,p0,_⟩:=I.tuple<|hx 0 h1
  have hT:s.TypeIs (.ref<|n+N+2) "zip":={_,st.z,rfl}
  have RZ:=ZY.length
  unfold pyNext
  refine zb<|wpAny_attempt<|wpAny_callSpecial?_slot (name:=Str.ofString "__next__") hT F.slot_zip_next<|yK F.slot_zip_next hT F.entry_zip_next (HK h1 (I.ok.hd hc) st (lt 0 h1) (xs:=λ_=>HL.toArray) p0 (by simp;lia) λh1 e kp he=>?_)<|F.args_zip_next_1 _
  obtain⟨o,ho,Ll⟩:=he
  refine zb<|wpAny_isInstance (T:="StopIteration") (b:=true) ⟨o,ho,Ll⟩ isSubtype_stop<|zw {rfl,?_}
  exact I.KN (t':=s.toks) (RY n N) hf λc o hc e=>kp c o (λz=>hc<|z ▸ fK (j:=N+2) (by lia)) (λz=>hc<|z ▸ fK (j:=0) (by lia)) e
 self:=λA' i s Q E st h=>wpAny_pyIter_zip st.z h
noncomputable def two(a b:Addr):Nat->Addr:=λj=>if j=0 then a else b
noncomputable def Qa(a b c:Addr):Nat->Addr:=λj=>if j=0 then a else if j=1 then b else c
theorem W_{p:Nat->Prop}(h0:p 0)(h1:p 1):∀j,j<2->p j|0,_=>h0|1,_=>h1|j+2,h=>by lia
theorem Xa{p:Nat->Prop}(h0:p 0)(h1:p 1)(h2:p 2):∀j,j<3->p j|0,_=>h0|1,_=>h1|2,_=>h2|j+3,h=>by lia
section
variable{X:Cx}{a b c:Expr}{ta:TA}{p pos tp:Pos}{es:List Expr}{kk:Nat}
theorem Qb(hg:Gl X "zip")(hm:X.mg "zip"= none)(ha:PA X [a,b] ta)(hs:starEach [a,b] X.env=[(false,eval a X.env),(false,eval b X.env)])(uQ:starEach [b] X.env=[(false,eval b X.env)]): PI X (.Tuple es kk tp) (.Call (.Name "zip" p) [a,b] [] pos) (λσ H R=>ta σ H λvs H1=>∃l0 l1,vs=[.ref l0,.ref l1]/\(∃xs,gM X.K H1 l0 xs)/\(∃xs,gM X.K H1 l1 xs)/\R (P_ X.K 2<|two l0 l1) H1):=by intro pins s σ H R I h;refine Call_<|gA I hg hm boot_zip<|PyProof.Rows.callWith_type1 (aX (ha pos pins s σ H _ I h) λus s1 ⟨vs,H1,I1,r1,q1⟩=>?_) (by rw[hs,uQ]) (by rw[uQ];rfl);obtain⟨l0,l1,e,⟨Bc,q0⟩,⟨Be,q2⟩,q⟩:=q1;subst e;obtain⟨u,v,rfl,r,r'⟩:=r1.two;cases r;cases r';obtain⟨HL,ZY,p0,_⟩:=I1.tuple q0;obtain⟨Qc,Vh,p1,_⟩:=I1.tuple q2;refine Bh (show s1.heap.IsTuple l0 HL.toArray from p0) (show s1.heap.IsTuple l1 Qc.toArray from p1) λh' zs kp=>?_;have zn:ZN s1.heap.objs.size 2 (two l0 l1) 0 h':={zs.1,zs.2.1,zs.2.2.1,W_ zs.2.2.2.1 zs.2.2.2.2};refine wpAny_pyIter_zip (s:={s1 with heap:=h'}) zs.1 {_,_,_,_,H1,rfl,I1.kept (t':=s1.toks) kp,uv (by decide) (by decide)<|W_ p0.lt p1.lt,zn,λb hb=>?_,q};obtain⟨j,_,rfl⟩:=p7 hb;exact I1.pe (Nat.le_add_right _ _)<|I1.aG.fresh<|Nat.le_add_right _ _
theorem Qe(hg:Gl X "zip")(hm:X.mg "zip"= none)(ha:PA X [a,b,c] ta)(hs:starEach [a,b,c] X.env=[(false,eval a X.env),(false,eval b X.env),(false,eval c X.env)])(uQ:starEach [b,c] X.env=[(false,eval b X.env),(false,eval c X.env)]): PI X (.Tuple es kk tp) (.Call (.Name "zip" p) [a,b,c] [] pos) (λσ H R=>ta σ H λvs H1=>∃l0 l1 l2,vs=[.ref l0,.ref l1,.ref l2]/\(∃xs,gM X.K H1 l0 xs)/\(∃xs,gM X.K H1 l1 xs)/\(∃xs,gM X.K H1 l2 xs)/\R (P_ X.K 3<|Qa l0 l1 l2) H1):=by intro pins s σ H R I h;refine Call_<|gA I hg hm boot_zip<|PyProof.Rows.callWith_type1 (aX (ha pos pins s σ H _ I h) λus s1 ⟨vs,H1,I1,r1,q1⟩=>?_) (by rw[hs,uQ]) (by rw[uQ];rfl);obtain⟨l0,l1,l2,e,⟨Bc,q0⟩,⟨Be,q2⟩,⟨RE,q3⟩,q⟩:=q1;subst e;obtain⟨u,v,z,rfl,r,r',r''⟩:=r1.three;cases r;cases r';cases r'';obtain⟨HL,ZY,p0,_⟩:=I1.tuple q0;obtain⟨Qc,Vh,p1,_⟩:=I1.tuple q2;obtain⟨lU,RU,p2,_⟩:=I1.tuple q3;refine Bo (show s1.heap.IsTuple l0 HL.toArray from p0) (show s1.heap.IsTuple l1 Qc.toArray from p1) (show s1.heap.IsTuple l2 lU.toArray from p2) λh' zs kp=>?_;have zn:ZN s1.heap.objs.size 3 (Qa l0 l1 l2) 0 h':={zs.1,zs.2.1,zs.2.2.1,Xa zs.2.2.2.1 zs.2.2.2.2.1 zs.2.2.2.2.2};refine wpAny_pyIter_zip (s:={s1 with heap:=h'}) zs.1 {_,_,_,_,H1,rfl,I1.kept (t':=s1.toks) kp,uv (by decide) (by decide)<|Xa p0.lt p1.lt p2.lt,zn,λb hb=>?_,q};obtain⟨j,_,rfl⟩:=p7 hb;exact I1.pe (Nat.le_add_right _ _)<|I1.aG.fresh<|Nat.le_add_right _ _
end
section
variable{K:Frag}{X:Cx}{a c e:Expr}{t:ir}{p pos tp:Pos}{es:List Expr}{kk:Nat}
theorem izn(hm:X.mg "zip"= none)(ha:DA K X [a,c] t)(hg:autoParam (Gl X "zip") qQJ)(hs:autoParam (starEach [a,c] X.env=[(false,eval a X.env),(false,eval c X.env)]) qQJ)(uQ:autoParam (starEach [c] X.env=[(false,eval c X.env)]) qQJ)(hK:autoParam (X.K=K) qQJ): DI K X (.Tuple es kk tp) (.Call (.Name "zip" p) [a,c] [] pos) (UZ t):=by subst hK;exact⟨λy=>(Qb (X:=y.cx) hg hm (ha.of y) hs uQ).mono λτ H R ⟨σ,S,RI,Z,aB,hS,q,hR,hZ⟩=>{σ,S,_,Z,aB,hS,q,λds S1 vs H1 ⟨xs,ys,e,hl,r1⟩ v1 s1 k1=>by subst e;obtain⟨v,u,rfl,ra,rb⟩:=v1.two;obtain⟨a,va,rfl,qa,ta⟩:=ra.tup;obtain⟨b,vb,rfl,qb,tb⟩:=rb.tup;refine{a,b,rfl,{va,.of qa},{vb,.of qb},hR _ S1 _ H1 r1 (λi S2 H2 k2 s2 _=>?_) s1 k1};have Vr:gM X.K H2 a va:=.of<|k2.t _ _ qa;have Vs:gM X.K H2 b vb:=.of<|k2.t _ _ qb;have la:va.length=xs.length:=ta.len;let f:Nat->List V:=λj=>if j=0 then va else vb;refine{λd hd=>?_,λh=>{f,W_ Vr Vs,by show va.length<=i;unfold iu at h;rw[List.length_zipWith]at h;lia}};unfold iu at hd;obtain⟨x,y',e1,e2,e3⟩:=List.getElem?_zipWith_eq_some.mp hd;subst e3;obtain⟨vx,f1,g1⟩:=(RvAll.ts k2 _ ta).get e1;obtain⟨vy,f2,g2⟩:=(RvAll.ts k2 _ tb).get e2;let g:Nat->V:=λj=>if j=0 then vx else vy;have ok:∀j,j<2->gM X.K H2 (two a b j) (f j)/\(f j)[i]?=some (g j):=W_ ⟨Vr,f1⟩ ⟨Vs,f2⟩;refine{⟨f,g,ok⟩,λx' H' ⟨T,hT,e4,e5⟩=>?_};have:=e5 f g ok;subst this e4;have kk:Kp X.K H2 (upd H2 T<|.tup [vx,vy]):=.new hT;exact{jj aC<|RvAll.ts kk _<|aT g1<|aT g2 bh,kk,s2.grow hT},hZ}⟩
theorem ZZ(hm:X.mg "zip"= none)(ha:DA K X [a,c,e] t)(hg:autoParam (Gl X "zip") qQJ)(hs:autoParam (starEach [a,c,e] X.env=[(false,eval a X.env),(false,eval c X.env),(false,eval e X.env)]) qQJ)(uQ:autoParam (starEach [c,e] X.env=[(false,eval c X.env),(false,eval e X.env)]) qQJ)(hK:autoParam (X.K=K) qQJ): DI K X (.Tuple es kk tp) (.Call (.Name "zip" p) [a,c,e] [] pos) (P8 t):=by subst hK;exact⟨λy=>(Qe (X:=y.cx) hg hm (ha.of y) hs uQ).mono λτ H R ⟨σ,S,RI,Z,aB,hS,q,hR,hZ⟩=>{σ,S,_,Z,aB,hS,q,λds S1 vs H1 ⟨xs,ys,zs,e,hl,JH,r1⟩ v1 s1 k1=>by subst e;obtain⟨v,u,w,rfl,ra,rb,rc⟩:=v1.thr;obtain⟨a,va,rfl,qa,ta⟩:=ra.tup;obtain⟨b,vb,rfl,qb,tb⟩:=rb.tup;obtain⟨c,vc,rfl,qc,tc⟩:=rc.tup;refine{a,b,c,rfl,{va,.of qa},{vb,.of qb},{vc,.of qc},hR _ S1 _ H1 r1 (λi S2 H2 k2 s2 _=>?_) s1 k1};have Vr:gM X.K H2 a va:=.of<|k2.t _ _ qa;have Vs:gM X.K H2 b vb:=.of<|k2.t _ _ qb;have qc2:gM X.K H2 c vc:=.of<|k2.t _ _ qc;have la:va.length=xs.length:=ta.len;let f:Nat->List V:=λj=>if j=0 then va else if j=1 then vb else vc;refine{λd hd=>?_,λh=>{f,Xa Vr Vs qc2,by show va.length<=i;rw[la,<-nF hl JH];exact h}};obtain⟨x,y',z,e1,e2,e3,e4⟩:=nG hd;subst e4;obtain⟨vx,f1,g1⟩:=(RvAll.ts k2 _ ta).get e1;obtain⟨vy,f2,g2⟩:=(RvAll.ts k2 _ tb).get e2;obtain⟨vz,f3,g3⟩:=(RvAll.ts k2 _ tc).get e3;let g:Nat->V:=λj=>if j=0 then vx else if j=1 then vy else vz;have ok:∀j,j<3->gM X.K H2 (Qa a b c j) (f j)/\(f j)[i]?=some (g j):=Xa ⟨Vr,f1⟩ ⟨Vs,f2⟩ ⟨qc2,f3⟩;refine{⟨f,g,ok⟩,λx' H' ⟨T,hT,e4,e5⟩=>?_};have:=e5 f g ok;subst this e4;have kk:Kp X.K H2 (upd H2 T<|.tup [vx,vy,vz]):=.new hT;exact{jj aC<|RvAll.ts kk _<|aT g1<|aT g2<|aT g3 bh,kk,s2.grow hT},hZ}⟩
end
end L2
namespace My
open PySem L2
def top(i:Nat):Stmt:=PySem.Challenge.pw_pageturns_k42_walks_refused.main.body.getD i<|.Pass {0,0,0,0}
abbrev EZ:Stmt:=top 20
abbrev HM:Stmt:=top 21
abbrev E1:Stmt:=top 22
abbrev pE:Stmt:=top 29
abbrev BE:Stmt:=top 31
abbrev vm:Stmt:=top 34
abbrev kO:Stmt:=top 42
abbrev BF:Stmt:=top 44
abbrev s_:Stmt:=top 52
abbrev xK:Stmt:=top 53
abbrev xM:Stmt:=top 57
abbrev qS:Stmt:=top 61
abbrev gR:Stmt:=top 63
abbrev gT:Stmt:=top 64
abbrev fL:Stmt:=top 65
abbrev BG:Stmt:=top 88
abbrev HN:Stmt:=top 92
abbrev E3:Stmt:=top 93
abbrev Vt:Stmt:=top 98
abbrev fb:Stmt:=top 78
abbrev a_:Stmt:=top 80
structure eZ where
 (nH lj Nj me qU vn jq jr uw dA mf gU aK aL ee aS qW mh eB aF aj gf aO fj aI:Addr)
 (gW fM HP gk js:FuncData)
 (mi nI mj qX kC xN kD ml xO LD Vu:Tok)
 ts:List Addr
 (f HQ BH:Nat->Addr)
 (d Vv Qf:Nat->FuncData)
structure Txt(w:World)(K:Frag)(mg:Str->Option Value)(t:eZ):Prop where
 fn:EX K mg top t.f t.d [17,18,19,20,21,22,23,24,25,26,29,30,31,32,33,34,35,40,41,42,43,44,45,46,52,53,54,55,56,57,58,60,61,62,64,68,69,70,71,72,73,74,81,83,84,85,86,87,88,89,90,91,92,93,94,95,96,97]
 gE:BC K t.aF "Walk." fb t.HQ t.Vv [0,1,5,7,8,9,10,11,12,13,14]
 eN:BC K t.aj "Shelf." a_ t.BH t.Qf [0,1,2,3,4,5,6,7,8,13]
 fN:Ng K mg "sorted_by_keys" (top 63) ["rows","way"] t.nH t.gW
 eC:Ng K mg "sorted_by_values" (top 65) ["columns","part","rows"] t.lj t.fM
 Z1:Ng K mg "law" (top 98) ["_law_script"] t.Nj t.HP
 dj:Nh K t.aj "worths_at" "Shelf.worths_at" (inClass a_ 9) ["self","key","moment"] t.me t.gk
 fk:Binds K t.gk ["self","key","moment"] [.none]
 dI:Nh K t.aj "all_at" "Shelf.all_at" (inClass a_ 10) ["self","moment"] t.qU t.js
 nJ:Binds K t.js ["self","moment"] [.none]
 lq:mg "MOST_NAME_SIGNS"= some (.int 8 t.mi)
 mm:mg "MOST_KEY_SIGNS"= some (.int 12 t.nI)
 lA:mg "MOST_WORD_SIGNS"= some (.int 40 t.mj)
 pF:mg "MOST_COLUMNS"= some (.int 8 t.qX)
 jt:mg "MOST_PARTS_orders"= some (.int 8 t.kC)
 vo:mg "MOST_DEEP"= some (.int 8 t.xN)
 ju:mg "MOST_PARTS_sieves"= some (.int 200 t.kD)
 lB:mg "MOST_IN_A_TUPLE"= some (.int 8 t.ml)
 vp:mg "MOST_ROWS"= some (.int 1000 t.xO)
 qY:mg "START"= some (.str "start" t.LD)
 Qg:mg "END"= some (.str "end" t.Vu)
 HR:mg "KINDS"= some (.ref t.vn)
 HS:∀H,Rv K H (.kt [.str "number",.str "word"])<|.ref t.vn
 vq:mg "OTHER_WAY"= some (.ref t.jq)
 xP:K0 w K t.jq [("up",.str "down"),("down",.str "up")]
 vt:mg "OTHER_END"= some (.ref t.jr)
 xQ:K0 w K t.jr [("first",.str "last"),("last",.str "first")]
 BI:mg "LENGTHS"= some (.ref t.uw)
 E6:K0 w K t.uw [("every",.int 1),("is",.int 3),("below",.int 3),("above",.int 3),("begins",.int 3),("key",.int 2),("not",.int 2),("and",.int 2),("or",.int 2)]
 bc:mg "len"= none
 mn:mg "all"= none
 Vx:mg "any"= none
 ay:mg "isinstance"= none
 ft:mg "range"= none
 Nk:mg "int"= none
 qZ:mg "str"= none
 Qh:mg "bool"= none
 cJ:mg "tuple"= none
 Qi:mg "list"= none
 Qj:mg "dict"= none
 Nl:mg "set"= none
 Nm:mg "zip"= none
 gX:mg "sorted"= none
 Nn:mg "min"= none
 abN:mg "max"= none
 q9:mg "reversed"= none
 vA:mg "PageError"= some (.ref t.dA)
 jv:excIn K t.dA L2.nj "ValueError.__new__"= true
 gF:mg "BadColumns"= some (.ref t.mf)
 dJ:excIn K t.mf L2.nj "ValueError.__new__"= true
 j6:mg "BadRow"= some (.ref t.gU)
 gY:excIn K t.gU L2.nj "ValueError.__new__"= true
 dD:mg "BadOrder"= some (.ref t.aK)
 cy:excIn K t.aK L2.nj "ValueError.__new__"= true
 jw:mg "BadSieve"= some (.ref t.aL)
 fO:excIn K t.aL L2.nj "ValueError.__new__"= true
 xR:mg "BadPlace"= some (.ref t.ee)
 q_:mg "BadSize"= some (.ref t.aS)
 j7:excIn K t.aS L2.nj "ValueError.__new__"= true
 E7:mg "HasKey"= some (.ref t.qW)
 rf:excIn K t.qW L2.nj "ValueError.__new__"= true
 HU:mg "NoKey"= some (.ref t.mh)
 vB:excIn K t.mh L2.nj "ValueError.__new__"= true
 xS:mg "NoMoment"= some (.ref t.eB)
 lC:excIn K t.eB L2.nj "ValueError.__new__"= true
 jx:XA K t.aK
 jy:XA K t.aL
 lE:XA K t.aS
 cz:mroIn K t.aK (.ref t.dA)=some true
 cA:mroIn K t.aL (.ref t.dA)=some true
 cQ:mroIn K t.aS (.ref t.dA)=some true
 k_BadOrder_BadOrder:kitOne K (.ref t.aK) (.ref t.aK)=some true
 k_BadOrder_BadSieve:kitOne K (.ref t.aK) (.ref t.aL)=some false
 k_BadOrder_BadPlace:kitOne K (.ref t.aK) (.ref t.ee)=some false
 k_BadOrder_BadSize:kitOne K (.ref t.aK) (.ref t.aS)=some false
 k_BadSieve_BadOrder:kitOne K (.ref t.aL) (.ref t.aK)=some false
 k_BadSieve_BadSieve:kitOne K (.ref t.aL) (.ref t.aL)=some true
 k_BadSieve_BadPlace:kitOne K (.ref t.aL) (.ref t.ee)=some false
 k_BadSieve_BadSize:kitOne K (.ref t.aL) (.ref t.aS)=some false
 k_BadSize_BadOrder:kitOne K (.ref t.aS) (.ref t.aK)=some false
 k_BadSize_BadSieve:kitOne K (.ref t.aS) (.ref t.aL)=some false
 k_BadSize_BadPlace:kitOne K (.ref t.aS) (.ref t.ee)=some false
 k_BadSize_BadSize:kitOne K (.ref t.aS) (.ref t.aS)=some true
 Dh:mg "Walk"= some (.ref t.aF)
 aA:pW K t.aF
 Di:Mk K t.aF (t.HQ 0)
 c9:findIn K (.ref t.aF) "shelf"= some none
 c_:findIn K (.ref t.aF) "order"= some none
 eO:findIn K (.ref t.aF) "sieve"= some none
 fu:findIn K (.ref t.aF) "size"= some none
 fw:findIn K (.ref t.aF) "fore"= some none
 cB:findIn K (.ref t.aF) "hinder"= some none
 HV:mg "Shelf"= some (.ref t.aj)
 ai:pW K t.aj
 HW:Mk K t.aj (t.BH 0)
 cK:findIn K (.ref t.aj) "columns"= some none
 cE:findIn K (.ref t.aj) "deeds"= some none
 bH:findIn K (.ref t.aj) "runs"= some none
 gm:t.gW.code=.ref t.gf
 dM:codeHdIn K t.gf t.aO=true
 mq:t.aO∈t.ts
 fm:t.fM.code=.ref t.fj
 cR:codeHdIn K t.fj t.aI=true
 kE:t.aI∈t.ts
 np:[t.aO,t.aI].Nodup
 ta:∀b∈t.ts,b=t.aO\/b=t.aI
 bl:∀(s:Shared)(u:Value),BindsTo s t.HP {[u],[]} [("_law_script",u)]
section
variable{w:World}{K:Frag}{mg:Str->Option Value}{t:eZ}(T:Txt w K mg t)
def Txt.jz:=T.fn 17<|by decide
def Txt.gZ:=T.fn 18<|by decide
def Txt.nK:=T.fn 19<|by decide
def Txt.p8:=T.fn 20<|by decide
def Txt.nL:=T.fn 21<|by decide
def Txt.vE:=T.fn 22<|by decide
def Txt.vF:=T.fn 23<|by decide
def Txt.mr:=T.fn 24<|by decide
def Txt.compared:=T.fn 25<|by decide
def Txt.dr:=T.fn 26<|by decide
def Txt.gG:=T.fn 29<|by decide
def Txt.nM:=T.fn 30<|by decide
def Txt.mw:=T.fn 31<|by decide
def Txt.iz:=T.fn 32<|by decide
def Txt.j8:=T.fn 33<|by decide
def Txt.lF:=T.fn 34<|by decide
def Txt.b9:=T.fn 35<|by decide
def Txt.vG:=T.fn 40<|by decide
def Txt.BJ:=T.fn 41<|by decide
def Txt.jA:=T.fn 42<|by decide
def Txt.vH:=T.fn 43<|by decide
def Txt.jB:=T.fn 44<|by decide
def Txt.fc:=T.fn 45<|by decide
def Txt.rh:=T.fn 46<|by decide
def Txt.gp:=T.fn 52<|by decide
def Txt.nN:=T.fn 53<|by decide
def Txt.dN:=T.fn 54<|by decide
def Txt.jC:=T.fn 55<|by decide
def Txt.gH:=T.fn 56<|by decide
def Txt.passes:=T.fn 57<|by decide
def Txt.iA:=T.fn 58<|by decide
def Txt.fP:=T.fn 60<|by decide
def Txt.iB:=T.fn 61<|by decide
def Txt.rj:=T.fn 62<|by decide
def Txt.fQ:=T.fn 64<|by decide
def Txt.nO:=T.fn 68<|by decide
def Txt.iC:=T.fn 70<|by decide
def Txt.iD:=T.fn 71<|by decide
def Txt.jD:=T.fn 72<|by decide
def Txt.vI:=T.fn 73<|by decide
def Txt.jE:=T.fn 74<|by decide
def Txt.gq:=T.fn 81<|by decide
def Txt.g8:=T.fn 83<|by decide
def Txt.j9:=T.fn 84<|by decide
def Txt.nQ:=T.fn 85<|by decide
def Txt.vJ:=T.fn 86<|by decide
def Txt.HX:=T.fn 87<|by decide
def Txt.rm:=T.fn 88<|by decide
def Txt.vK:=T.fn 89<|by decide
def Txt.BK:=T.fn 90<|by decide
def Txt.vL:=T.fn 91<|by decide
def Txt.vM:=T.fn 92<|by decide
def Txt.vN:=T.fn 93<|by decide
def Txt.p_:=T.fn 94<|by decide
def Txt.vO:=T.fn 95<|by decide
def Txt.dO:=T.fn 96<|by decide
def Txt.HY:=T.fn 97<|by decide
def Txt.eP:=T.gE 0<|by decide
def Txt.vP:=T.gE 1<|by decide
def Txt.iE:=T.gE 5<|by decide
def Txt.gI:=T.gE 7<|by decide
def Txt.iF:=T.gE 8<|by decide
def Txt.eR:=T.gE 9<|by decide
def Txt.iG:=T.gE 10<|by decide
def Txt.dk:=T.gE 12<|by decide
def Txt.b_:=T.gE 13<|by decide
def Txt.dP:=T.gE 14<|by decide
def Txt.fR:=T.eN 0<|by decide
def Txt.fE:=T.eN 1<|by decide
def Txt.cL:=T.eN 2<|by decide
def Txt.eE:=T.eN 3<|by decide
def Txt.bV:=T.eN 4<|by decide
def Txt.bE:=T.eN 5<|by decide
def Txt.bW:=T.eN 6<|by decide
def Txt.aJ:=T.eN 7<|by decide
def Txt.fF:=T.eN 8<|by decide
def Txt.bX:=T.eN 13<|by decide
end
def xT:=bQ<|top 17
def vQ:=bQ<|top 18
def vR:=bQ<|top 19
def BL:=bQ<|top 20
def E8:=bQ<|top 21
def BM:=bQ<|top 22
def BN:=bQ<|top 23
def xU:=bQ<|top 24
def oF:=bQ<|top 25
def dY:=bQ<|top 26
def nR:=bQ<|top 29
def vS:=bQ<|top 30
def xV:=bQ<|top 31
def tj:=bQ<|top 32
def vT:=bQ<|top 33
def tm:=bQ<|top 34
def xW:=bQ<|top 35
def E9:=bQ<|top 40
def E_:=bQ<|top 41
def fS:=bQ<|top 42
def BO:=bQ<|top 43
def oG:=bQ<|top 44
def bp:=bQ<|top 45
def oH:=bQ<|top 46
def bq:=bQ<|top 52
def vU:=bQ<|top 53
def mx:=bQ<|top 54
def jF:=bQ<|top 55
def eF:=bQ<|top 56
def ux:=bQ<|top 57
def pG:=bQ<|top 58
def my:=bQ<|top 60
def iX:=bQ<|top 61
def gs:=bQ<|top 62
def mz:=bQ<|top 63
def cn:=bQ<|top 64
def kF:=bQ<|top 65
def vV:=bQ<|top 68
def pH:=bQ<|top 70
def tq:=bQ<|top 71
def bP:=bQ<|top 72
def rn:=bQ<|top 73
def jG:=bQ<|top 74
def jH:=bQ<|top 81
def vW:=bQ<|top 83
def cF:=bQ<|top 84
def cM:=bQ<|top 85
def rq:=bQ<|top 86
def xX:=bQ<|top 87
def xY:=bQ<|top 88
def eG:=bQ<|top 89
def g9:=bQ<|top 90
def Fc:=bQ<|top 91
def Fd:=bQ<|top 92
def cG:=bQ<|top 93
def rA:=bQ<|top 94
def j_:=bQ<|top 95
def aM:=bQ<|top 96
def jI:=bQ<|top 97
def du:=bQ<|top 98
def nS:=bQ<|inClass fb 0
def BP:=bQ<|inClass fb 1
def kP:=bQ<|inClass fb 5
def nU:=bQ<|inClass fb 7
def pI:=bQ<|inClass fb 8
def rB:=bQ<|inClass fb 9
def fe:=bQ<|inClass fb 10
def lG:=bQ<|inClass fb 12
def lH:=bQ<|inClass fb 13
def eT:=bQ<|inClass fb 14
def mB:=bQ<|inClass a_ 0
def vX:=bQ<|inClass a_ 1
def pJ:=bQ<|inClass a_ 2
def tw:=bQ<|inClass a_ 3
def i_:=bQ<|inClass a_ 4
def g_:=bQ<|inClass a_ 5
def dZ:=bQ<|inClass a_ 6
def jJ:=bQ<|inClass a_ 7
def vY:=bQ<|inClass a_ 8
def fT:=bQ<|inClass a_ 9
def fg:=bQ<|inClass a_ 10
def ja:=bQ<|inClass a_ 13
theorem sm(h:n<=1000):n<=sizeLine:=yM<|jZ h
theorem rC:0<=sizeLine:=sm<|by decide
theorem gJ:1<=sizeLine:=sm<|by decide
theorem fz:2<=sizeLine:=sm<|by decide
theorem mD:3<=sizeLine:=sm<|by decide
theorem Z2:4<=sizeLine:=sm<|by decide
theorem Z3:5<=sizeLine:=sm<|by decide
theorem Z4:7<=sizeLine:=sm<|by decide
theorem Fe:8<=sizeLine:=sm<|by decide
theorem Z5:9<=sizeLine:=sm<|by decide
theorem Vy:10<=sizeLine:=sm<|by decide
theorem Np:12<=sizeLine:=sm<|by decide
def Gt(S:aw)(d:D):Prop:=(∃k,Pq S d k)/\∀z,d=.str z->z.cps.size<=1000
noncomputable def isLet(c:Nat):Bool:=decide (97<=c)&&decide (c<=122)
noncomputable def Dj(c:Nat):Bool:=decide (48<=c)&&decide (c<=57)
noncomputable def Dk(c:Nat):Bool:=decide (32<=c)&&decide (c<=126)
noncomputable def jK(z:Str):Bool:=decide (1<=z.cps.size)&&decide (z.cps.size<=8)&&z.cps.toList.all isLet
noncomputable def iH(z:Str):Bool:=decide (1<=z.cps.size)&&decide (z.cps.size<=12)&&(z.cps.toList.head?.any isLet)&&z.cps.toList.all λc=>isLet c||Dj c
noncomputable def oI(z:Str):Bool:=decide (z.cps.size<=40)&&z.cps.toList.all Dk
noncomputable def ofStr(f:Str->Bool):D->Bool|.str z=>f z|_=>false
noncomputable def rD:D->Bool|.int _=>true|_=>false
noncomputable def hG(kind:Str)(d:D):Bool:=ah d||if kind ="number" then rD d else ofStr oI d
def xZ(f:D->Bool):jm:=λds S R _=>∃d,ds=[d]/\Gt S d/\R (.bl<|f d) S
def HZ(f:Nat->Bool):jm:=λds S R _=>∃c,ds=[.str ⟨#[c]⟩]/\R (.bl<|f c) S
theorem oJ:∀{xs ys:List D}{a b:D},Paired rel xs ys->rel a b->Paired rel (xs++[a]) (ys++[b])|_,_,_,_,.nil,r=>.cons r .nil|_,_,_,_,.cons q t,r=>.cons q<|oJ t r
theorem take_snoc{α:Type}{l:List α}{i:Nat}{d:α}(h:l[i]?=some d):l.take (i+1)=l.take i++[d]:=by rw[List.take_add_one,h];rfl
theorem rE{I:vg}{S1:aw}{g:Av}{te:TD}{σ:SD}{src:List<|Option Nat}{R:KD}(rel:D->D->Prop)(aG:I.ok S1)(hz:I.xs.length<=1000) (step:∀d,d∈I.xs->∀Q:KD,(∀v,rel d v->Q v S1)->g d (oA σ src) S1 λi7 S3=>te i7 S3 Q Zf) (fin:∀out,Paired rel I.xs out->∀p,S1 p=none->R (.ref p) (S1.set p<|.lst out)): CW σ src g uk te R I S1:=by
 refine{λi out S=>S=S1/\Paired rel (I.xs.take i) out,{rfl,.nil},λi out S h=>by rw[h.1];exact aG,?_,?_};rintro i d out S hd ⟨rfl,hp⟩;have hlen:=Paired.length hp;rw[yh]at hlen;refine{jZ<|by lia,?_};have e:(λ(i7:SD)(S3:aw)=>uk i7 S3 (λb S4=>if b=true then te i7 S4 (λv S5=>S5=S/\Paired rel (I.xs.take<|i+1) (out++[v])) Zf else S4=S/\Paired rel (I.xs.take<|i+1) out) Zf)=λi7 S3=>te i7 S3 (λv S5=>S5=S/\Paired rel (I.xs.take<|i+1) (out++[v])) Zf:=by funext i7 S3;simp[uk]
 rw[e];exact step d (zI hd) _ λv hv=>{rfl,by rw[take_snoc hd];exact oJ hp hv};rintro out S2 ⟨rfl,hp⟩;rw[List.take_length]at hp;exact fin out hp
theorem rF:∀{xs out:List D},Paired (λd v=>v=f d) xs out->out=xs.map f|_,_,.nil=>rfl|_,_,.cons r t=>by rw[r,rF t];rfl
theorem comp_map(f:D->D)(aG:I.ok S1)(hz:I.xs.length<=1000) (step:∀d,d∈I.xs->∀Q:KD,Q (f d) S1->g d (oA σ src) S1 λi7 S3=>te i7 S3 Q Zf) (fin:∀p,S1 p=none->R (.ref p) (S1.set p<|.lst<|I.xs.map f)): CW σ src g uk te R I S1:=rE (λd v=>v=f d) aG hz (λd hd Q h=>step d hd Q<|h _ rfl) λout hp p hp'=>by rw[rF hp];exact fin p hp'
theorem ke{I:vg}{S1:aw}{g:Av}{tc:l7}{te:TD}{σ:SD}{src:List<|Option Nat}{R:KD}(keep:D->Bool)(f:D->D)(aG:I.ok S1)(hz:I.xs.length<=1000) (step:∀d,d∈I.xs->∀(Q:KD)(Q':aw->Prop),(keep d=true->Q (f d) S1)->(keep d=false->Q' S1)->g d (oA σ src) S1 λi7 S3=>tc i7 S3 (λb S4=>if b=true then te i7 S4 Q Zf else Q' S4) Zf) (fin:∀p,S1 p=none->R (.ref p) (S1.set p<|.lst<|(I.xs.filter keep).map f)): CW σ src g tc te R I S1:=by refine{λi out S=>S=S1/\out=((I.xs.take i).filter keep).map f,⟨rfl,rfl⟩,λi out S h=>by rw[h.1];exact aG,?_,?_};rintro i d out S hd ⟨rfl,rfl⟩;have hlen:((I.xs.take i).filter keep).length<=(I.xs.take i).length:=List.length_filter_le _ _;rw[yh]at hlen;refine{by rw[zc];exact jZ<|by lia,?_};refine step d (zI hd) _ (λS4=>S4=S/\_=_) (λhk=>{rfl,?_}) λhk=>{rfl,?_};rw[take_snoc hd,List.filter_append,zH,List.filter_cons,if_pos hk];rfl;rw[take_snoc hd,List.filter_append,List.filter_cons,if_neg<|by rw[hk];exact zd];simp;rintro out S2 ⟨rfl,rfl⟩;rw[List.take_length];exact fin
variable{P:Program}{w:World}{K:Frag}{mg:Str->Option Value}{base:Heap}{t:eZ}
theorem jL(T:Txt w K mg t):Ok P w base T.jz 1 (xZ rD):=by
 refine T.jz.F.cP xT ?_;obtain⟨d,e,⟨⟨k,hk⟩,hz⟩,q⟩;refine{_,(s1<|sr<|sY (cb dX T.ay au<|al 0<|ac (wI T.Nk GQ) an)<|JJ<|Ug<|cb dX T.ay au<|al 0<|ac (wI T.Qh Ku) an),?_};refine !{_,_,_,_,rfl,Kx,hk,_,rfl,?_};have:(A7 k=true/\((rD d=true/\u0 k=false)\/(rD d=false/\u0 k=true)))\/(A7 k=false/\rD d=false):=by cases d with|ao=>(cases hk;exact .inr ⟨rfl,rfl⟩)|bl b=>(cases hk;exact .inl {rfl,.inr ⟨rfl,rfl⟩})|int b=>(cases hk;exact .inl {rfl,.inl ⟨rfl,rfl⟩})|str b=>(cases hk;exact .inr ⟨rfl,rfl⟩)|tup b=>(cases hk;exact .inr ⟨rfl,rfl⟩)|ref a=>(rcases hk with⟨rfl,_⟩|⟨rfl,_⟩<;>exact .inr ⟨rfl,rfl⟩)|_=>exact hk.elim
 rcases this with⟨h1,h2⟩|⟨h1,h2⟩;rw[h1];refine cw !{_,_,_,_,rfl,GW,hk,_,rfl,?_};rcases h2 with⟨h2,h3⟩|⟨h2,h3⟩<;>(rw[h3];rw[h2]at q;exact fo q);rw[h1];rw[h2]at q;exact bY<|fo q
theorem iI(T:Txt w K mg t):Ok P w base T.gZ 1 (HZ isLet):=by refine T.gZ.F.cP vQ ?_;obtain⟨c,e,q⟩;refine{_,(s1<|sr<|cc jk jk hr.u ds (dv 0) ds),?_};refine !!⟨?_⟩;have e1:FP "a" ⟨#[c]⟩=decide (97<=c):=j0 97 c;have e2:FP ⟨#[c]⟩ "z"= decide (c<=122):=j0 c 122;unfold isLet at q;refine bB (λh=>?_) λh=>?_;rw[e1.symm.trans h,zV,<-e2]at q;exact fo q;rw[e1.symm.trans h,zW]at q;exact fo q
theorem vZ(T:Txt w K mg t):Ok P w base T.nK 1 (HZ Dj):=by refine T.nK.F.cP vR ?_;obtain⟨c,e,q⟩;refine{_,(s1<|sr<|cc jk jk hr.u ds (dv 0) ds),?_};refine !!⟨?_⟩;have e1:FP "0" ⟨#[c]⟩=decide (48<=c):=j0 48 c;have e2:FP ⟨#[c]⟩ "9"= decide (c<=57):=j0 c 57;unfold Dj at q;refine bB (λh=>?_) λh=>?_;rw[e1.symm.trans h,zV,<-e2]at q;exact fo q;rw[e1.symm.trans h,zW]at q;exact fo q
theorem Ff(h:d∈fI z):∃c,c∈z.cps.toList/\d=.str ⟨#[c]⟩:=by unfold fI at h;obtain⟨c,hc,e⟩:=zj.mp h;exact⟨c,hc,e.symm⟩
noncomputable def Dm(f:Nat->Bool):D->D|.str z=>.bl (z.cps.toList.head?.any f)|_=>.ao
theorem Fh:(fI z).map (Dm f)=(z.cps.toList.map f).map D.bl:=by unfold fI;rw[zB,zB];rfl
theorem all_map{α:Type}{l:List α}{f:α->Bool} : (l.map f).all id=l.all f:=by rw[List.all_map];rfl
theorem nV{z:Str}{f:Nat->Bool}{g:Av}{te:TD}{σ:SD}{src:List<|Option Nat}{S:aw}{R:KD}{Z:KX}{i:Nat}(hv:σ[i]?=some (some<|.str z))(hz:z.cps.size<=1000) (step:∀c,c∈z.cps.toList->∀Q:KD,Q (.bl<|f c) S->g (.str ⟨#[c]⟩) (oA σ src) S λi7 S3=>te i7 S3 Q Zf) (q:R (.bl<|z.cps.toList.all f) S): Uj Ux (MU (CY (M6<|Uc i) src g uk te) Ha) σ S (λd S'=>Fo S'<|R d) Z:=by refine{_,hv,z,rfl,?_};refine My.comp_map (I:={fI z,λ_=>True}) (Dm f) trivial (by show(fI z).length<=1000;unfold fI;rw[zc,yp];exact hz) (λd hd Q hQ=>?_) λp hp=>?_;obtain⟨c,hc,rfl⟩:=Ff hd;exact step c hc Q (by simpa [Dm]using hQ);refine{.ref p,z.cps.toList.map f,rfl,?_,S,.new hp,?_};show(S.set p<|.lst<|(fI z).map<|Dm f) p=_;rw[aa,Fh];rw[all_map];exact q
theorem nW{S:aw}{d:D}{k:Kd}(hk:Pq S d k):(∃z,d=.str z/\A8 k=true)\/(A8 k=false/\∀f,ofStr f d=false):=by cases d with|str b=>(cases hk;exact .inl ⟨b,rfl,rfl⟩)|ao=>(cases hk;exact .inr {rfl,λ_=>rfl})|bl b=>(cases hk;exact .inr {rfl,λ_=>rfl})|int b=>(cases hk;exact .inr {rfl,λ_=>rfl})|tup b=>(cases hk;exact .inr {rfl,λ_=>rfl})|ref a=>(rcases hk with⟨rfl,_⟩|⟨rfl,_⟩<;>exact .inr {rfl,λ_=>rfl})|_=>exact hk.elim
theorem nX{S:aw}{d:D}{k:Kd}(hk:Pq S d k):(∃ds,d=.tup ds/\qB k=true)\/(qB k=false/\∀ds,d≠.tup ds):=by cases d with|tup b=>(cases hk;exact .inl ⟨b,rfl,rfl⟩)|ao=>(cases hk;exact .inr {rfl,λ_=>nofun})|bl b=>(cases hk;exact .inr {rfl,λ_=>nofun})|int b=>(cases hk;exact .inr {rfl,λ_=>nofun})|str b=>(cases hk;exact .inr {rfl,λ_=>nofun})|ref a=>(rcases hk with⟨rfl,_⟩|⟨rfl,_⟩<;>exact .inr {rfl,λ_=>nofun})|_=>exact hk.elim
theorem rG(T:Txt w K mg t):Ok P w base T.p8 2 (xZ<|ofStr jK):=by
 refine T.p8.F.cP BL ?_;obtain⟨d,e,⟨⟨k,hk⟩,hz⟩,q⟩;refine{_,(sc (si (twd<|twor (dG<|tv<|cb dX T.ay au<|al 0<|ac (wI T.qZ k_) an)<|tw1<|dG<|WE jk jk hr.u di (cb bz T.bc aQ<|al 0 an)<|dg (v:=.int 8) T.lq {_,rfl} λ_=>aP _) (s1<|sr db) s0)<|s1<|sr<|cb l9 T.mn ij<|ac (Ax (N:=["sign"]) (src:=[none]) (oy (ae EZ) ["thing"] rfl rfl<|by trivial) (PH<|dv 0) (ur<|show(["sign"]:List Str).Nodup by trivial) (aY rfl) aZ (λ_ _ _ _ _=>wK) λ_ _ _ _ _=>(bC T.gZ (iI T) hr<|al 0 an)) an),?_};refine !{_,_,_,_,rfl,ik,hk,_,rfl,?_};rcases nW hk with⟨z,rfl,h0⟩|⟨h0,h1⟩;have hz:=hz z rfl;rw[h0];refine bY ?_;refine !!⟨{sm hz,?_}⟩;refine{_,rfl,?_};have e1:decide ((1:Int)<=(z.length:Nat))=decide (1<=z.cps.size):=by rw[yE];show(1:Int)<=((z.cps.size:Nat):Int)↔_;omega
 have e2:decide (((z.length:Nat):Int)<=8)=decide (z.cps.size<=8):=by rw[yE];show((z.cps.size:Nat):Int)<=8↔_;omega
 unfold ofStr jK at q;dsimp only at q;refine bB (λh2=>?_) λh2=>?_;rw[e1.symm.trans h2,zV]at q;refine{_,rfl,?_};refine bB (λh3=>?_) λh3=>?_;rw[e2.symm.trans<|nt h3,zW]at q;exact fo q;rw[e2.symm.trans<|nf h3,zV]at q;exact nV rfl hz (λc hc Q hQ=>!⟨c,rfl,hQ⟩) q;rw[e1.symm.trans h2,zW,zW]at q;refine{_,rfl,?_};exact cw<|fo q;rw[h0];rw[h1]at q;exact cw<|cw<|fo q
def aD(c:Str×Str):D:=.tup [.str c.1,.str c.2]
def Gd(cs:List<|Str×Str):Prop:=cs.length<=8/\(cs.map Prod.fst).Nodup/\∀c∈cs,jK c.1=true/\(c.2 ="number"\/c.2 ="word")
noncomputable def mE(cs:List<|Str×Str):D->Bool|.tup ws=>decide (ws.length=cs.length)&&(List.zipWith (λc v=>hG c.2 v) cs ws).all id|_=>false
noncomputable def nY(cs:List<|Str×Str)(k v:D):Bool:=ofStr iH k&&mE cs v
def R1(S:aw)(d:D):Prop:=Gt S d/\∀ws,d=.tup ws->ws.length<=1000/\∀v∈ws,Gt S v
theorem kf(T:Txt w K mg t):Ok P w base T.nL 2 (xZ<|ofStr iH):=by
 refine T.nL.F.cP E8 ?_;obtain⟨d,e,⟨⟨k,hk⟩,hz⟩,q⟩;refine{_,(sc (si (twd<|twor (dG<|tv<|cb dX T.ay au<|al 0<|ac (wI T.qZ k_) an)<|tw1<|dG<|WE jk jk hr.u di (cb bz T.bc aQ<|al 0 an)<|dg (v:=.int 12) T.mm {_,rfl} λ_=>aP _) (s1<|sr db) s0)<|sc (si (dG<|tv<|bC T.gZ (iI T) hr<|ac (ix hr.u (dv 0) di) an) (s1<|sr db) s0)<|s1<|sr<|cb l9 T.mn ij<|ac (Ax (N:=["sign"]) (src:=[none]) (oy (ae HM) ["thing"] rfl rfl<|by trivial) (PH<|dv 0) (ur<|show(["sign"]:List Str).Nodup by trivial) (aY rfl) aZ (λ_ _ _ _ _=>wK) λ_ _ _ _ _=>(eor (bC T.gZ (iI T) hr<|al 0 an)<|JJ<|bC T.nK (vZ T) hr<|al 0 an)) an),?_};refine !{_,_,_,_,rfl,ik,hk,_,rfl,?_};rcases nW hk with⟨z,rfl,h0⟩|⟨h0,h1⟩;have hz:=hz z rfl;rw[h0];refine bY ?_;refine !!⟨{sm hz,?_}⟩;refine{_,rfl,?_};have e1:decide ((1:Int)<=(z.length:Nat))=decide (1<=z.cps.size):=by rw[yE];show(1:Int)<=((z.cps.size:Nat):Int)↔_;omega
 have e2:decide (((z.length:Nat):Int)<=12)=decide (z.cps.size<=12):=by rw[yE];show((z.cps.size:Nat):Int)<=12↔_;omega
 unfold ofStr iH at q;dsimp only at q;refine bB (λh2=>?_) λh2=>?_;have YD:=e1.symm.trans h2;rw[YD,zV]at q;refine{_,rfl,?_};refine bB (λh3=>?_) λh3=>?_;rw[e2.symm.trans<|nt h3,zW,zW]at q;exact fo q;rw[e2.symm.trans<|nf h3,zV]at q;obtain⟨c,r,ec⟩:=len_pos (z:=z)<|zi YD;have eh:z.cps.toList.head?.any isLet=isLet c:=by rw[ec];rfl
 rw[eh]at q;refine !{c,sm hz,w6 ec,c,rfl,_,rfl,?_};refine bB (λh4=>?_) λh4=>?_;rw[nt h4,zW]at q;exact fo q;rw[nf h4,zV]at q;refine nV (f:=λc=>isLet c||Dj c) rfl hz (λc hc Q hQ=>?_) q;refine !{c,rfl,_,rfl,?_};refine bB (λh5=>?_) λh5=>?_;rw[h5,Bool.true_or]at hQ;exact hQ;rw[h5,yP]at hQ;exact{_,rfl,c,rfl,hQ};rw[e1.symm.trans h2,zW,zW,zW]at q;refine{_,rfl,?_};exact cw<|fo q;rw[h0];rw[h1]at q;exact cw<|cw<|fo q
theorem BQ(T:Txt w K mg t):Ok P w base T.vE 2 (xZ<|ofStr oI):=by
 refine T.vE.F.cP BM ?_;obtain⟨d,e,⟨⟨k,hk⟩,hz⟩,q⟩;refine{_,(sc (si (twd<|twor (dG<|tv<|cb dX T.ay au<|al 0<|ac (wI T.qZ k_) an)<|tw1<|bL sZ hr.u (cb bz T.bc aQ<|al 0 an)<|dg (v:=.int 40) T.lA {_,rfl} λ_=>aP _) (s1<|sr db) s0)<|s1<|sr<|cb l9 T.mn ij<|ac (Ax (N:=["sign"]) (src:=[none]) (oy (ae E1) ["thing"] rfl rfl<|by trivial) (PH<|dv 0) (ur<|show(["sign"]:List Str).Nodup by trivial) (aY rfl) aZ (λ_ _ _ _ _=>wK) λ_ _ _ _ _=>(cc jk jk hr.u ds (dv 0) ds)) an),?_};refine !{_,_,_,_,rfl,ik,hk,_,rfl,?_};rcases nW hk with⟨z,rfl,h0⟩|⟨h0,h1⟩;have hz:=hz z rfl;rw[h0];refine bY ?_;refine !!⟨{sm hz,?_}⟩;refine{_,rfl,?_};have e2:decide ((40:Int)<((z.length:Nat):Int))=!decide (z.cps.size<=40):=by rw[yB];simp only[decide_eq_true_iff,Bool.not_eq_true',decide_eq_false_iff_not];show(40:Int)<((z.cps.size:Nat):Int)↔_;omega
 unfold ofStr oI at q;dsimp only at q;refine bB (λh3=>?_) λh3=>?_;rw[nt<|e2.symm.trans h3,zW]at q;exact fo q;rw[nf<|e2.symm.trans h3,zV]at q;refine nV (f:=Dk) rfl hz (λc hc Q hQ=>?_) q;refine !!⟨?_⟩;have e3:FP " " ⟨#[c]⟩=decide (32<=c):=j0 32 c;have e4:FP ⟨#[c]⟩ "~"= decide (c<=126):=j0 c 126;unfold Dk at hQ;refine bB (λh=>?_) λh=>?_;rw[e3.symm.trans h,zV,<-e4]at hQ;exact hQ;rw[e3.symm.trans h,zW]at hQ;exact hQ;rw[h0];rw[h1]at q;exact cw<|cw<|fo q
inductive rH (ds:List D) (S:aw) (R:KD) (Z:KX):Prop where
 |mk (kind d) (h0:ds=[.str kind,d]) (h1:Gt S d) (h2:R (.bl<|hG kind d) S)
theorem oK(T:Txt w K mg t):Ok P w base T.mr 3 rH:=by refine T.mr.F.cP xU ?_;obtain⟨kind,d,e,hd,q⟩;refine{_,(sc (si (bL nv hr.u (dv 1) dn) (s1<|sr db) s0)<|sc (si (bL bG hr.u (dv 0) ds) (s1<|sr<|bC T.jz (jL T) hr<|al 1 an) s0)<|s1<|sr<|bC T.vE (BQ T) hr<|al 1 an),?_};refine !!⟨?_⟩;unfold hG at q;refine bB (λh=>?_) λh=>?_;rw[h,Bool.true_or]at q;exact fo q;rw[h,yP]at q;refine !!⟨?_⟩;refine bB (λh=>?_) λh=>?_;rw[if_pos<|zi h]at q;exact !{d,rfl,hd,fo q};rw[if_neg<|zM h]at q;exact !{d,rfl,hd,fo q}
theorem gt_str(h:z.cps.size<=1000):Gt S (.str z):={{.str,rfl},λy e=>by cases e;exact h}
theorem uy(h:jK z=true):z.cps.size<=1000:=by unfold jK at h;simp only[zQ,yr]at h;lia
theorem Fi(h:∀c v,f (.tup [aD c,v])=.bl (hG c.2 v)):(iu (cs.map aD) ws).map f=(List.zipWith (λc v=>hG c.2 v) cs ws).map D.bl:=by unfold iu;induction cs generalizing ws with|nil=>(cases ws<;>rfl)|cons c cs ih=>cases ws with|nil=>rfl|cons v ws=>show f (.tup [aD c,v])::(List.zipWith _ (cs.map aD) ws).map f=.bl (hG c.2 v)::_;rw[h,ih]
noncomputable def pairF:D->D|.tup [.tup [_,.str k],v]=>.bl (hG k v)|_=>.ao
inductive uz (ds:List D) (S:aw) (R:KD) (Z:KX):Prop where
 |mk (z) (h0:ds=[.str z]) (h1:(z ="number"\/z ="word")) (h2:R (.bl true) S)
theorem BR(T:Txt w K mg t):Ok P w base T.vF 1 uz:=by
 refine T.vF.F.cP BN ?_;obtain⟨z,e,hz,q⟩;refine{_,(s1<|sr<|sY (cb dX T.ay au<|al 0<|ac (wI T.qZ k_) an)<|JJ<|cm xq hr.u (dv 0)<|dg (v:=.ref t.vn) T.HR rfl T.HS),?_};refine !{_,_,_,_,rfl,ik,rfl,_,rfl,cw !{rfl,rfl,?_}};have e:Ar (kz<|.str z) ([D.str "number",D.str "word"].map kz)=true:=by rcases hz with rfl|rfl<;>decide +kernel
 show Fo S (R<|.bl<|if false=true then _ else Ar (kz<|.str z) ([D.str "number",D.str "word"].map kz));rw[if_neg zd,e];exact fo q
inductive oM (ds:List D) (S:aw) (R:KD) (Z:KX):Prop where
 |mk (c) (h0:ds=[aD c]) (h1:jK c.1=true) (h2:(c.2 ="number"\/c.2 ="word")) (h3:R (.bl true) S)
theorem v5(T:Txt w K mg t):Ok P w base T.nM 3 oM:=by refine T.nM.F.cP vS ?_;obtain⟨c,e,h1,h2,q⟩;refine{_,(sc (si (twd<|twor (dG<|tv<|cb dX T.ay au<|al 0<|ac (wI T.cJ bN) an)<|tw1<|bL px hr.u (cb bz T.bc aQ<|al 0 an) di) (s1<|sr db) s0)<|s1<|sr<|sY (bC T.p8 (rG T) hr<|ac (ix hr.u (dv 0) di) an)<|JJ<|bC T.vF (BR T) hr<|ac (ix hr.u (dv 0) di) an),?_};refine !{_,_,_,_,rfl,cI,rfl,_,rfl,?_};refine bY !!!⟨bY ?_⟩;refine !!!{gt_str<|uy h1,_,rfl,?_};show if jK c.1=true then _ else _;rw[h1];exact cw !!!{h2,fo q}
inductive rJ (ds:List D) (S:aw) (R:KD) (Z:KX):Prop where
 |mk (cs:List<|Str×Str) (h0:ds=[.tup<|cs.map aD]) (h1:cs.length<=8) (h2:∀p,S p=none->R (.ref p) (S.set p<|.lst<|(cs.map Prod.fst).map D.str))
theorem oN(T:Txt w K mg t):Ok P w base T.mw 1 rJ:=by
 refine T.mw.F.cP xV ?_;obtain⟨cs,e,hl,q⟩;refine{_,(s1<|sr<|Ax (N:=["name","kind"]) (src:=[none,none]) (oy (ae BE) ["columns"] rfl rfl<|by trivial) (Lb<|dv 0) (cg2<|show(["name","kind"]:List Str).Nodup by trivial) (CM rfl rfl) C4 (λ_ _ _ _ _=>wK) λ_ _ _ _ _=>(dv 0)),?_};refine !{_,.inl rfl,?_};refine comp_map (λd=>match d with|.tup (x::_)=>x|_=>.ao) trivial (by show(cs.map aD).length<=1000;rw[zc];lia) (λd hd Q hQ=>?_) λp hp=>?_;obtain⟨c,hc,rfl⟩:=zj.mp hd;exact !{rfl,_,_,rfl,_,_,rfl,rfl,_,rfl,hQ};have e:(cs.map aD).map (λd=>match d with|.tup (x::_)=>x|_=>.ao)=(cs.map Prod.fst).map D.str:=by rw[zB,zB];rfl
 show Fo (S.set p<|.lst<|(cs.map aD).map _) (R<|.ref p);rw[e];exact fo<|q p hp
inductive iY (ds:List D) (S:aw) (R:KD) (Z:KX):Prop where
 |mk (cs) (h0:ds=[.tup<|cs.map aD]) (h1:Gd cs) (h2:R .ao S)
theorem nZ(T:Txt w K mg t):Ok P w base T.gG 4 iY:=by
 refine T.gG.F.cP nR ?_;obtain⟨cs,e,⟨hl,hn,hg⟩,q⟩;refine{_,(sc (si (twd<|twor (dG<|tv<|cb dX T.ay au<|al 0<|ac (wI T.cJ bN) an)<|tw1<|bL sZ hr.u (cb bz T.bc aQ<|al 0 an)<|dg (v:=.int 8) T.pF {_,rfl} λ_=>aP _) (s1<|wJ ⟨T.dJ⟩ T.gF<|ac ds an) s0)<|sc (si (dG<|tv<|cb l9 T.mn ij<|ac (Ax (N:=["column"]) (src:=[none]) (oy (ae pE) ["columns"] rfl rfl<|by trivial) (Lb<|dv 0) (ur<|show(["column"]:List Str).Nodup by trivial) (aY rfl) aZ (λ_ _ _ _ _=>wK) λ_ _ _ _ _=>(bC T.nM (v5 T) hr<|al 0 an)) an) (s1<|wJ ⟨T.dJ⟩ T.gF<|ac ds an) s0)<|s1<|si (bL px hr.u (lse (bC T.mw (oN T) hr<|al 0 an) T.bc T.Nl)<|cb bz T.bc aQ<|al 0 an) (s1<|wJ ⟨T.dJ⟩ T.gF<|ac ds an) s0),?_};refine !{_,_,_,_,rfl,cI,rfl,_,rfl,?_};have e1:decide ((8:Int)<((cs.map aD).length:Nat))=false:=zq (by rw[zc];lia);refine bY !!!⟨?_⟩;show if decide ((8:Int)<((cs.map aD).length:Nat))=true then _ else _;rw[e1];refine bY ?_;refine !{_,.inl rfl,?_};refine comp_map (λ_=>.bl true) trivial (by show(cs.map aD).length<=1000;rw[zc];lia) (λd hd Q hQ=>?_) λp hp=>?_;obtain⟨c,hc,rfl⟩:=zj.mp hd;exact !{c,rfl,(hg c hc).1,(hg c hc).2,hQ};have e2:(cs.map aD).map (λ_=>D.bl true)=(cs.map λ_=>true).map D.bl:=by rw[zB,zB];rfl
 have e3:(cs.map λ_=>true).all id=true:=by rw[all_map];exact ye.mpr λ_ _=>rfl
 refine{.ref p,cs.map λ_=>true,rfl,?_,_,rfl,?_};show(S.set p<|.lst<|(cs.map aD).map _) p=_;rw[aa,e2];rw[e3];refine bY ?_;refine !{cs,rfl,hl,λp2 lP=>?_};refine{cs.map Prod.fst,aa,by rw[zc];lia,_,rfl,_,rfl,_,rfl,?_};have e4:decide ((((iS<|cs.map Prod.fst).length:Nat):Int)=(((cs.map aD).length:Nat):Int))=true:=zx (by rw[(ue _).mpr hn,zc,zc]);show if (if true=true then !decide ((((iS<|cs.map Prod.fst).length:Nat):Int)=(((cs.map aD).length:Nat):Int)) else _)=true then _ else _;rw[if_pos rfl,e4];exact bY {S,(Sub.new hp).trans<|.new lP,q}
inductive mF (ds:List D) (S:aw) (R:KD) (Z:KX):Prop where
 |mk (cs d) (h0:ds=[.tup<|cs.map aD,d]) (h1:cs.length<=8) (h2:R1 S d) (h3:R (.bl<|mE cs d) S)
theorem tD(T:Txt w K mg t):Ok P w base T.lF 4 mF:=by
 refine T.lF.F.cP tm ?_;obtain⟨cs,d,e,hl,⟨⟨⟨k,hk⟩,hz⟩,hw⟩,q⟩;refine{_,(sc (si (twd<|twor (dG<|tv<|cb dX T.ay au<|al 1<|ac (wI T.cJ bN) an)<|tw1<|bL px hr.u (cb bz T.bc aQ<|al 1 an)<|cb bz T.bc aQ<|al 0 an) (s1<|sr db) s0)<|s1<|sr<|cb l9 T.mn ij<|ac (Ax (N:=["column","value"]) (src:=[none,none]) (oy (ae vm) ["columns","thing"] rfl rfl<|by trivial) (izn T.Nm<|al 0<|al 1 an) (cg2<|show(["column","value"]:List Str).Nodup by trivial) (CM rfl rfl) C4 (λ_ _ _ _ _=>wK) λ_ _ _ _ _=>(bC T.mr (oK T) hr<|ac (ix hr.u (dv 0) di)<|al 1 an)) an),?_};refine !{_,_,_,_,rfl,cI,hk,_,rfl,?_};rcases nX hk with⟨ws,rfl,h0⟩|⟨h0,h1⟩;obtain⟨hw1,UI⟩:=hw ws rfl;rw[h0];refine bY !!!!!⟨?_⟩;have e1:decide (((ws.length:Nat):Int)=(((cs.map aD).length:Nat):Int))=decide (ws.length=cs.length):=by rw[yE,zc];lia
 unfold mE at q;dsimp only at q;show if (if true=true then !decide (((ws.length:Nat):Int)=(((cs.map aD).length:Nat):Int)) else _)=true then _ else _;rw[if_pos rfl,e1];refine bB (λh=>?_) λh=>?_;rw[nt h,zW]at q;exact fo q;have h:=nf h;rw[h,zV]at q;have h:=zi h;refine !!{cs.map aD,ws,rfl,by rw[zc];exact h.symm,?_};refine comp_map pairF trivial (by show(iu (cs.map aD) ws).length<=1000;unfold iu;rw[List.length_zipWith,zc];lia) (λd hd Q hQ=>?_) λp hp=>?_;unfold iu at hd;obtain⟨i,ei⟩:=List.getElem?_of_mem hd;obtain⟨x,y,e2,e3,e4⟩:=List.getElem?_zipWith_eq_some.mp ei;subst e4;rw[zr]at e2;cases e5:cs[i]? with|none=>(rw[e5]at e2;cases e2)|some c=>rw[e5]at e2;cases e2;exact !{rfl,_,_,rfl,_,_,rfl,rfl,_,rfl,_,rfl,_,rfl,c.2,y,rfl,UI y<|zI e3,hQ}
 refine{.ref p,List.zipWith (λc v=>hG c.2 v) cs ws,rfl,?_,S,.new hp,q};show(S.set p<|.lst<|(iu (cs.map aD) ws).map pairF) p=_;rw[aa,Fi λ_ _=>rfl];rw[h0];have e:mE cs d=false:=by cases d with|tup ws=>exact absurd rfl (h1 ws)|_=>rfl
 rw[e]at q;exact cw<|cw<|fo q
inductive oO (t:eZ) (ds:List D) (S:aw) (R:KD) (Z:KX):Prop where
 |mk (cs k v) (h0:ds=[.tup<|cs.map aD,.tup [k,v]]) (h1:cs.length<=8) (h2:Gt S k) (h3:R1 S v) (h4:(nY cs k v=true->R .ao S)) (h5:(nY cs k v=false->Z t.gU S))
theorem mG(T:Txt w K mg t):Ok P w base T.j8 5 (oO t):=by refine T.j8.F.cP vT ?_;obtain⟨cs,k,v,e,hl,hk,hv,q1,q2⟩;refine{_,(sc (si (twd<|twor (dG<|tv<|cb dX T.ay au<|al 1<|ac (wI T.cJ bN) an)<|tw1<|bL px hr.u (cb bz T.bc aQ<|al 1 an) di) (s1<|wJ ⟨T.gY⟩ T.j6<|ac ds an) s0)<|sc (si (dG<|tv<|bC T.nL (kf T) hr<|ac (ix hr.u (dv 1) di) an) (s1<|wJ ⟨T.gY⟩ T.j6<|ac ds an) s0)<|s1<|si (dG<|tv<|bC T.lF (tD T) hr<|al 0<|ac (ix hr.u (dv 1) di) an) (s1<|wJ ⟨T.gY⟩ T.j6<|ac ds an) s0),?_};refine !{_,_,_,_,rfl,cI,rfl,_,rfl,?_};refine bY !!!⟨bY ?_⟩;refine !!{k,rfl,hk,_,rfl,?_};unfold nY at q1 q2;refine bB (λh=>?_) λh=>?_;rw[nt h,zW]at q2;exact{sm<|by decide,fo<|q2 rfl};rw[nf h,zV]at q1 q2;refine !!!{cs,v,rfl,hl,hv,_,rfl,?_};refine bB (λh=>?_) λh=>?_;exact{sm<|by decide,fo<|q2<|nt h};exact fo<|q1<|nf h
theorem bg(h:n<=100000):n<sizeLine:=by rw[zY];lia
structure Std where
 b:Nat
 e:Option Nat
 ws:List D
def eD:Option Nat->D|none=>.ao|some n=>.int (n:Nat)
def jM(s:Std):D:=.tup [.int (s.b:Nat),eD s.e,.tup s.ws]
noncomputable def H9:List Std->Int->D|[],_=>.ao|s::r,m=>if (s.b:Int)<=m then (match s.e with|none=>.tup s.ws|some n=>if m<=(n:Int) then .tup s.ws else .ao) else H9 r m
noncomputable def wt(l:List Std)(m:Int):D:=H9 l.reverse m
abbrev Ra:=List<|Str×Addr×List Std
abbrev kQ:=List<|Str×List Std
def hU(ra:Ra):kQ:=ra.map λr=>(r.1,r.2.2)
def dQ(ra:Ra):List (Key×D):=ra.map λr=>(Sum.inr r.1,D.ref r.2.1)
noncomputable def lu(rs:kQ)(k:Str):Option (List Std):=(rs.find? λr=>decide<|r.1=k).map (·.2)
noncomputable def sH(ra:Ra)(k:Str):Option (Addr×List Std):=(ra.find? λr=>decide<|r.1=k).map (·.2)
noncomputable def sI(ra:Ra)(k:Str)(s:List Std):Ra:=ra.map λr=>if r.1=k then (r.1,r.2.1,s) else r
noncomputable def BS(rs:kQ)(k:Str)(s:List Std):kQ:=if (lu rs k).isSome then rs.map λr=>if r.1=k then (r.1,s) else r else rs++[(k,s)]
theorem gL(ra:Ra)(k:Str):lu (hU ra) k=(sH ra k).map (·.2):=by unfold lu sH hU;induction ra with|nil=>rfl|cons r ra ih=>rw[zJ,z0,z0];by_cases h:r.1=k;rw[zx h];rfl;rw[zq h];exact ih
theorem hW(ra:Ra)(k:Str):bS (dQ ra) (.inr k)=(sH ra k).map λp=>D.ref p.1:=by unfold bS sH dQ;induction ra with|nil=>rfl|cons r ra ih=>rw[zJ,z0,z0];by_cases h:r.1=k;rw[zx h];have:decide ((Sum.inr r.1:Key)=.inr k)=true:=zx (by rw[h]);dsimp only;rw[this];rfl;rw[zq h];have:decide ((Sum.inr r.1:Key)=.inr k)=false:=zq λe=>h<|yL e;dsimp only;rw[this];exact ih
theorem dm(h:sH ra k=some (l,s)):(k,l,s)∈ra:=by unfold sH at h;cases q:ra.find? λr=>decide (r.1=k) with|none=>(rw[q]at h;cases h)|some r=>rw[q]at h;have h1:=List.find?_some q;have h2:=List.mem_of_find?_eq_some q;obtain⟨k',l',s'⟩:=r;have e:k'=k:=zi h1;cases h;rw[<-e];exact h2
theorem mH(h:sH ra k=none):∀r∈ra,r.1≠k:=by unfold sH at h;intro r hr e;have:=List.find?_eq_none.mp (Option.map_eq_none_iff.mp h) r hr;simp[e]at this
theorem iJ:∀{l:List α}{x y:α},(l.map f).Nodup->x∈l->y∈l->f x=f y->x=y|z::l,x,y,nd,hx,hy,e=>by rw[zJ]at nd;obtain⟨n1,n2⟩:=yn.mp nd;rcases zf.mp hx with ex|G5;rcases zf.mp hy with ey|Tq;rw[ex,ey];exact absurd (zj.mpr {y,Tq,by rw[<-e,ex]}) n1;rcases zf.mp hy with ey|Tq;exact absurd (zj.mpr {x,G5,by rw[e,ey]}) n1;exact iJ n2 G5 Tq e
structure BU(C:Addr)(S:aw)(a ld lr:Addr)(cs:List (Str×Str))(dl:List D)(ra:Ra):Prop where
 ins:S a=some (.ins C [("columns",.tup<|cs.map aD),("deeds",.ref ld),("runs",.ref lr)])
 x5:S ld=some (.lst dl)
 run:S lr=some (.cY<|dQ ra)
 cell:∀r∈ra,S r.2.1=some (.lst<|r.2.2.map jM)
 kn:(ra.map (·.1)).Nodup
 an:(ld::ra.map (·.2.1)).Nodup
 sz:∀r∈ra,r.2.2.length<=dl.length
def fp(a ld lr:Addr)(ra:Ra):List Addr:=a::ld::lr::ra.map (·.2.1)
def bI(C:Addr)(S:aw)(a:Addr)(F:List Addr)(cs:List<|Str×Str)(dl:List D)(rs:kQ):Prop:=∃ld lr ra,BU C S a ld lr cs dl ra/\F=fp a ld lr ra/\rs=hU ra
def BV(F F':List Addr)(S S':aw):Prop:=∀b c,b∉F->S b=some c->b∉F'/\S' b=some c
theorem BV.trans(a:BV F F1 S S1)(b:BV F1 F2 S1 S2):BV F F2 S S2:=λp c h e=>by obtain⟨h1,e1⟩:=a p c h e;exact b p c h1 e1
section
variable{C a ld lr:Addr}{S:aw}{cs:List (Str×Str)}{dl:List D}{ra:Ra}
theorem BU.BW(h:BU C S a ld lr cs dl ra){l:Addr}{ds:List D}(e:S l=some (.lst ds)):l≠a/\l≠lr:=by constructor;rintro rfl;rw[h.ins]at e;cases e;rintro rfl;rw[h.run]at e;cases e
theorem BU.put(h:BU C S a ld lr cs dl ra)(hk:sH ra k=some (l,s))(hs:s'.length<=dl.length):BU C (S.set l<|.lst<|s'.map jM) a ld lr cs dl (sI ra k s'):=by
 have hm:=dm hk;have hl:=h.cell _ hm;obtain⟨n1,n2⟩:=h.BW hl;obtain⟨Z6,nd2⟩:=yn.mp h.an;have n3:l≠ld:=λe=>Z6 (by rw[<-e];exact zj.mpr {_,hm,rfl});have e1:(sI ra k s').map (·.1)=ra.map (·.1):=by unfold sI;rw[zB];exact zX λr _=>by dsimp only[Function.comp];split<;>rfl
 have e2:(sI ra k s').map (·.2.1)=ra.map (·.2.1):=by unfold sI;rw[zB];exact zX λr _=>by dsimp only[Function.comp];split<;>rfl
 have e3:dQ (sI ra k s')=dQ ra:=by unfold dQ sI;rw[zB];exact zX λr _=>by dsimp only[Function.comp];split<;>rfl
 refine{by rw[ag n1.symm];exact h.ins,by rw[ag n3.symm];exact h.x5,by rw[ag n2.symm,e3];exact h.run,λr hr=>?_,by rw[e1];exact h.kn,by rw[e2];exact h.an,λr hr=>?_};unfold sI at hr;obtain⟨r0,wL,e⟩:=zj.mp hr;by_cases q:r0.1=k;rw[if_pos q]at e;have er:r0=(k,l,s):=iJ h.kn wL hm q;subst er e;rw[aa];rw[if_neg q]at e;subst e;have:r0.2.1≠l:=λe=>q (by have:=iJ nd2 wL hm e;rw[this]);rw[ag this];exact h.cell _ wL;unfold sI at hr;obtain⟨r0,wL,e⟩:=zj.mp hr;by_cases q:r0.1=k;rw[if_pos q]at e;subst e;exact hs;rw[if_neg q]at e;subst e;exact h.sz _ wL
theorem BU.add(h:BU C S a ld lr cs dl ra)(hk:sH ra k=none)(hl:S l=none)(hs:s.length<=dl.length)(e1:S' l=some (.lst<|s.map jM))(e2:S' lr=some (.cY<|dQ<|ra++[(k,l,s)]))(e3:∀b,b≠l->b≠lr->S' b=S b):BU C S' a ld lr cs dl (ra++[(k,l,s)]):=by
 have n1:a≠l:=ia h.ins hl;have n2:ld≠l:=ia h.x5 hl;have n3:a≠lr:=by rintro rfl;have:=h.run;rw[h.ins]at this;cases this
 have n4:ld≠lr:=by rintro rfl;have:=h.run;rw[h.x5]at this;cases this
 refine{by rw[e3 _ n1 n3];exact h.ins,by rw[e3 _ n2 n4];exact h.x5,e2,λr hr=>?_,?_,?_,λr hr=>?_};rcases zR.mp hr with hr|hr;have hc:=h.cell r hr;rw[e3 _ (ia hc hl) (h.BW hc).2];exact hc;rw[zu.mp hr];exact e1;rw[zH];exact lY h.kn λm=>by obtain⟨r,hr,e⟩:=zj.mp m;exact mH hk r hr e
 rw[zH,<-List.cons_append];refine lY h.an λm=>?_;rcases zf.mp m with e|m;exact n2 e.symm;obtain⟨r,hr,e⟩:=zj.mp m;exact ia (h.cell r hr) hl e;rcases zR.mp hr with hr|hr;exact h.sz r hr;rw[zu.mp hr];exact hs
theorem BU.Ql(h:BU C S a ld lr cs dl ra)(d:D):BU C (S.set ld<|.lst<|dl++[d]) a ld lr cs (dl++[d]) ra:=by obtain⟨n1,n2⟩:=h.BW h.x5;obtain⟨Z6,nd2⟩:=yn.mp h.an;refine{by rw[ag n1.symm];exact h.ins,aa,by rw[ag n2.symm];exact h.run,λr hr=>?_,h.kn,h.an,λr hr=>by rw[zA];exact zL (h.sz r hr)<|Nat.le_add_right _ _};rw[ag λe=>Z6<|by rw[<-e];exact zj.mpr ⟨r,hr,rfl⟩];exact h.cell r hr
end
def Vz(C:Addr):jm:=λds S R _=>∃a F cs dl rs,ds=[.ref a]/\bI C S a F cs dl rs/\R (.int (dl.length:Nat)) S
theorem v7(T:Txt w K mg t):oE P w mg base T.fF 1 (Vz t.aj):=by refine T.fF.F.cP vY ?_;obtain⟨a,F,cs,dl,rs,e,⟨ld,lr,ra,h,_⟩,q⟩;refine{_,(s1<|sr<|cb bz T.bc aQ<|ac (fl T.ai T.cE<|dv 0) an),?_};exact !{a,_,_,rfl,h.ins,rfl,_,rfl,.inl {dl,h.x5,fo q}}
inductive fq (t:eZ) (ds:List D) (S:aw) (R:KD) (Z:KX):Prop where
 |mk (a F cs dl rs) (h0:ds=[.ref a]) (h1:bI t.aj S a F cs dl rs) (h2:R (.tup<|cs.map aD) S)
theorem br(T:Txt w K mg t):oE P w mg base T.aJ 1 (fq t):=by refine T.aJ.F.cP jJ ?_;obtain⟨a,F,cs,dl,rs,e,⟨ld,lr,ra,h,_⟩,q⟩;refine{_,(s1<|sr<|fl T.ai T.cK<|dv 0),?_};exact !{a,_,_,rfl,h.ins,rfl,fo q}
noncomputable def tE(n:Nat):D->Option Int|.ao=>some n|.int i=>(if 0<=i/\i<=(n:Int) then some i else none)|_=>none
def LF(C N:Addr):jm:=λds S R Z=>∃a F cs dl rs m,ds=[.ref a,m]/\bI C S a F cs dl rs/\Gt S m/\(∀i,tE dl.length m=some i->R (.int i) S)/\(tE dl.length m=none->Z N S)
theorem iZ(T:Txt w K mg t):oE P w mg base T.bX 2 (LF t.aj t.eB):=by
 refine T.bX.F.cP ja ?_;obtain⟨a,F,cs,dl,rs,m,e,hS,hm,q1,q2⟩;obtain⟨ld,lr,ra,h,hF,sG⟩:=id hS;refine{_,(sc (si (bL nv hr.u (dv 1) dn) (s1<|sr<|iy (dv 0) T.ai T.fF (v7 T) hr) s0)<|sc (si (twd<|twor (dG<|tv<|bC T.jz (jL T) hr<|al 1 an)<|tw1<|dG<|WE jk jk hr.u di (dv 1)<|iy (dv 0) T.ai T.fF (v7 T) hr) (s1<|wJ ⟨T.lC⟩ T.xS<|ac ds an) s0)<|s1<|sr<|dv 1),?_};refine !!⟨?_⟩;refine bB (λh1=>?_) λh1=>?_;have e:m=.ao:=by cases m<;>first|rfl|cases h1
 subst e;exact !{a,_,rfl,h.ins,rfl,a,F,cs,dl,rs,rfl,hS,fo<|q1 _ rfl};refine !{m,rfl,hm,_,rfl,?_};refine bB (λh2=>?_) λh2=>?_;have h2:=nt h2;have e:tE dl.length m=none:=by cases m with|ao=>(cases h1)|int i=>(cases h2)|_=>rfl
 exact cw {sm<|by decide,fo<|q2 e};have h2:=nf h2;obtain⟨i,rfl⟩:∃i,m=.int i:=by cases m<;>first|exact{_,rfl}|cases h2
 refine !!⟨?_⟩;refine bB (λh3=>?_) λh3=>?_;have h3:0<=i:=zi h3;refine !{a,_,rfl,h.ins,rfl,a,F,cs,dl,rs,rfl,hS,_,rfl,?_};refine bB (λh4=>?_) λh4=>?_;have h4:¬i<=((dl.length:Nat):Int):=zM<|nt h4;exact{sm<|by decide,fo<|q2<|if_neg λz=>h4 z.2};have h4:i<=((dl.length:Nat):Int):=zi<|nf h4;exact{_,rfl,fo<|q1 i<|if_pos ⟨h3,h4⟩};have h3:¬0<=i:=zM h3;exact{_,rfl,cw {sm<|by decide,fo<|q2<|if_neg λz=>h3 z.1}}
inductive kR (ds:List D) (S:aw) (R:KD) (Z:KX):Prop where
 |mk (l uA m) (h0:ds=[.ref l,.int m]) (h1:S l=some (.lst<|uA.map jM)) (h2:R (wt uA m) S)
theorem jN(T:Txt w K mg t):Ok P w base T.gq 1 kR:=by
 refine T.gq.F.cP jH ?_;obtain⟨l,uA,m,e,hl,q⟩;refine{_,(sc (pA<|Bw (irv T.q9<|al 0 an) (gn (i:=2) jH.nd)<|s1<|si (bL jk hr.u (ix hr.u (dv 2) di)<|dv 1) (s1<|sr<|Uh (twd<|twor (bL nv hr.u (ix hr.u (dv 2) di) dn)<|tw1<|bL jk hr.u (dv 1)<|ix hr.u (dv 2) di) (ix hr.u (dv 2) di) dn) s0)<|s1<|sr dn),?_};refine{λav S'=>S'=S/\wt uA m=.ao,?_,?_};refine !{_,_,rfl,hl,?_};refine{λi av S'=>(∃o,av=[some<|.ref l,some<|.int m,o])/\S'=S/\wt uA m=H9 (uA.reverse.drop i) m,{⟨none,rfl⟩,rfl,by rw[List.drop_zero];rfl},λi av S' h=>by rw[h.2.1];exact hl,?_,?_};rintro i d av S' hd ⟨⟨o,rfl⟩,rfl,hw⟩;rw[<-List.map_reverse,zr]at hd;cases e1:uA.reverse[i]? with|none=>(rw[e1]at hd;cases hd)|some sd=>rw[e1]at hd;cases hd;have e2:uA.reverse.drop i=sd::uA.reverse.drop (i+1):=(by obtain⟨hi,e⟩:=zg.mp e1;rw[List.drop_eq_getElem_cons hi,e]);obtain⟨sb,se,sw⟩:=sd;rw[e2]at hw;refine !!!!⟨?_⟩;unfold H9 at hw;refine bB (λh=>?_) λh=>?_;rw[if_pos<|zi h]at hw;refine !!!⟨?_⟩;(cases se with|none=>refine cw<|cw !!⟨?_⟩;rw[hw]at q;exact fo q|some n=>refine bY !!!!⟨?_⟩;dsimp only at hw;refine bB (λh=>?_) λh=>?_;rw[if_pos<|zi h]at hw;rw[hw]at q;exact !!⟨fo q⟩;rw[if_neg<|zM h]at hw;rw[hw]at q;exact fo q);rw[if_neg<|zM h]at hw;exact{{_,rfl},rfl,hw}
 rintro av S' ⟨_,rfl,hw⟩;refine fo {rfl,?_};rw[hw,yz,zc,List.drop_eq_nil_of_le<|by rw[yz];exact zo _];rfl;rintro av S' ⟨rfl,hw⟩;rw[hw]at q;exact fo q
noncomputable def Az(rs:kQ)(k:D)(i:Int):D:=match k with|.str z=>(if iH z=true then wt ((lu rs z).getD []) i else .ao)|_=>.ao
def VA(C N:Addr):jm:=λds S R Z=>∃a F cs dl rs k m,ds=[.ref a,k,m]/\bI C S a F cs dl rs/\Gt S k/\Gt S m/\(∀i,tE dl.length m=some i->R (Az rs k i) S)/\(tE dl.length m=none->Z N S)
theorem mI(T:Txt w K mg t):oE P w mg base T.dj 3 (VA t.aj t.eB):=by
 refine T.dj.F.cP fT ?_;obtain⟨a,F,cs,dl,rs,k,m,e,hS,hk,hm,q1,q2⟩;obtain⟨ld,lr,ra,h,hF,sG⟩:=id hS;refine{_,(sc (ck (i:=3) fT.nd<|pC (dv 0) T.ai T.bX (iZ T) hr<|al 2 an)<|sc (si (dG<|tv<|bC T.nL (kf T) hr<|al 1 an) (s1<|sr dn) s0)<|s1<|sr<|bC T.gq (jN T) hr<|ac (mg2 hr.u (fl T.ai T.bH<|dv 0) (dv 1)<|bR an)<|al 3 an),?_};refine !{a,_,rfl,h.ins,rfl,_,rfl,a,F,cs,dl,rs,m,rfl,hS,hm,λi hi=>?_,λhn=>fo<|q2 hn};have q:=q1 i hi;refine !{k,rfl,hk,_,rfl,?_};refine bB (λh1=>?_) λh1=>?_;have e:Az rs k i=.ao:=by cases k with|str z=>exact if_neg (by rw[show iH z=false from nt h1];exact zd)|_=>rfl
 rw[e]at q;exact fo q;have h1:=nf h1;obtain⟨z,rfl⟩:∃z,k=.str z:=by cases k with|str z=>exact⟨z,rfl⟩|_=>cases h1
 have e:Az rs (.str z) i=wt ((lu rs z).getD []) i:=if_pos h1;rw[e]at q;refine !{a,_,_,rfl,h.ins,rfl,lr,_,rfl,h.run,_,rfl,sm<|by decide,λp hp=>{dQ ra,.inr z,?_,rfl,?_}};rw[ag<|ia h.run hp];exact h.run;rw[hW];refine{_,rfl,?_};cases e1:sH ra z with|none=>have e2:lu rs z=none:=(by rw[sG,gL,e1];rfl);rw[e2]at q;exact{p,[],i,rfl,aa,S,.new hp,q}|some ls=>obtain⟨l,uA⟩:=ls;have e2:lu rs z=some uA:=(by rw[sG,gL,e1];rfl);rw[e2]at q;have hc:=h.cell _<|dm e1;exact{l,uA,i,rfl,by rw[ag<|ia hc hp];exact hc,S,.new hp,q}
theorem Nq(h:sH ra k=some (l,s)):BS (hU ra) k s'=hU (sI ra k s'):=by unfold BS;rw[gL,h,if_pos<|show(Option.map (λx:Addr×List Std=>x.2)<|some (l,s)).isSome=true from rfl];unfold hU sI;rw[zB,zB];exact zX λr _=>by dsimp only[Function.comp];split<;>rfl
theorem Qm(h:sH ra k=none):BS (hU ra) k s=hU (ra++[(k,l,s)]):=by unfold BS;rw[gL,h,if_neg<|show ¬(Option.map (λx:Addr×List Std=>x.2) none).isSome=true from zd];unfold hU;rw[zH];rfl
theorem Qn(h:sH ra k=none):dput (dQ ra) (.inr k) (.ref l)=dQ (ra++[(k,l,s)]):=by
 unfold dput;have e:((dQ ra).any λkv=>decide<|kv.1=.inr k)=false:=by rw[List.any_eq_false];intro x hx;unfold dQ at hx;obtain⟨r,hr,rfl⟩:=zj.mp hx;simp only[yr];exact λe=>mH h r hr<|yL e
 rw[e,if_neg zd];unfold dQ;rw[zH];rfl
theorem H_:fp a ld lr (sI ra k s)=fp a ld lr ra:=by unfold fp sI;rw[zB];congr 3;exact zX λr _=>by dsimp only[Function.comp];split<;>rfl
theorem rK(h:l∈F):BV F F S (S.set l c):=λb x hb e=>{hb,by rw[ag<|show b≠l from λz=>hb<|by rw[z];exact h];exact e}
theorem Ia(h:r∈ra):r.2.1∈fp a ld lr ra:=zh _<|zh _<|zh _<|zj.mpr ⟨r,h,rfl⟩
def LG(C:Addr):jm:=λds S R _=>∃a F cs dl rs z ws,ds=[.ref a,.str z,.tup ws]/\bI C S a F cs dl rs/\((lu rs z).getD []).length<dl.length/\dl.length<=9000/\rs.length<=9000/\∀S' F',bI C S' a F' cs dl (BS rs z<|(lu rs z).getD []++[Std.mk dl.length none ws])->BV F F' S S'->R .ao S'
theorem x6(T:Txt w K mg t):oE P w mg base T.bE 2 (LG t.aj):=by
 refine T.bE.F.cP g_ ?_;rintro _ _ _ _ _ _ _ S R Z hr ⟨a,F,cs,dl,rs,z,ws,e,⟨ld,lr,ra,h,hF,sG⟩,hl,hd,hn,q⟩;subst e hF sG;have JG:(dQ ra).length<=9000:=by unfold hU at hn;unfold dQ;rw[zc]at hn⊢;exact hn
 refine{_,(s1<|se<|bm zK zO zP ba (ms2 (fl T.ai T.bH<|dv 0) (dv 1)<|bR an)<|ac (bw<|ac (iy (dv 0) T.ai T.fF (v7 T) hr)<|ac dn<|al 2 an) an),?_};refine !{a,_,_,rfl,h.ins,rfl,lr,dQ ra,rfl,h.run,_,rfl,sm<|by decide,λp hp=>{dQ ra,.inr z,?_,rfl,bg<|by lia,λd AH=>?_,λhn=>?_}};rw[ag<|ia h.run hp];exact h.run;rw[hW]at AH;cases e1:sH ra z with|none=>(rw[e1]at AH;cases AH)|some ls=>obtain⟨l,uA⟩:=ls;rw[e1]at AH;cases AH;have e2:lu (hU ra) z=some uA:=(by rw[gL,e1];rfl);rw[e2]at q hl;have hc:=h.cell _<|dm e1;have N2:(S.set p<|.lst []) l=some (.lst<|uA.map jM):=(by rw[ag<|ia hc hp];exact hc);have hi':(S.set p<|.lst []) a=some (.ins t.aj [("columns",.tup<|cs.map aD),("deeds",.ref ld),("runs",.ref lr)]):=(by rw[ag<|ia h.ins hp];exact h.ins);have p5:BU t.aj (S.set p<|.lst []) a ld lr cs dl ra:={hi',by rw[ag<|ia h.x5 hp];exact h.x5,by rw[ag<|ia h.run hp];exact h.run,λr hr=>by rw[ag<|ia (h.cell r hr) hp];exact h.cell r hr,h.kn,h.an,h.sz};refine{{rfl,_,N2},_,rfl,a,_,rfl,hi',rfl,a,_,cs,dl,_,rfl,⟨ld,lr,ra,p5,rfl,rfl⟩,_,rfl,mD,?_};have hle:uA.length<dl.length:=hl;refine{l,uA.map jM,_,rfl,rfl,N2,bg<|by rw[zc];lia,S.set l<|.lst<|(uA++[Std.mk dl.length none ws]).map jM,λb c hb=>?_,q _ _ {ld,lr,_,h.put e1<|by rw[zA];show uA.length+1<=_;lia,rfl,Nq e1} ?_};by_cases Z7:b=l;subst Z7;rw[aa]at hb⊢;rw[zH]at hb;exact hb;rw[ag Z7]at hb;rw[ag Z7,ag<|ia hb hp];exact hb;rw[H_];exact rK<|Ia<|dm e1
 rw[hW]at hn;cases e1:sH ra z with|some ls=>(rw[e1]at hn;cases hn)|none=>have e2:lu (hU ra) z=none:=(by rw[gL,e1];rfl);rw[e2]at q hl;have npr:p≠lr:=(ia h.run hp).symm;generalize x8:(S.set p<|.lst []).set lr _=S1;have Z8:S1 p=some (.lst []):=(by rw[<-x8,ag npr,aa]);have s1r:S1 lr=some (.cY<|dQ<|ra++[(z,p,[])]):=(by rw[<-x8,aa,Qn e1]);have Z9:∀b,b≠p->b≠lr->S1 b=S b:=λb h1 h2=>(by rw[<-x8,ag h2,ag h1]);have p5:BU t.aj S1 a ld lr cs dl (ra++[(z,p,[])]):=h.add e1 hp (zZ _) Z8 s1r Z9;refine{{rfl,_,Z8},_,rfl,a,_,rfl,p5.ins,rfl,a,_,cs,dl,_,rfl,{ld,lr,_,p5,rfl,rfl},_,rfl,mD,?_};refine{p,[],_,rfl,rfl,Z8,bg<|by show 0<=_;lia,S1.set p<|.lst<|[Std.mk dl.length none ws].map jM,.refl _,q _ _ {ld,lr,ra++[(z,p,[Std.mk dl.length none ws])],h.add e1 hp (by show 1<=_;have:0<dl.length:=hl;lia) aa ?_ λb h1 h2=>by rw[ag h1];exact Z9 b h1 h2,rfl,Qm e1} ?_};rw[ag npr.symm,s1r];unfold dQ;rw[zH,zH];rfl;intro b c hb e;have h1:b≠p:=ia e hp;have h2:b≠lr:=λz=>hb (by rw[z];exact zh _<|zh _ zp);refine{λm=>?_,by rw[ag h1,Z9 b h1 h2];exact e};unfold fp at m hb;rw[zH]at m;rcases zf.mp m with m|m;exact hb<|m ▸ zp;rcases zf.mp m with m|m;exact hb<|m ▸ zh _ zp;rcases zf.mp m with m|m;exact h2 m;rcases zR.mp m with m|m;exact hb<|zh _<|zh _<|zh _ m;exact h1<|zu.mp m
noncomputable def iK(n:Nat)(l:List Std):List Std:=l.dropLast++(l.getLast?.map λs=>Std.mk s.b (some n) s.ws).toList
noncomputable def n5(rs:kQ)(z:Str)(n:Nat):kQ:=BS rs z<|iK n<|(lu rs z).getD []
noncomputable def tG(rs:kQ)(z:Str)(n:Nat)(ws:List D):kQ:=BS rs z<|(lu rs z).getD []++[Std.mk n none ws]
theorem Ib(h:bI C S a F cs dl rs)(z:Str):((lu rs z).getD []).length<=dl.length:=by obtain⟨ld,lr,ra,h,_,rfl⟩:=h;rw[gL];cases e:sH ra z with|none=>exact zZ _|some ls=>exact h.sz _<|dm (l:=ls.1) (s:=ls.2) e
theorem LH(rs:kQ)(z:Str)(s:List Std):(BS rs z s).length<=rs.length+1:=by unfold BS;split;rw[zc];lia;rw[zA];exact zo _
theorem fA:lu (r::rs) k=if r.1=k then some r.2 else lu rs k:=by unfold lu;rw[z0];by_cases h:r.1=k;rw[zx h,if_pos h];rfl;rw[zq h,if_neg h]
theorem jO:lu (BS rs z s) k=if k=z then some s else lu rs k:=by
 unfold BS;by_cases hs:(lu rs z).isSome=true;rw[if_pos hs];by_cases hk:k=z;subst hk;rw[if_pos rfl];induction rs with|nil=>(cases hs)|cons r rs ih=>rw[zJ,fA];by_cases h:r.1=k;rw[if_pos h,if_pos h];rw[if_neg h,if_neg h];rw[fA,if_neg h]at hs;exact ih hs
 rw[if_neg hk];clear hs;induction rs with|nil=>rfl|cons r rs ih=>rw[zJ,fA,fA,ih];by_cases h:r.1=z;rw[if_pos h,if_neg<|show ¬r.1=k from λe=>hk<|e.symm.trans h,if_neg<|show ¬r.1=k from λe=>hk<|e.symm.trans h];rw[if_neg h]
 rw[if_neg hs];have hn:lu rs z=none:=by cases e:lu rs z<;>simp_all
 clear hs;induction rs with|nil=>rw[List.nil_append,fA];by_cases hk:k=z;rw[if_pos hk,if_pos hk.symm];rw[if_neg hk,if_neg λe=>hk e.symm]|cons r rs ih=>rw[fA]at hn;by_cases h:r.1=z;rw[if_pos h]at hn;cases hn;rw[if_neg h]at hn;rw[List.cons_append,fA,fA,ih hn];by_cases h2:r.1=k;rw[if_pos h2,if_pos h2,if_neg<|show ¬k=z from λe=>h<|h2.trans e];rw[if_neg h2,if_neg h2]
def VB(C:Addr):jm:=λds S R _=>∃a F cs dl rs z,ds=[.ref a,.str z]/\bI C S a F cs dl rs/\(∃s,lu rs z=some s/\s≠[])/\dl.length<=9000/\∀S',bI C S' a F cs dl (n5 rs z dl.length)->BV F F S S'->R .ao S'
theorem kh(h:l≠[]):∃r s,l=r++[s]:={l.dropLast,l.getLast h,(List.dropLast_concat_getLast h).symm}
theorem eU(n:Nat)(r:List Std)(s:Std):iK n (r++[s])=r++[Std.mk s.b (some n) s.ws]:=by unfold iK;rw[List.dropLast_concat,List.getLast?_concat];rfl
theorem Ie(T:Txt w K mg t):oE P w mg base T.bW 2 (VB t.aj):=by refine T.bW.F.cP dZ ?_;rintro _ _ _ _ _ _ _ S R Z hr ⟨a,F,cs,dl,rs,z,e,⟨ld,lr,ra,h,hF,sG⟩,⟨s0,RF,LI⟩,hd,q⟩;subst e hF sG;rw[gL]at RF;cases e1:sH ra z with|none=>(rw[e1]at RF;cases RF)|some ls=>obtain⟨l,uA⟩:=ls;rw[e1]at RF;cases RF;obtain⟨r,sd,rfl⟩:=kh LI;have hlen:=h.sz _<|dm e1;dsimp only at hlen;rw[zA]at hlen;have hlen:r.length+1<=dl.length:=hlen;have hc:=h.cell _<|dm e1;dsimp only at hc;have ed:bS (dQ ra) (.inr z)=some (.ref l):=(by rw[hW,e1];rfl);refine{_,(sc (ck (i:=2) dZ.nd<|bm0 zK PySem.F.slot_list_pop PySem.F.type_list_pop Us<|ix hr.u (fl T.ai T.bH<|dv 0)<|dv 1)<|s1<|se<|bm zK zO zP ba (ix hr.u (fl T.ai T.bH<|dv 0)<|dv 1)<|ac (bw<|ac (ix hr.u (dv 2) di)<|ac (iy (dv 0) T.ai T.fF (v7 T) hr)<|ac (ix hr.u (dv 2) di) an) an),?_};refine !{a,_,_,rfl,h.ins,rfl,_,rfl,dQ ra,_,h.run,ed,{rfl,_,hc},l,_,jM sd,rfl,rfl,hc,?_,?_};rw[zH,zA];show(r.map jM++[jM sd])[(r.map jM).length+1-1]?=_;simp;have e2:((r++[sd]).map jM).dropLast=r.map jM:=(by rw[zH];exact List.dropLast_concat);rw[e2];have h1:BU t.aj (S.set l<|.lst<|r.map jM) a ld lr cs dl (sI ra z r):=h.put e1 (by lia);generalize x8:S.set l _=S1 at h1;have Z_:sH (sI ra z r) z=some (l,r):=(by have hm:(z,l,r)∈sI ra z r:=(by unfold sI;exact zj.mpr {_,dm e1,if_pos rfl});cases e3:sH (sI ra z r) z with|none=>exact absurd rfl (mH e3 _ hm)|some x=>exact congrArg some<|congrArg Prod.snd<|iJ (f:=λr:Str×Addr×List Std=>r.1) h1.kn (dm (l:=x.1) (s:=x.2) e3) hm rfl);have ed':bS (dQ<|sI ra z r) (.inr z)=some (.ref l):=(by rw[hW,Z_];rfl);have Xb:=h1.cell _<|dm Z_;refine !{a,_,_,rfl,h1.ins,rfl,_,rfl,_,_,h1.run,ed',{rfl,_,Xb},_,rfl,_,rfl,_,rfl,a,_,rfl,h1.ins,rfl,a,_,cs,dl,_,rfl,{ld,lr,_,h1,rfl,rfl},_,rfl,_,rfl,mD,l,_,_,rfl,rfl,Xb,bg<|by rw[zc];show r.length<=_;lia,?_};have h2:=h1.put (s':=r++[Std.mk sd.b (some dl.length) sd.ws]) Z_ (by rw[zA];exact hlen);have e4:n5 (hU ra) z dl.length=hU (sI (sI ra z r) z<|r++[Std.mk sd.b (some dl.length) sd.ws]):=(by unfold n5;rw[gL,e1];show BS (hU ra) z (iK dl.length<|r++[sd])=_;rw[eU,Nq e1];unfold hU sI;rw[zB,zB,zB];exact zX λx _=>by dsimp only[Function.comp];by_cases hx:x.1=z<;>simp[hx]);refine{_,?_,q _ {ld,lr,_,h2,by rw[H_,H_],e4} ?_};show Sub (S1.set l<|.lst<|(r++[_]).map jM) (S1.set l<|.lst<|r.map jM++[_]);rw[zH];exact .refl _;rw[<-x8,aR];exact rK<|Ia<|dm e1
theorem Dn(h:ofStr iH d=true):∃z,d=.str z/\iH z=true:=by cases d with|str z=>exact⟨z,rfl,h⟩|_=>cases h
theorem Dq(h:nY cs k v=true):∃z ws,k=.str z/\v=.tup ws/\iH z=true:=by unfold nY at h;rw[zQ]at h;obtain⟨z,rfl,hz⟩:=Dn h.1;cases v with|tup ws=>exact⟨z,ws,rfl,rfl,hz⟩|_=>exact absurd h.2 zd
theorem lI:Gt S .ao:={{.ao,rfl},λ_=>nofun}
theorem Nr(h:ah (wt l m)=false):l≠[]:=by rintro rfl;cases h
theorem v8(hz:iH z=true)(i:Int):Az rs (.str z) i=wt ((lu rs z).getD []) i:=if_pos hz
inductive eV (t:eZ) (ds:List D) (S:aw) (R:KD) (Z:KX):Prop where
 |mk (a F cs dl rs k) (h0:ds=[.ref a,k]) (h1:bI t.aj S a F cs dl rs) (h2:Gt S k) (h3:(ah (Az rs k dl.length)=false->R .ao S)) (h4:(ah (Az rs k dl.length)=true->Z t.mh S))
theorem i4(T:Txt w K mg t):oE P w mg base T.bV 4 (eV t):=by refine T.bV.F.cP i_ ?_;obtain⟨a,F,cs,dl,rs,k,e,hS,hk,q1,q2⟩;obtain⟨ld,lr,ra,h,_⟩:=id hS;refine{_,(s1<|si (bL nv hr.u (Y7 (dv 0) T.ai T.dj.e ((mI T).mono<|by decide) hr T.fk d1<|al 1 an) dn) (s1<|wJ ⟨T.vB⟩ T.HU<|ac ds an) s0),?_};refine !{a,_,rfl,h.ins,rfl,_,rfl,a,F,cs,dl,rs,k,.ao,rfl,hS,hk,lI,λi hi=>?_,λhn=>by cases hn};cases hi;refine{_,rfl,?_};refine bB (λh1=>?_) λh1=>?_;exact{gJ,fo<|q2 h1};exact fo<|q1 h1
inductive jP (t:eZ) (ds:List D) (S:aw) (R:KD) (Z:KX):Prop where
 |mk (a F cs dl rs k v) (h0:ds=[.ref a,k,v]) (h1:bI t.aj S a F cs dl rs) (h2:cs.length<=8) (h3:Gt S k) (h4:R1 S v) (h5:dl.length<=8000) (h6:rs.length<=8000) (h7:(nY cs k v=false->Z t.gU S)) (h8:(nY cs k v=true->ah (Az rs k dl.length)=false->Z t.qW S)) (h9:(∀z ws,k=.str z->v=.tup ws->nY cs k v=true->ah (Az rs k dl.length)=true->∀S' F',bI t.aj S' a F' cs (dl++[.tup [.str "put",k,v]]) (tG rs z (dl.length+1) ws)->BV F F' S S'->R .ao S'))
theorem Qo(T:Txt w K mg t):oE P w mg base T.fE 6 (jP t):=by refine T.fE.F.cP vX ?_;obtain⟨a,F,cs,dl,rs,k,v,e,hS,hc,hk,hv,hd,hn,q1,q2,q3⟩;obtain⟨ld,lr,ra,h,hF,sG⟩:=id hS;refine{_,(sc (se<|bC T.j8 (mG T) hr<|ac (fl T.ai T.cK<|dv 0)<|ac (bw<|al 1<|al 2 an) an)<|sc (si (bL qI hr.u (Y7 (dv 0) T.ai T.dj.e ((mI T).mono<|by decide) hr T.fk d1<|al 1 an) dn) (s1<|wJ ⟨T.rf⟩ T.E7<|ac ds an) s0)<|sc (se<|bm zK zO zP ba (fl T.ai T.cE<|dv 0)<|ac (bw<|ac ds<|al 1<|al 2 an) an)<|s1<|se<|pC (dv 0) T.ai T.bE (x6 T) hr<|al 1<|al 2 an),?_};refine !{a,_,_,rfl,h.ins,rfl,_,rfl,_,rfl,fz,cs,k,v,rfl,hc,hk,hv,λFj=>?_,λwL=>fo<|q1 wL};refine !{a,_,rfl,h.ins,rfl,_,rfl,a,F,cs,dl,rs,k,.ao,rfl,hS,hk,lI,λi hi=>?_,λhn=>by cases hn};cases hi;refine{_,rfl,?_};refine bB (λh1=>?_) λh1=>?_;exact{gJ,fo<|q2 Fj<|nt h1};obtain⟨z,ws,rfl,rfl,hz⟩:=Dq Fj;refine !{a,_,_,rfl,h.ins,rfl,{rfl,_,h.x5},_,rfl,_,rfl,mD,ld,dl,_,rfl,rfl,h.x5,bg<|by lia,?_};have EA:=h.Ql<|.tup [.str "put",.str z,.tup ws];have x8:bI t.aj (S.set ld<|.lst<|dl++[.tup [.str "put",.str z,.tup ws]]) a F cs (dl++[.tup [.str "put",.str z,.tup ws]]) rs:=⟨ld,lr,ra,EA,hF,sG⟩;have hl:=Ib hS z;refine !{a,_,rfl,EA.ins,rfl,_,rfl,_,rfl,a,F,cs,_,rs,z,ws,rfl,x8,by rw[zA];exact Nat.lt_succ_of_le hl,by rw[zA];show dl.length+1<=_;lia,by lia,λS' F' p5 hK=>fo<|q3 z ws rfl rfl Fj (nf h1) S' F' ?_ ?_};have:(dl++[D.tup [.str "put",.str z,.tup ws]]).length=dl.length+1:=zA;rw[this]at p5;exact p5;refine BV.trans (rK ?_) hK;rw[hF];exact zh _ zp
inductive fU (t:eZ) (ds:List D) (S:aw) (R:KD) (Z:KX):Prop where
 |mk (a F cs dl rs k v) (h0:ds=[.ref a,k,v]) (h1:bI t.aj S a F cs dl rs) (h2:cs.length<=8) (h3:Gt S k) (h4:R1 S v) (h5:dl.length<=8000) (h6:rs.length<=8000) (h7:(nY cs k v=false->Z t.gU S)) (h8:(nY cs k v=true->ah (Az rs k dl.length)=true->Z t.mh S)) (h9:(∀z ws,k=.str z->v=.tup ws->nY cs k v=true->ah (Az rs k dl.length)=false->∀S' F',bI t.aj S' a F' cs (dl++[.tup [.str "change",k,v]]) (tG (n5 rs z dl.length) z (dl.length+1) ws)->BV F F' S S'->R .ao S'))
theorem Fm(T:Txt w K mg t):oE P w mg base T.cL 6 (fU t):=by
 refine T.cL.F.cP pJ ?_;obtain⟨a,F,cs,dl,rs,k,v,e,hS,hc,hk,hv,hd,hn,q1,q2,q3⟩;obtain⟨ld,lr,ra,h,hF,sG⟩:=id hS;refine{_,(sc (se<|bC T.j8 (mG T) hr<|ac (fl T.ai T.cK<|dv 0)<|ac (bw<|al 1<|al 2 an) an)<|sc (se<|pC (dv 0) T.ai T.bV (i4 T) hr<|al 1 an)<|sc (se<|pC (dv 0) T.ai T.bW (Ie T) hr<|al 1 an)<|sc (se<|bm zK zO zP ba (fl T.ai T.cE<|dv 0)<|ac (bw<|ac ds<|al 1<|al 2 an) an)<|s1<|se<|pC (dv 0) T.ai T.bE (x6 T) hr<|al 1<|al 2 an),?_};refine !{a,_,_,rfl,h.ins,rfl,_,rfl,_,rfl,fz,cs,k,v,rfl,hc,hk,hv,λFj=>?_,λwL=>fo<|q1 wL};refine !{a,_,rfl,h.ins,rfl,_,rfl,a,F,cs,dl,rs,k,rfl,hS,hk,λh1=>?_,λh1=>fo<|q2 Fj h1};obtain⟨z,ws,rfl,rfl,hz⟩:=Dq Fj;have LI:∃s,lu rs z=some s/\s≠[]:=by rw[v8 hz]at h1;have:=Nr h1;cases e:lu rs z with|none=>rw[e]at this;exact absurd rfl this|some s=>rw[e]at this;exact⟨s,rfl,this⟩
 refine !{a,_,rfl,h.ins,rfl,_,rfl,a,F,cs,dl,rs,z,rfl,hS,LI,by lia,λS1 x8 VC=>?_};obtain⟨R3,lr1,ra1,EA,VD,Qp⟩:=id x8;refine !{a,_,_,rfl,EA.ins,rfl,{rfl,_,EA.x5},_,rfl,_,rfl,mD,R3,dl,_,rfl,rfl,EA.x5,bg<|by lia,?_};have h2:=EA.Ql<|.tup [.str "change",.str z,.tup ws];have VE:bI t.aj (S1.set R3<|.lst<|dl++[.tup [.str "change",.str z,.tup ws]]) a F cs (dl++[.tup [.str "change",.str z,.tup ws]]) (n5 rs z dl.length):=⟨R3,lr1,ra1,h2,VD,Qp⟩;have hl:=Ib x8 z;have Hw:(n5 rs z dl.length).length<=rs.length+1:=LH _ _ _;refine !{a,_,rfl,h2.ins,rfl,_,rfl,_,rfl,a,F,cs,_,_,z,ws,rfl,VE,by rw[zA];exact Nat.lt_succ_of_le hl,by rw[zA];show dl.length+1<=_;lia,by lia,λS' F' p5 hK=>fo<|q3 z ws rfl rfl Fj h1 S' F' ?_ ?_};have:(dl++[D.tup [.str "change",.str z,.tup ws]]).length=dl.length+1:=zA;rw[this]at p5;exact p5;refine VC.trans<|BV.trans (rK ?_) hK;rw[VD];exact zh _ zp
inductive iL (t:eZ) (ds:List D) (S:aw) (R:KD) (Z:KX):Prop where
 |mk (a F cs dl rs k) (h0:ds=[.ref a,k]) (h1:bI t.aj S a F cs dl rs) (h2:Gt S k) (h3:dl.length<=8000) (h4:(ofStr iH k=false->Z t.gU S)) (h5:(ofStr iH k=true->ah (Az rs k dl.length)=true->Z t.mh S)) (h6:(∀z,k=.str z->iH z=true->ah (Az rs k dl.length)=false->∀S',bI t.aj S' a F cs (dl++[.tup [.str "take",k]]) (n5 rs z dl.length)->BV F F S S'->R .ao S'))
theorem LJ(T:Txt w K mg t):oE P w mg base T.eE 6 (iL t):=by
 refine T.eE.F.cP tw ?_;obtain⟨a,F,cs,dl,rs,k,e,hS,hk,hd,q1,q2,q3⟩;obtain⟨ld,lr,ra,h,hF,sG⟩:=id hS;refine{_,(sc (si (dG<|tv<|bC T.nL (kf T) hr<|al 1 an) (s1<|wJ ⟨T.gY⟩ T.j6<|ac ds an) s0)<|sc (se<|pC (dv 0) T.ai T.bV (i4 T) hr<|al 1 an)<|sc (se<|pC (dv 0) T.ai T.bW (Ie T) hr<|al 1 an)<|s1<|se<|bm zK zO zP ba (fl T.ai T.cE<|dv 0)<|ac (bw<|ac ds<|al 1 an) an),?_};refine !{k,rfl,hk,_,rfl,?_};refine bB (λh0=>?_) λh0=>?_;exact{gJ,fo<|q1<|nt h0};have h0:=nf h0;refine !{a,_,rfl,h.ins,rfl,_,rfl,a,F,cs,dl,rs,k,rfl,hS,hk,λh1=>?_,λh1=>fo<|q2 h0 h1};obtain⟨z,rfl,hz⟩:=Dn h0;have LI:∃s,lu rs z=some s/\s≠[]:=by rw[v8 hz]at h1;have:=Nr h1;cases e:lu rs z with|none=>rw[e]at this;exact absurd rfl this|some s=>rw[e]at this;exact⟨s,rfl,this⟩
 refine !{a,_,rfl,h.ins,rfl,_,rfl,a,F,cs,dl,rs,z,rfl,hS,LI,by lia,λS1 x8 VC=>?_};obtain⟨R3,lr1,ra1,EA,VD,Qp⟩:=id x8;refine !{a,_,_,rfl,EA.ins,rfl,{rfl,_,EA.x5},_,rfl,fz,R3,dl,_,rfl,rfl,EA.x5,bg<|by lia,?_};refine fo<|q3 z rfl hz h1 _ {R3,lr1,ra1,EA.Ql _,VD,Qp}<|VC.trans<|rK ?_;rw[VD];exact zh _ zp
inductive h_ (t:eZ) (ds:List D) (S:aw) (R:KD) (Z:KX):Prop where
 |mk (a cs) (h0:ds=[.ref a,.tup<|cs.map aD]) (h1:Gd cs) (h2:S a=some (.ins t.aj [])) (h3:∀S' F,bI t.aj S' a F cs [] []->BV [a] F S S'->R .ao S')
theorem LK(T:Txt w K mg t):oE P w mg base T.fR 5 (h_ t):=by
 refine T.fR.F.cP mB ?_;obtain⟨a,cs,e,hg,ha,q⟩;refine{_,(sc (se<|bC T.gG (nZ T) hr<|al 1 an)<|sc (sf T.ai T.cK (dv 0)<|dv 1)<|sc (sf T.ai T.cE (dv 0)<|bR an)<|s1<|sf T.ai T.bH (dv 0) Ui),?_};refine !{cs,rfl,hg,_,rfl,_,rfl,a,[],rfl,ha,(show 0<1000 by decide),?_};refine{rC,λld R4=>!{a,[("columns",.tup<|cs.map aD)],rfl,?_,(show 1<1000 by decide),λlr Hw=>!{a,[("columns",.tup<|cs.map aD),("deeds",.ref ld)],rfl,?_,(show 2<1000 by decide),?_}}};have nl:a≠ld:=by rintro rfl;rw[aa]at R4;cases R4
 rw[ag nl,aa];rfl;have nl:a≠lr:=by rintro rfl;rw[aa]at Hw;cases Hw
 rw[ag nl,aa];rfl;have n1:a≠ld:=by rintro rfl;rw[aa]at R4;cases R4
 have n2:a≠lr:=by rintro rfl;rw[aa]at Hw;cases Hw
 have n3:ld≠lr:=by rintro rfl;rw[ag n1.symm,aa]at Hw;cases Hw
 rw[ag n1.symm]at R4;rw[ag n2.symm,ag n3.symm,ag n2.symm]at Hw;refine fo<|q _ (fp a ld lr []) {ld,lr,[],{aa,?_,?_,λr hr=>(nomatch hr),List.nodup_nil,(by simp),λr hr=>(nomatch hr)},rfl,rfl} λb c hb e=>?_;rw[ag n1.symm,ag n3,ag n1.symm,aa];rw[ag n2.symm,aa];rfl;have b1:b≠a:=λz=>hb (by rw[z];exact zp);have b2:b≠ld:=ia e R4;have b3:b≠lr:=ia e Hw;refine{λm=>?_,by rw[ag b1,ag b3,ag b1,ag b2,ag b1];exact e};unfold fp at m;simp only[List.map_nil,zf,zD,or_false]at m;rcases m with m|m|m;exact b1 m;exact b2 m;exact b3 m
noncomputable def tH(rs:kQ)(i:Int)(z:Str):D:=.tup [.str z,wt ((lu rs z).getD []) i]
noncomputable def eI(rs:kQ)(i:Int)(ss:List Str):List D:=(ss.filter λz=>!ah (wt ((lu rs z).getD []) i)).map<|tH rs i
noncomputable def v9:D->Bool|.tup [_,x]=>!ah x|_=>false
theorem x9(ss:List Str):((ss.map<|tH rs i).filter v9).map id=eI rs i ss:=by unfold eI;rw[List.map_id,List.filter_map];rfl
def Nt(C N:Addr):jm:=λds S R Z=>∃a F cs dl rs m,ds=[.ref a,m]/\bI C S a F cs dl rs/\rs.length<64/\Gt S m/\(∀i ss,tE dl.length m=some i->ss.Perm (rs.map (·.1))->PyProof.Rows.sortedS ss=true->∀p,S p=none->R (.ref p) (S.set p<|.lst<|eI rs i ss))/\(tE dl.length m=none->Z N S)
theorem uB(T:Txt w K mg t):oE P w mg base T.dI 3 (Nt t.aj t.eB):=by
 refine T.dI.F.cP fg ?_;obtain⟨a,F,cs,dl,rs,m,e,hS,hn,hm,q1,q2⟩;obtain⟨ld,lr,ra,h,hF,sG⟩:=id hS;have ek:(dQ ra).map (·.1)=(rs.map (·.1)).map Sum.inr:=by rw[sG];unfold dQ hU;rw[zB,zB,zB];rfl
 have el:(dQ ra).length<64:=by rw[sG]at hn;unfold hU at hn;unfold dQ;rw[zc]at hn⊢;exact hn
 refine{_,(sc (ck (i:=2) fg.nd<|pC (dv 0) T.ai T.bX (iZ T) hr<|al 1 an)<|sc (RL (i:=3) (N:=["key","then","self"]) (src:=[none,some 2,some 0]) fg.nd (oy (ae<|inClass a_ 10) ["self","moment","then","rows"] rfl rfl<|by trivial) (il<|cb xw T.gX fC<|ac (fl T.ai T.bH<|dv 0) an) (ur<|show(["key","then","self"]:List Str).Nodup by trivial) (aY rfl) aZ (λ_ _ _ _ _=>wK) λ_ _ _ _ _=>(bw<|al 0<|ac (bC T.gq (jN T) hr<|ac (ix hr.u (fl T.ai T.bH<|dv 2)<|dv 0)<|al 1 an) an))<|s1<|sr<|Ax (N:=["row"]) (src:=[none]) (oy (ae<|inClass a_ 10) ["self","moment","then","rows"] rfl rfl<|by trivial) (il<|dv 3) (ur<|show(["row"]:List Str).Nodup by trivial) (aY rfl) aZ (λ_ _ _ _ _=>(if1<|bL qI hr.u (ix hr.u (dv 0) di) dn)) λ_ _ _ _ _=>(dv 0)),?_};refine !{a,_,rfl,h.ins,rfl,_,rfl,a,F,cs,dl,rs,m,rfl,hS,hm,λi hi=>?_,λhn=>fo<|q2 hn};refine !{a,_,_,rfl,h.ins,rfl,lr,dQ ra,rs.map (·.1),rfl,h.run,ek,el,λss hp hs p oP=>?_};have hlen:ss.length<64:=by rw[hp.length_eq,zc];exact hn
 refine{_,aa,?_};refine comp_map (λd=>match d with|.str z=>tH rs i z|_=>.ao) aa (by show(ss.map D.str).length<=1000;rw[zc];omega) (λd hd Q hQ=>?_) λp2 lP=>?_;obtain⟨z,hz,rfl⟩:=zj.mp hd;have YI:z∈rs.map (·.1):=hp.mem_iff.mp hz;obtain⟨r,rL,e⟩:=zj.mp YI;rw[sG]at rL;unfold hU at rL;obtain⟨r0,wL,rfl⟩:=zj.mp rL;have e1:sH ra z=some r0.2:=by cases e3:sH ra z with|none=>exact absurd e (mH e3 _ wL)|some x=>exact congrArg some<|congrArg Prod.snd<|iJ (f:=λr:Str×Addr×List Std=>r.1) h.kn (dm (l:=x.1) (s:=x.2) e3) wL e.symm
 have ed:bS (dQ ra) (.inr z)=some (.ref r0.2.1):=by rw[hW,e1];rfl
 have hc:=h.cell _ wL;have eq:(lu rs z).getD []=r0.2.2:=by rw[sG,gL,e1];rfl
 have hQ:Q (.tup [.str z,wt ((lu rs z).getD []) i]) (S.set p<|.lst<|ss.map D.str):=hQ;rw[eq]at hQ;have hi1:(S.set p<|.lst<|ss.map D.str) a=_:=(ag<|ia h.ins oP).trans h.ins;have Fj:(S.set p<|.lst<|ss.map D.str) lr=_:=(ag<|ia h.run oP).trans h.run;have Xb:(S.set p<|.lst<|ss.map D.str) r0.2.1=_:=(ag<|ia hc oP).trans hc;exact !!{a,_,_,rfl,hi1,rfl,_,rfl,dQ ra,_,Fj,ed,_,rfl,_,_,i,rfl,Xb,fz,hQ};have em:(ss.map D.str).map (λd=>match d with|.str z=>tH rs i z|_=>.ao)=ss.map (tH rs i):=by rw[zB];rfl
 refine !{ss.map<|tH rs i,by show((S.set p _).set p2<|.lst<|(ss.map D.str).map _) p2=_;rw[aa,em],?_};refine ke v9 id (by show((S.set p _).set p2<|.lst<|(ss.map D.str).map _) p2=_;rw[aa,em]) (by show(ss.map<|tH rs i).length<=1000;rw[zc];omega) (λd hd Q Q' hQ Qq=>?_) λp3 Xc=>?_;obtain⟨z,hz,rfl⟩:=zj.mp hd;refine !!!⟨?_⟩;exact bB (λh=>!⟨hQ h⟩) λh=>Qq h;have aac:S p3=none:=by cases e:S p3 with|none=>rfl|some c=>exact absurd Xc<|by rw[ag (ia e<|by have:(S.set p<|.lst<|ss.map D.str) p2=none:=lP;cases e':S p2 with|none=>rfl|some c'=>rw[ag<|ia e' oP,e']at this;cases this),ag<|ia e oP,e];exact nofun
 refine{S.set p3<|.lst<|eI rs i ss,λb c hb=>?_,q1 i ss hi hp hs p3 aac};show((((S.set p<|.lst<|ss.map D.str).set p2 _).set p3<|.lst<|((ss.map<|tH rs i).filter v9).map id)) b=some c;rw[x9];by_cases hb3:b=p3;subst hb3;rw[aa]at hb⊢;exact hb;rw[ag hb3]at hb;have aae:S p2=none:=by cases e':S p2 with|none=>rfl|some c'=>have:(S.set p<|.lst<|ss.map D.str) p2=none:=lP;rw[ag<|ia e' oP,e']at this;cases this
 rw[ag hb3,ag<|ia hb aae,ag<|ia hb oP];exact hb
theorem dW{p:Bool}{A B:Prop}(h:p=false)(q:B):if p=true then A else B:=by rw[h];exact bY q
theorem sJ{p:Bool}{A B:Prop}(h:p=true)(q:A):if p=true then A else B:=by rw[h];exact cw q
theorem dR{L:List D}{S:aw}{p:Addr}{n:Int}{R:KD}(h0:0<=n)(h1:n<(L.length:Int))(hp:S p=none)(q:∀d,d∈L->R d S):WH p n (S.set p<|.lst L) λd S'=>Fo S' (R d):=by obtain⟨v,e1,e2⟩:=uZ (l:=L) h0 h1;exact{L,v,aa,e1,S,.new hp,q v<|zI e2}
theorem rM{xs:List Int}{i:Int}{P:Int->Prop}(h0:0<=i)(h1:i<((xs.map D.int).length:Int))(h:∀x∈xs,P x):∃x,kJ (xs.map D.int) i=some (.int x)/\P x:=by obtain⟨d,e1,e2⟩:=uZ (l:=xs.map D.int) h0 h1;obtain⟨x,hx,rfl⟩:=zj.mp<|zI e2;exact{x,e1,h x hx}
inductive oQ (ds:List D) (S:aw) (R:KD) (Z:KX):Prop where
 |mk (ns:List Int) (k:Nat) (h0:ds=[.iU<|ns.map D.int,.int k]) (h1:∀c:Int,R (.int c) S)
theorem lJ(T:Txt w K mg t):Ok P w base T.g8 1 oQ:=by
 refine T.g8.F.cP vW ?_;obtain⟨ns,k,e,q⟩;refine{_,(sc (si (bL EF hr.u (dv 1)<|cb bz T.bc aQ<|al 0 an) (s1<|sr<|ix hr.u (dv 0)<|dv 1) s0)<|s1<|sr di),?_};refine !!!!⟨?_⟩;refine bB (λh=>?_) λh=>?_;have h:(k:Int)<(((ns.map D.int).length:Nat):Int):=zi h;have hk:k<ns.length:=by rw[zc]at h;lia
 exact !!{.int ns[k],eM<|by rw[zr];simp[hk],fo<|q _};exact fo<|q 0
inductive uC (ds:List D) (S:aw) (R:KD) (Z:KX):Prop where
 |mk (c:Int) (n:Nat) (h0:ds=[.int c,.int (n:Nat)]) (h1:n<=20) (h2:∀(xs:List Int) p,xs.length=n->(∀x∈xs,0<=x)->S p=none->R (.ref p) (S.set p<|.lst<|xs.map D.int))
theorem mJ(T:Txt w K mg t):Ok P w base T.j9 1 uC:=by
 refine T.j9.F.cP cF ?_;obtain⟨c,n,e,hn,q⟩;refine{_,(sc (ck (i:=2) cF.nd<|bR an)<|sc (ck (i:=3) cF.nd di)<|sc (pA<|si (bL YX hr.u (dv 0)<|bo kN hr.u di di) (s1<|ck (i:=3) cF.nd<|bo Hb hr.u (dv 0)<|bo kN hr.u di di) s0)<|sc (pA<|ZL (twd<|twand (bL sZ hr.u (dv 3) di)<|tw1<|bL EF hr.u (cb bz T.bc aQ<|al 2 an)<|dv 1)<|sc (se<|bm zK zO zP ba (dv 2)<|ac (bo bZ hr.u (dv 3)<|bo kN hr.u di di) an)<|s1<|ck (i:=3) cF.nd<|bo e_ hr.u (dv 3)<|bo kN hr.u di di)<|sc (ck (i:=4) cF.nd<|bo bj hr.u (bo bZ hr.u (dv 0)<|bo bj hr.u (bo kN hr.u di di) di) di)<|sc (pA<|Bw (Ld T.ft<|ac (bo bj hr.u (dv 1) di) an) (gn (i:=5) cF.nd)<|sc (ck (i:=4) cF.nd<|bo bZ hr.u (bo bj hr.u (bo bj hr.u (bo uh hr.u (dv 4)<|dv 4)<|bo uh hr.u di<|dv 4)<|dv 5)<|bo bj hr.u (bo kN hr.u di di) di)<|s1<|si (bL sZ hr.u (dv 5) di) (s1<|se<|bm zK zO zP ba (dv 2)<|ac (bo bZ hr.u (bo uh hr.u (dv 4)<|bo bj hr.u (bo e_ hr.u (dv 4) di) di)<|bo bj hr.u (bo kN hr.u di di) di) an) s0)<|s1<|sr<|Ni (dv 2) o0<|o1<|dv 1),?_};refine{rC,λlf LL=>?_};refine{λav S'=>∃r:Int,av=[some<|.int c,some<|.int (n:Nat),some<|.ref lf,some<|.int r,none,none]/\S'=S.set lf (.lst []),?_,?_};refine{_,rfl,{by decide,by decide,by decide},_,rfl,bB (λh=>?_) λh=>fo {0,rfl,rfl}};exact{_,rfl,{by decide,by decide,by decide},fo !⟨rfl⟩};rintro av S' ⟨r,rfl,rfl⟩;refine{λav S'=>∃(r:Int)(xs:List Int),av=[some<|.int c,some<|.int (n:Nat),some<|.ref lf,some<|.int r,none,none]/\S'=S.set lf (.lst<|xs.map D.int)/\xs.length<=n/\∀x∈xs,0<=x,?_,?_};refine{λm av S'=>∃(r:Int)(xs:List Int),av=[some<|.int c,some<|.int (n:Nat),some<|.ref lf,some<|.int r,none,none]/\S'=S.set lf (.lst<|xs.map D.int)/\xs.length+m=n/\∀x∈xs,0<=x,{n,r,[],rfl,rfl,Nat.zero_add _,λ_ h=>(nomatch h)},?_};rintro m av S' ⟨r,xs,rfl,rfl,hl,hx⟩;have hS:(S.set lf<|.lst<|xs.map D.int) lf=some (.lst<|xs.map D.int):=aa;refine !!⟨bB (λh1=>!!⟨.inl {_,hS,_,rfl,_,rfl,bB (λh2=>?_) λh2=>?_}⟩) λh1=>bY<|fo {r,xs,rfl,rfl,by lia,hx}⟩;have h2:(((xs.map D.int).length:Nat):Int)<((n:Nat):Int):=zi h2;rw[zc]at h2;refine{_,rfl,{rfl,_,hS},_,rfl,{by decide,by decide,by decide},by decide,lf,_,_,rfl,rfl,hS,bg<|by rw[zc];lia,?_};refine{_,rfl,{by decide,by decide,by decide},{by decide,by trivial},m-1,by lia,_,xs++[r%10^(15:Int).toNat],rfl,?_,by rw[zA];show xs.length+1+_=_;lia,λx G5=>?_};rw[aR,zH];rfl;rcases zR.mp G5 with h|h;exact hx x h;rw[zu.mp h];exact yd _ (by decide);exact fo {r,xs,rfl,rfl,by lia,hx};rintro av S' ⟨r,xs,rfl,rfl,hl,hx⟩;have nb:∀z:Int,0<=z%1000000000000000009/\z%1000000000000000009<1000000000000000009:=λz=>{yd z<|by decide,yb z<|by decide};have e18:((10:Int)^(18:Int).toNat+9)=1000000000000000009:=by decide
 refine{_,rfl,{by decide,by decide,by decide},by decide,?_};refine{λav S'=>∃(o4 o5:Option D)(ys:List Int),av=[some<|.int c,some<|.int (n:Nat),some<|.ref lf,some<|.int r,o4,o5]/\S'=S.set lf (.lst<|ys.map D.int)/\n<=ys.length/\ys.length<=40/\∀x∈ys,0<=x,?_,?_};refine !{((n:Nat):Int)+3,rfl,by lia,by lia,?_};refine{λi av S'=>∃(nu:Int)(o5:Option D)(ys:List Int),av=[some<|.int c,some<|.int (n:Nat),some<|.ref lf,some<|.int r,some<|.int nu,o5]/\0<=nu/\nu<1000000000000048280/\S'=S.set lf (.lst<|ys.map D.int)/\ys.length=xs.length+(i-3)/\∀x∈ys,0<=x,?_,λ_ _ _ _=>trivial,?_,?_};have:=nb c;rw[e18];exact{_,none,xs,rfl,by lia,by lia,rfl,rfl,hx};rintro i d av S' hd ⟨nu,o5,ys,rfl,n0,n1,rfl,hyl,hy⟩;have hd:(gD 0 (((n:Nat):Int)+3).toNat)[i]?=some d:=hd;obtain⟨hi,rfl⟩:=eQ hd;refine !!{.inl {by lia,by lia},_,rfl,.inl {by decide,by decide},_,rfl,{by decide,by decide,by decide},by decide,?_};rw[e18];have b1:=nb<|nu*nu+48271*nu+(0+(i:Nat));generalize (nu*nu+48271*nu+(0+(i:Nat)))%1000000000000000009=nu2 at b1⊢;have hS:(S.set lf<|.lst<|ys.map D.int) lf=some (.lst<|ys.map D.int):=aa;refine !!⟨bB (λh=>?_) λh=>?_⟩;have h:(2:Int)<0+((i:Nat):Int):=zi h;refine{_,rfl,{rfl,_,hS},_,rfl,_,rfl,{by decide,by trivial},.inl {by lia,by lia},{by decide,by decide,by decide},by decide,lf,_,_,rfl,rfl,hS,bg<|by rw[zc];lia,?_};refine{nu2,_,ys++[nu2*(nu2/1009+69621)%(10^(18:Int).toNat+9)],rfl,by lia,by lia,?_,by rw[zA];show ys.length+1=_;lia,λx G5=>?_};rw[aR,zH];rfl;rcases zR.mp G5 with h|h;exact hy x h;rw[zu.mp h];exact yd _ (by decide);have h:¬(2:Int)<0+((i:Nat):Int):=zM h;exact{nu2,_,ys,rfl,by lia,by lia,rfl,by lia,hy};rintro av S' ⟨nu,o5,ys,rfl,_,_,rfl,hyl,hy⟩;rw[show({gD 0 (((n:Nat):Int)+3).toNat,λ_=>True}:vg).xs.length=(((n:Nat):Int)+3).toNat from dH]at hyl;exact fo {_,_,ys,rfl,rfl,by lia,by lia,hy};rintro av S' ⟨o4,o5,ys,rfl,rfl,Na,MI,hy⟩;refine !!!{_,aa,λp hp=>?_};have hp0:S p=none:=by rw[ag<|show p≠lf by rintro rfl;rw[aa]at hp;cases hp]at hp;exact hp
 have e:cq (ys.map D.int) none (some ((n:Nat):Int))=(ys.take n).map D.int:=by unfold cq;rw[HT.sIx_nat,HT.sIx_none,zc,Nat.min_eq_left Na,List.drop_zero,Nat.sub_zero,List.map_take]
 rw[e];refine{_,λb x hb=>?_,q (ys.take n) p (by rw[yh];lia) (λx G5=>hy x<|List.mem_of_mem_take G5) hp0};by_cases hbp:b=p;subst hbp;rw[aa]at hb⊢;exact hb;rw[ag hbp]at hb⊢;exact(Sub.new LL) _ _ hb
noncomputable abbrev KW:List Str:=["a","ab","b","abc","z","a1","b22","aa","m","m0","ba","zzzzzzzzz"]
noncomputable abbrev KU:List Str:=["","0","b7","zz","9"]
noncomputable abbrev KS:List Str:=KW.flatMap λa=>KU.map λb=>a++b
theorem jQ:∀z∈KS,iH z=true/\z.cps.size<=12/\PyData.strOk z=true:=by trivial
theorem VF:∀a∈KW,∀b∈KU,a.length+b.length<=1000:=by trivial
noncomputable abbrev tI:List Str:=["key","a","ab","at","up","mark","b","price"]
theorem Ig:∀z∈tI,jK z=true/\PyData.strOk z=true:=by trivial
noncomputable abbrev WDS:List Str:=["","a","ab","b","a b","B","~","=b"]
theorem Qr:∀z∈WDS,oI z=true:=by trivial
noncomputable def cT:D->Bool|.ao=>true|.int _=>true|.str z=>decide (z.cps.size<=40)&&PyData.strOk z|_=>false
def Vg(kind:Str)(d:D):Prop:=hG kind d=true/\cT d=true
theorem LM(h:oI z=true):cT (.str z)=true:=by unfold oI at h;rw[zQ,ye]at h;show(decide (z.cps.size<=40)&&PyData.strOk z)=true;rw[h.1,zV];unfold PyData.strOk;rw[<-Array.all_toList,ye];intro c hc;have:=h.2 c hc;unfold Dk at this;simp only[zQ,yr]at this⊢;lia
theorem Qt{k:Str}(h:k ="number")(i:Int):Vg k (.int i):={by rw[h];rfl,rfl}
theorem Qu{k:Str}(h:¬k ="number")(hz:oI z=true):Vg k (.str z):={by unfold hG;rw[if_neg h];exact hz,LM hz}
theorem Qv(k:Str):Vg k .ao:=⟨rfl,rfl⟩
inductive uD (ds:List D) (S:aw) (R:KD) (Z:KX):Prop where
 |mk (k:Str) (x:Int) (h0:ds=[.str k,.int x]) (h1:∀d,Vg k d->R d S)
theorem Ih(T:Txt w K mg t):Ok P w base T.vJ 1 uD:=by refine T.vJ.F.cP rq ?_;obtain⟨k,x,e,q⟩;refine{_,(sc (si (bL bG hr.u (bo bZ hr.u (dv 1) di) di) (s1<|sr dn) s0)<|sc (si (bL bG hr.u (dv 0) ds) (sc (ck (i:=2) rq.nd<|bo uh hr.u (bo bZ hr.u (bo e_ hr.u (dv 1) di)<|bo kN hr.u di di)<|bo kN hr.u di di)<|s1<|sr<|EM<|ix hr.u (bR<|ac di<|ac di<|ac di<|ac di<|ac (EG di)<|ac (EG di)<|al 2<|ac (bo Hb hr.u di<|dv 2) an)<|bo bZ hr.u (bo e_ hr.u (dv 1) di) di) s0)<|s1<|sr<|EM<|ix hr.u (bR<|ac ds<|ac ds<|ac ds<|ac ds<|ac ds<|ac ds<|ac ds<|ac ds an)<|bo bZ hr.u (bo e_ hr.u (dv 1) di) di),?_};refine !{by decide,_,rfl,bB (λ_=>fo<|q _<|Qv k) λ_=>!!⟨?_⟩};have i0:0<=x/5%8:=yd _ (by decide);have i1:x/5%8<8:=yb _ (by decide);refine bB (λh=>?_) λh=>?_;have h:k ="number":=zi h;have g0:0<=x/40%10^(15:Int).toNat:=yd _ (by decide);have g1:x/40%10^(15:Int).toNat<10^(15:Int).toNat:=yb _ (by decide);refine{_,rfl,{by decide,by trivial},{by decide,by decide,by decide},by decide,{by decide,by decide,by decide},.inl {Int.lt_of_lt_of_le (by decide) g0,Int.lt_trans g1<|by decide},?_};generalize x/40%10^(15:Int).toNat*10^(44:Int).toNat=gr;refine !!!!{Fe,λp hp=>!⟨{by decide,by trivial},by decide,dR i0 i1 hp λd hd=>?_⟩};have hd:d∈[D.int 0,.int 1,.int 2,.int 10,.int (-1),.int (-2),.int gr,.int<|0-gr]:=hd;simp only[zf,zD,or_false]at hd;rcases hd with rfl|rfl|rfl|rfl|rfl|rfl|rfl|rfl<;>exact fo (q _<|Qt h _);refine{Fe,λp hp=>!⟨{by decide,by trivial},by decide,dR i0 i1 hp λd hd=>?_⟩};have hd:d∈WDS.map D.str:=hd;obtain⟨z,hz,rfl⟩:=zj.mp hd;exact fo<|q _<|Qu (zM h)<|Qr z hz
inductive Ds (ds:List D) (S:aw) (R:KD) (Z:KX):Prop where
 |mk (x:Int) (h0:ds=[.int x]) (h1:∀z∈KS,R (.str z) S)
theorem Qw(T:Txt w K mg t):Ok P w base T.HX 1 Ds:=by
 refine T.HX.F.cP xX ?_;obtain⟨x,e,q⟩;refine{_,(sc (ck (i:=1) xX.nd<|EM<|ix hr.u (bR<|ac ds<|ac ds<|ac ds<|ac ds<|ac ds<|ac ds<|ac ds<|ac ds<|ac ds<|ac ds<|ac ds<|ac ds an)<|bo bZ hr.u (dv 0) di)<|s1<|sr<|bo bj hr.u (dv 1)<|EM<|ix hr.u (bR<|ac ds<|ac ds<|ac ds<|ac ds<|ac ds<|ac ds<|ac ds<|ac ds an)<|bo bZ hr.u (bo e_ hr.u (dv 0) di) di),?_};refine{Np,λp hp=>!{by decide,dR (yd _<|by decide) (yb _<|by decide) hp λd hd=>?_}};have hd:d∈KW.map D.str:=hd;obtain⟨a,ha,rfl⟩:=zj.mp hd;refine !{Fe,λp hp=>!⟨{by decide,by trivial},by decide,dR (yd _<|by decide) (yb _<|by decide) hp λd hd=>?_⟩};obtain⟨b,hb,rfl⟩:∃b∈KU,d=.str b:=by have hd:d∈[D.str "",.str "",.str "",.str "",.str "0",.str "b7",.str "zz",.str "9"]:=hd;simp only[zf,zD,or_false]at hd;rcases hd with h|h|h|h|h|h|h|h<;>exact{_,by simp,h}
 exact{sm<|VF a ha b hb,fo<|q _<|List.mem_flatMap.mpr {a,ha,zj.mpr ⟨b,hb,rfl⟩}}
theorem dE:∀{l:List α}{m:List β},Paired rel l m->∀{i:Nat}{b:β},m[i]?=some b->∃a,l[i]?=some a/\rel a b|_,_,.nil,_,_,h=>by simp at h|_,_,.cons r t,0,b,h=>(by rw[List.getElem?_cons_zero]at h⊢;cases h;exact{_,rfl,r})|_,_,.cons r t,i+1,b,h=>by rw[List.getElem?_cons_succ]at h⊢;exact dE t h
theorem uE:∀{l:List α}{m:List β},m.length=l.length->(∀(i:Nat) a b,l[i]?=some a->m[i]?=some b->rel a b)->Paired rel l m|[],[],_,_=>.nil|a::l,b::m,h,k=>.cons (k 0 a b rfl rfl)<|uE (by simpa using h) λi x y e1 e2=>k (i+1) x y (by rw[List.getElem?_cons_succ];exact e1)<|by rw[List.getElem?_cons_succ];exact e2
def Wg(cs:List<|Str×Str)(ws:List D):Prop:=Paired (λ(c:Str×Str) v=>Vg c.2 v) cs ws
noncomputable def rN(tr j:Nat):Str:=tI.getD ((tr+3*j)%8) ""
theorem Ii:∀tr<8,∀i<9,((List.range i).map<|rN tr).Nodup:=by trivial
theorem Qx(tr j:Nat):rN tr j∈tI:=by have:(tr+3*j)%8<8:=Nat.mod_lt _ (by decide);unfold rN;rw[zE,ze<|show(tr+3*j)%8<tI.length from this];exact List.getElem_mem _
theorem Qy(tr j:Nat):rN (tr%8) j=rN tr j:=by unfold rN;rw[show(tr%8+3*j)%8=(tr+3*j)%8 by lia]
def Cg(cs:List<|Str×Str):Prop:=Gd cs/\∀c∈cs,c.1∈tI
inductive oR (ds:List D) (S:aw) (R:KD) (Z:KX):Prop where
 |mk (c:Int) (h0:ds=[.int c]) (h1:∀cs,Cg cs->R (.tup<|cs.map aD) S)
theorem BX(T:Txt w K mg t):Ok P w base T.nQ 2 oR:=by
 refine T.nQ.F.cP cM ?_;obtain⟨c,e,q⟩;refine{_,(sc (ck (i:=1) cM.nd<|bC T.j9 (mJ T) hr<|al 0<|ac di an)<|sc (ck (i:=2) cM.nd<|bR<|ac ds<|ac ds<|ac ds<|ac ds<|ac ds<|ac ds<|ac ds<|ac ds an)<|sc (ck (i:=3) cM.nd<|EM<|ix hr.u (bR<|ac di<|ac di<|ac di<|ac di<|ac di<|ac di<|ac di<|ac di an)<|bo bZ hr.u (ix hr.u (dv 1) di) di)<|sc (ck (i:=4) cM.nd<|bR an)<|sc (pA<|Bw (Ld T.ft<|al 3 an) (gn (i:=5) cM.nd)<|sc (se<|bm zK zO zP ba (dv 4)<|ac (bw<|ac (ix hr.u (dv 2)<|bo bZ hr.u (bo bj hr.u (ix hr.u (dv 1) di)<|bo uh hr.u di<|dv 5) di)<|ac (EM<|ix hr.u (bR<|ac ds<|ac ds an)<|bo bZ hr.u (ix hr.u (dv 1) di) di) an) an)<|s1<|sls (dv 1) di<|bo e_ hr.u (ix hr.u (dv 1) di) di)<|s1<|sr<|ct pY T.cJ bN<|al 4 an),?_};refine !{c,3,rfl,by decide,λxs lx Qz hx Es=>?_};obtain⟨x0,x1,x2,rfl⟩:∃x0 x1 x2,xs=[x0,x1,x2]:=by match xs,Qz with|[a,b,c],_=>exact⟨a,b,c,rfl⟩
 obtain⟨tr,rfl⟩:=Int.eq_ofNat_of_zero_le<|hx x1 (by simp);refine{Fe,λln UX=>?_};have Ew:((S.set lx<|.lst<|[x0,((tr:Nat):Int),x2].map D.int).set ln<|.lst<|tI.map D.str) lx=some (.lst<|[x0,((tr:Nat):Int),x2].map D.int):=(ag<|ia aa UX).trans aa;have Na:((S.set lx<|.lst<|[x0,((tr:Nat):Int),x2].map D.int).set ln<|.lst<|tI.map D.str) ln=some (.lst<|tI.map D.str):=aa;have s1:=(Sub.new (c:=.lst<|[x0,((tr:Nat):Int),x2].map D.int) Es).trans<|.new (c:=.lst<|tI.map D.str) UX;have nxn:lx≠ln:=ia aa UX;rw[show[D.str "key",.str "a",.str "ab",.str "at",.str "up",.str "mark",.str "b",.str "price"]=tI.map D.str from rfl];generalize (S.set lx<|.lst<|[x0,((tr:Nat):Int),x2].map D.int).set ln (.lst<|tI.map D.str)=S1 at Ew Na s1⊢;refine{Fe,λp hp=>!{_,_,(Sub.new hp) _ _ Ew,rfl,by decide,dR (yd _<|by decide) (yb _<|by decide) hp λd hd=>?_}};obtain⟨m,rfl,hm⟩:∃m:Nat,d=.int m/\m<=8:=by have hd:d∈[D.int 1,.int 2,.int 3,.int 0,.int 2,.int 1,.int 8,.int 3]:=hd;simp only[zf,zD,or_false]at hd;rcases hd with h|h|h|h|h|h|h|h;exact{1,h,by decide};exact{2,h,by decide};exact{3,h,by decide};exact{0,h,by decide};exact{2,h,by decide};exact{1,h,by decide};exact{8,h,by decide};exact{3,h,by decide}
 refine{rC,λlf LL=>?_};have aec:S1 lx≠none:=by rw[Ew];nofun
 have nxf:lx≠lf:=ia Ew LL;have nnf:ln≠lf:=ia Na LL;have sz:=s1.trans<|Sub.new (c:=.lst []) LL;have aah:S lf=none:=by cases e:S lf with|none=>rfl|some z=>have:=s1 _ _ e;rw[LL]at this;cases this
 refine{λav S'=>∃(cs:List (Str×Str))(o6:Option D),av=[some<|.int c,some<|.ref lx,some<|.ref ln,some<|.int (m:Nat),some<|.ref lf,o6]/\Cg cs/\S' lf=some (.lst<|cs.map aD)/\Sub S S',?_,?_};refine !{((m:Nat):Int),rfl,by lia,by lia,?_};refine{λi av S'=>∃(cs:List (Str×Str))(y2:Int)(o6:Option D),av=[some<|.int c,some<|.ref lx,some<|.ref ln,some<|.int (m:Nat),some<|.ref lf,o6]/\cs.map Prod.fst=(List.range i).map (rN tr)/\(∀c∈cs,c.2 ="number"\/c.2 ="word")/\S' lx=some (.lst<|[x0,((tr:Nat):Int),y2].map D.int)/\S' ln=some (.lst<|tI.map D.str)/\S' lf=some (.lst<|cs.map aD)/\Sub S S',{[],x2,none,rfl,rfl,λ_ h=>(nomatch h),(ag nxf).trans Ew,(ag nnf).trans Na,aa,sz},λ_ _ _ _=>trivial,?_,?_};rintro i d av S' hd ⟨cs,y2,o6,rfl,hn,hk,hX,hN,hF,hs⟩;have hd:(gD 0 ((m:Nat):Int).toNat)[i]?=some d:=hd;obtain⟨hi,rfl⟩:=eQ hd;have A5:cs.length=i:=by have:=congrArg List.length hn;simpa using this
 have enm:kJ (tI.map D.str) ((((tr:Nat):Int)+3*(0+((i:Nat):Int)))%8)=some (.str<|rN tr i):=by rw[show(((tr:Nat):Int)+3*(0+((i:Nat):Int)))%8=(((tr+3*i)%8:Nat):Int) by lia];have eY:(tr+3*i)%8<8:=Nat.mod_lt _ (by decide);refine eM ?_;rw[zr];unfold rN;rw[zE,ze<|show(tr+3*i)%8<tI.length from eY];rfl
 refine{_,rfl,{rfl,_,hF},_,rfl,_,rfl,_,_,hX,rfl,_,rfl,.inl {by decide,by decide},by decide,_,_,hN,enm,fz,λp hp=>!{_,_,(Sub.new hp) _ _ hX,rfl,by decide,dR (yd _<|by decide) (yb _<|by decide) hp λd hd=>?_}};obtain⟨kd,rfl,hkd⟩:∃kd:Str,d=.str kd/\(kd ="number"\/kd ="word"):=by have hd:d∈[D.str "number",.str "word"]:=hd;simp only[zf,zD,or_false]at hd;rcases hd with h|h;exact{_,h,.inl rfl};exact{_,h,.inr rfl}
 refine{fz,lf,_,_,rfl,rfl,hF,bg<|by rw[zc];lia,?_};have Ij:(S'.set lf<|.lst<|cs.map aD++[.tup [.str<|rN tr i,.str kd]]) lx=some (.lst<|[x0,((tr:Nat):Int),y2].map D.int):=(ag nxf).trans hX;refine !{_,_,Ij,rfl,{by decide,by trivial},_,rfl,lx,_,2,2,rfl,rfl,Ij,rfl,?_};refine{cs++[(rN tr i,kd)],y2/2,_,rfl,?_,?_,aa,(ag nxn.symm).trans<|(ag nnf).trans hN,?_,λb x hb=>?_};rw[zH,hn,List.range_succ,zH];rfl;intro c hc;rcases zR.mp hc with h|h;exact hk c h;rw[zu.mp h];exact hkd;rw[ag nxf.symm,aa,zH];rfl;have hbx:b≠lx:=ia hb Es;rw[ag hbx,ag<|ia hb aah];exact hs b x hb;rintro av S' ⟨cs,y2,o6,rfl,hn,hk,hX,hN,hF,hs⟩;rw[show({gD 0 ((m:Nat):Int).toNat,λ_=>True}:vg).xs.length=((m:Nat):Int).toNat from dH,show((m:Nat):Int).toNat=m by lia]at hn;have A5:cs.length=m:=by have:=congrArg List.length hn;simpa using this
 have RC:∀c∈cs,c.1∈tI:=λc hc=>by have:c.1∈cs.map Prod.fst:=zj.mpr ⟨c,hc,rfl⟩;rw[hn]at this;obtain⟨j,_,e⟩:=zj.mp this;rw[<-e];exact Qx tr j
 have hnd:(cs.map Prod.fst).Nodup:=by rw[hn,zX λj _=>(Qy tr j).symm];exact Ii (tr%8) (Nat.mod_lt _<|by decide) m<|by lia
 exact fo {cs,_,rfl,{{by lia,hnd,λc hc=>{(Ig _<|RC c hc).1,hk c hc}},RC},hF,hs};rintro av S' ⟨cs,o6,rfl,hc,hF,hs⟩;exact !{_,_,rfl,.inl hF,S,hs,q cs hc}
inductive rO (ds:List D) (S:aw) (R:KD) (Z:KX):Prop where
 |mk (cs:List<|Str×Str) (l:Addr) (xs:List Int) (h0:ds=[.tup<|cs.map aD,.ref l]) (h1:Gd cs) (h2:S l=some (.lst<|xs.map D.int)) (h3:cs.length<=xs.length) (h4:∀ws,Wg cs ws->R (.tup ws) S)
theorem Fn(T:Txt w K mg t):Ok P w base T.rm 2 rO:=by
 refine T.rm.F.cP xY ?_;obtain⟨cs,l,xs,e,hg,hl,Qz,q⟩;have h8:=hg.1;refine{_,(s1<|sr<|ct pY T.cJ bN<|ac (Ax (N:=["_law_k","_law_xs","_law_columns_here"]) (src:=[none,some 1,some 0]) (oy (ae BG) ["_law_columns_here","_law_xs"] rfl rfl<|by trivial) (Ld T.ft<|ac (cb bz T.bc aQ<|al 0 an) an) (ur<|show(["_law_k","_law_xs","_law_columns_here"]:List Str).Nodup by trivial) (aY rfl) aZ (λ_ _ _ _ _=>wK) λ_ _ _ _ _=>(bC T.vJ (Ih T) hr<|ac (ix hr.u (ix hr.u (dv 2)<|dv 0) di)<|ac (ix hr.u (dv 1)<|dv 0) an)) an),?_};refine !!!{by rw[zc];lia,by rw[zc];lia,?_};rw[zc];refine rE (λd v=>∃(j:Nat) (c:Str×Str),d=.int (0+(j:Nat))/\cs[j]?=some c/\Vg c.2 v) trivial (by show(gD 0 _).length<=_;rw[dH];lia) (λd hd Q hQ=>?_) λout hp p oP=>?_;obtain⟨j,hj⟩:=List.getElem?_of_mem hd;have hj:(gD 0 ((cs.length:Nat):Int).toNat)[j]?=some d:=hj;obtain⟨hjn,rfl⟩:=eQ hj;have hjc:j<cs.length:=by lia
 have ec:=ze hjc;generalize cs[j]=c at ec;have ex:(xs.map D.int)[j]?=some (.int<|xs[j]'(by lia)):=by rw[zr,ze<|show j<xs.length by lia];rfl
 generalize xs[j]'_=x at ex;have ej:(0:Int)+((j:Nat):Int)=((j:Nat):Int):=Int.zero_add _;refine !!{aD c,by rw[ej];exact eM<|by rw[zr,ec];rfl,_,rfl,_,rfl,_,rfl,_,_,hl,by rw[ej];exact eM ex,c.2,x,rfl,λv hv=>hQ v ⟨j,c,rfl,ec,hv⟩};have hw:Wg cs out:=by have hlen:=Paired.length hp;rw[show({gD 0 ((cs.length:Nat):Int).toNat,λ_=>True}:vg).xs=gD 0 ((cs.length:Nat):Int).toNat from rfl,dH]at hlen;refine uE (by lia) λj c v ec ev=>?_;obtain⟨d,hd,j',c',e1,e2,hv⟩:=dE hp ev;have hd:(gD 0 ((cs.length:Nat):Int).toNat)[j]?=some d:=hd;obtain⟨_,e3⟩:=eQ hd;rw[e3]at e1;have e1:(0:Int)+((j:Nat):Int)=0+((j':Nat):Int):=D.int.inj e1;obtain rfl:j=j':=(by lia);rw[ec]at e2;cases e2;exact hv
 exact{_,out,rfl,.inl aa,S,.new oP,q out hw}
abbrev Kn:=List<|Str×List D
noncomputable def ib(kn:Kn):List (Key×D):=kn.map λr=>(Sum.inr r.1,D.tup r.2)
noncomputable def iM(kn:Kn)(z:Str):Option (List D):=(kn.find? λr=>decide<|r.1=z).map (·.2)
structure KI(cs:List (Str×Str))(kn:Kn):Prop where
 nd:(kn.map (·.1)).Nodup
 ok:∀r∈kn,r.1∈KS/\Wg cs r.2
theorem bF:iM (r::kn) k=if r.1=k then some r.2 else iM kn k:=by unfold iM;rw[z0];by_cases h:r.1=k;rw[zx h,if_pos h];rfl;rw[zq h,if_neg h]
theorem rP(kn:Kn)(k:Str):bS (ib kn) (.inr k)=(iM kn k).map D.tup:=by induction kn with|nil=>rfl|cons r kn ih=>rw[bF];unfold bS ib at *;rw[zJ,z0];by_cases h:r.1=k;have:decide ((Sum.inr r.1:Key)=.inr k)=true:=zx (by rw[h]);dsimp only;rw[this,if_pos h];rfl;have:decide ((Sum.inr r.1:Key)=.inr k)=false:=zq λe=>h<|yL e;dsimp only;rw[this,if_neg h];exact ih
theorem mK(h:iM kn k=some ws):(k,ws)∈kn:=by induction kn with|nil=>(cases h)|cons r kn ih=>rw[bF]at h;by_cases hk:r.1=k;rw[if_pos hk]at h;cases h;rw[<-hk];exact zp;rw[if_neg hk]at h;exact zh _<|ih h
theorem jR(h:k∈kn.map (·.1)):∃ws,iM kn k=some ws:=by induction kn with|nil=>(cases h)|cons r kn ih=>rw[bF];by_cases hk:r.1=k;exact{r.2,if_pos hk};rw[if_neg hk];rw[zJ]at h;rcases zf.mp h with e|h;exact absurd e.symm hk;exact ih h
theorem sub_len[DecidableEq α]:∀{l m:List α},l.Nodup->(∀x∈l,x∈m)->l.length<=m.length|[],m,_,_=>zZ _|a::l,m,nd,h=>by obtain⟨n1,n2⟩:=yn.mp nd;have h1:=sub_len (m:=m.erase a) n2 λx hx=>(List.mem_erase_of_ne λe=>n1<|by rw[<-e];exact hx).mpr<|h x<|zh _ hx;have h2:=List.length_erase_of_mem<|h a zp;have h3:0<m.length:=List.length_pos_of_mem<|h a zp;rw[zG];omega
theorem KI.len(h:KI cs kn):kn.length<=60:=by
 have:=sub_len h.nd (m:=KS) λx hx=>by obtain⟨r,hr,rfl⟩:=zj.mp hx;exact(h.ok r hr).1
 rw[zc]at this;exact zL this<|by trivial
noncomputable def pK(kn:Kn)(z:Str)(ws:List D):Kn:=if (iM kn z).isSome then kn.map λr=>if r.1=z then (r.1,ws) else r else kn++[(z,ws)]
noncomputable def v_(kn:Kn)(z:Str):Kn:=kn.filter λr=>decide<|r.1≠z
theorem Ik(kn:Kn)(z:Str)(ws:List D):dput (ib kn) (.inr z) (.tup ws)=ib (pK kn z ws):=by
 unfold dput pK;have e:((ib kn).any λkv=>decide<|kv.1=.inr z)=(iM kn z).isSome:=by induction kn with|nil=>rfl|cons r kn ih=>unfold ib at *;rw[zJ,yO,ih,bF];by_cases h:r.1=z;rw[if_pos h,zx<|by rw[h],Bool.true_or];rfl;rw[if_neg h,zq λe=>h<|yL e,yP]
 rw[e];split;unfold ib;rw[zB,zB];refine zX λr _=>?_;dsimp only[Function.comp];by_cases h:r.1=z;rw[if_pos h,if_pos<|by rw[h]];rw[if_neg h,if_neg λe=>h<|yL e];unfold ib;rw[zH];rfl
theorem QB(kn:Kn)(z:Str):xp (ib kn) (.inr z)=ib (v_ kn z):=by unfold xp v_ ib;rw[List.filter_map];congr 1;refine List.filter_congr λr _=>?_;dsimp only[Function.comp];rw[yE];exact{λh e=>h<|by rw[e],λh e=>h<|yL e}
theorem LN:iM (pK kn z ws) k=if k=z then some ws else iM kn k:=by
 unfold pK;by_cases hs:(iM kn z).isSome=true;rw[if_pos hs];by_cases hk:k=z;subst hk;rw[if_pos rfl];induction kn with|nil=>(cases hs)|cons r rs ih=>rw[zJ,bF];by_cases h:r.1=k;rw[if_pos h,if_pos h];rw[if_neg h,if_neg h];rw[bF,if_neg h]at hs;exact ih hs
 rw[if_neg hk];clear hs;induction kn with|nil=>rfl|cons r rs ih=>rw[zJ,bF,bF,ih];by_cases h:r.1=z;rw[if_pos h,if_neg<|show ¬r.1=k from λe=>hk<|e.symm.trans h,if_neg<|show ¬r.1=k from λe=>hk<|e.symm.trans h];rw[if_neg h]
 rw[if_neg hs];have hn:iM kn z=none:=by cases e:iM kn z<;>simp_all
 clear hs;induction kn with|nil=>rw[List.nil_append,bF];by_cases hk:k=z;rw[if_pos hk,if_pos hk.symm];rw[if_neg hk,if_neg λe=>hk e.symm]|cons r rs ih=>rw[bF]at hn;by_cases h:r.1=z;rw[if_pos h]at hn;cases hn;rw[if_neg h]at hn;rw[List.cons_append,bF,bF,ih hn];by_cases h2:r.1=k;rw[if_pos h2,if_pos h2,if_neg<|show ¬k=z from λe=>h<|h2.trans e];rw[if_neg h2,if_neg h2]
theorem LO:iM (v_ kn z) k=if k=z then none else iM kn k:=by unfold v_;induction kn with|nil=>(split<;>rfl)|cons r kn ih=>rw[List.filter_cons,bF];by_cases h:r.1=z;rw[if_neg<|by simp[h],ih];by_cases hk:k=z;rw[if_pos hk,if_pos hk];rw[if_neg hk,if_neg hk,if_neg<|show ¬r.1=k from λe=>hk<|e.symm.trans h];rw[if_pos<|by simp[h],bF,ih];by_cases hk:k=z;rw[if_pos hk,if_pos hk,if_neg<|show ¬r.1=k from λe=>h<|e.trans hk];rw[if_neg hk,if_neg hk]
theorem KI.put(h:KI cs kn)(hz:z∈KS)(hw:Wg cs ws):KI cs (pK kn z ws):=by
 unfold pK;split;refine{?_,λr hr=>?_};have:(kn.map λr=>if r.1=z then (r.1,ws) else r).map (·.1)=kn.map (·.1):=by rw[zB];exact zX λr _=>by dsimp only[Function.comp];split<;>rfl
 rw[this];exact h.nd;obtain⟨r0,wL,e⟩:=zj.mp hr;by_cases q:r0.1=z;rw[if_pos q]at e;subst e;exact{(h.ok r0 wL).1,hw};rw[if_neg q]at e;subst e;exact h.ok r0 wL;rename_i hs;refine{?_,λr hr=>?_};rw[zH];refine lY h.nd λm=>hs ?_;obtain⟨VG,e⟩:=jR m;show(iM kn z).isSome=true;rw[show iM kn z=some VG from e];rfl;rcases zR.mp hr with hr|hr;exact h.ok r hr;rw[zu.mp hr];exact⟨hz,hw⟩
theorem KI.del(h:KI cs kn)(z:Str):KI cs (v_ kn z):={(List.Sublist.map _ yA).nodup h.nd,λr hr=>h.ok r (yi.mp hr).1}
def GD(ks:List Str)(cs:List<|Str×Str)(kn:Kn)(d:D):Prop:=(∃z ws,z∈ks/\Wg cs ws/\iM kn z=none/\d=.tup [.str "put",.str z,.tup ws])\/(∃z ws,z∈KS/\Wg cs ws/\(iM kn z).isSome=true/\d=.tup [.str "change",.str z,.tup ws])\/∃z,z∈KS/\(iM kn z).isSome=true/\d=.tup [.str "take",.str z]
def Ly(S:aw)(n:Nat)(d:D):Prop:=∃p,Dp S d p/\p.canLay0=true/\p.depth<=n
theorem Ly.all:∀{ds:List D},(∀d∈ds,Ly S n d)->∃ps:List PyData,DpAll S ds ps/\PyData.canLayAll0 ps=true/\PyData.depthAll ps<=n/\ps.length=ds.length|[],_=>{[],by simp only[DpAll],rfl,zZ _,rfl}|d::ds,h=>by obtain⟨p,h1,h2,h3⟩:=h d zp;obtain⟨ps,k1,k2,k3,k4⟩:=Ly.all λx hx=>h x<|zh _ hx;refine{p::ps,by simp only[DpAll];exact⟨p,ps,rfl,h1,k1⟩,by simp only[PyData.canLayAll0,h2,k2,Bool.and_self],by simp only[PyData.depthAll];lia,by rw[zG,zG,k4]}
theorem Ly.tup{S:aw}{n:Nat}{ds:List D}(h:∀d∈ds,Ly S n d):Ly S (n+1) (.tup ds):=by obtain⟨ps,k1,k2,k3,_⟩:=Ly.all h;exact{.tuple ps,by simp only[Dp];exact⟨ps,rfl,k1⟩,by simp only[PyData.canLay0];exact k2,by simp only[PyData.depth];lia}
theorem Ly.str(h:PyData.strOk z=true):Ly S 0 (.str z):={.str z,by simp only[Dp],by simp only[PyData.canLay0];exact h,by simp only[PyData.depth];lia}
theorem Ly.le(h:Ly S n d)(l:n<=m):Ly S m d:=by obtain⟨p,a,b,c⟩:=h;exact{p,a,b,zL c l}
theorem Ly.ao:Ly S 0 .ao:={.none,by simp only[Dp],by simp only[PyData.canLay0],by simp only[PyData.depth];lia}
theorem Ly.plain(h:cT d=true):Ly S 0 d:=by cases d with|ao=>exact Ly.ao|int i=>exact{.int i,by simp only[Dp],by simp only[PyData.canLay0],by simp only[PyData.depth];lia}|str z=>have h:(decide (z.cps.size<=40)&&PyData.strOk z)=true:=h;rw[zQ]at h;exact Ly.str h.2|_=>cases h
theorem Ly.dl(h:Ly S n d):∃p,Dl S d p/\p.canLay0=true/\p.depth<=n:=by obtain⟨p,a,b,c⟩:=h;refine{p,?_,b,c};cases d with|ref x=>simp only[Dp]at a|_=>exact a
theorem Ly.lst{S:aw}{n:Nat}{a:Addr}{ds:List D}(e:S a=some (.lst ds))(h:∀d∈ds,Ly S n d):∃p,Dl S (.ref a) p/\p.canLay0=true/\p.depth<=n+1/\∀b,S b=some (.lst ds)->Dl S (.ref b) p:=by obtain⟨ps,k1,k2,k3,_⟩:=Ly.all h;exact{.list ps,⟨ds,ps,e,rfl,k1⟩,by simp only[PyData.canLay0];exact k2,by simp only[PyData.depth];lia,λb hb=>⟨ds,ps,hb,rfl,k1⟩}
theorem rQ{S:aw}{a b:Addr}{ds:List D}{R:KD}{neg:Bool}(e1:S a=some (.lst ds))(e2:S b=some (.lst ds))(h:∀d∈ds,Ly S 60 d)(q:R (.bl<|!neg) S):Hc neg (.ref a) (.ref b) S R:=by
 obtain⟨p,k1,k2,k3,k4⟩:=Ly.lst e1 h;have e:(if neg then !PyData.eqv p p else PyData.eqv p p)=!neg:=by rw[SeqAt.eqv_refl p k2];cases neg<;>rfl
 exact{p,p,k1,k4 b e2,k2,k2,.inl<|by lia,by rw[e];exact q}
theorem Wg.all(h:Wg cs ws):∀d∈ws,cT d=true:=by unfold Wg at h;induction h with|nil=>exact λ_ h=>(nomatch h)|cons r t ih=>intro d hd;rcases zf.mp hd with e|hd;rw[e];exact r.2;exact ih d hd
theorem Wg.ly{cs:List<|Str×Str}{ws:List D}(h:Wg cs ws){S:aw} : Ly S 1 (.tup ws):=Ly.tup λd hd=>Ly.plain<|h.all d hd
def Mo(sp:jm):jm:=λds S R Z=>∃R0 Z0,sp ds S R0 Z0/\(∀d S',R0 d S'->R d S')/\∀C S',Z0 C S'->Z C S'
theorem QC(F:bD P w K mg base (fi P w mg) k f fd ps<|qL K sp):bD P w K mg base (fi P w mg) k f fd ps (qL K<|Mo sp):=F.imp <| by rintro vs H Q E ⟨ds,S,R,Z,v,hS,⟨R0,Z0,h,h1,h2⟩,hR,hZ⟩;exact{ds,S,R0,Z0,v,hS,h,λd S' u H' r=>hR d S' u H'<|h1 _ _ r,λC S' H' z=>hZ C S' H'<|h2 _ _ z}
abbrev Nu:=jP
abbrev x_:=fU
abbrev Il:=iL
def KnD(kn:Kn)(d:D)(qd:Kn):Prop:=(∃(n:Str) (z:Str) (ws:List D),(n ="put"\/n ="change")/\d=.tup [.str n,.str z,.tup ws]/\qd=pK kn z ws)\/∃z,(iM kn z).isSome=true/\d=.tup [.str "take",.str z]/\qd=v_ kn z
inductive BY (t:eZ) (ds:List D) (S:aw) (R:KD) (Z:KX):Prop where
 |mk (a fs) (h0:S a=some (.ins t.aj fs)) (h1:fs.map Prod.fst=(["columns","deeds","runs"]:List Str)) (h2:((∃k v,ds=[.ref a,.tup [.str "put",k,v]]/\Nu t [.ref a,k,v] S R Z)\/(∃k v,ds=[.ref a,.tup [.str "change",k,v]]/\x_ t [.ref a,k,v] S R Z)\/∃k,ds=[.ref a,.tup [.str "take",k]]/\Il t [.ref a,k] S R Z))
theorem lk0:∀{fs:List (Str×D)},m∉fs.map Prod.fst->fs.lookup m=none|[],_=>rfl| (a,b)::fs,h=>by rw[zJ,zf]at h;rw[zN,show(m==a)=false from beq_false_of_ne λe=>h<|.inl e];exact lk0 λq=>h<|.inr q
theorem lk3{fs:List<|Str×D}(h:fs.map Prod.fst=(["columns","deeds","runs"]:List Str)){m:Str}(hm:m∉(["columns","deeds","runs"]:List Str)):fs.lookup m=none:=lk0<|by rw[h];exact hm
def Nv(t:eZ):jm:=λds S R Z=>BY t ds S (λ_=>R .ao) Z
theorem LP(T:Txt w K mg t):Ok P w base T.vL 7 (Nv t):=by have jS:oE P w mg base T.fE 6 (Mo<|Nu t):=QC<|Qo T;have fV:oE P w mg base T.cL 6 (Mo<|x_ t):=QC<|Fm T;have iN:oE P w mg base T.eE 6 (Mo<|Il t):=QC<|LJ T;refine T.vL.F.ok Fc (λds S R Z ⟨_,_,_,_,h⟩=>by rcases h with⟨_,_,e,_⟩|⟨_,_,e,_⟩|⟨_,e,_⟩<;>rw[e]<;>rfl) λeL A outer s H E ds S R Z hr ⟨a,fs,ha,hf,h⟩=>?_;rcases h with⟨k,v,e,h⟩|⟨k,v,e,h⟩|⟨k,e,h⟩;subst e;refine{_,(s1<|si (bL bG hr.u (ix hr.u (dv 1) di) ds) (s1<|se<|pC (dv 0) T.ai T.fE jS hr<|ac (ix hr.u (dv 1) di)<|ac (ix hr.u (dv 1) di) an)<|s1<|si (bL bG hr.u (ix hr.u (dv 1) di) ds) (s1<|se<|pC (dv 0) T.ai T.cL fV hr<|ac (ix hr.u (dv 1) di)<|ac (ix hr.u (dv 1) di) an)<|s1<|se<|pC (dv 0) T.ai T.eE iN hr<|ac (ix hr.u (dv 1) di) an),?_};refine !!!⟨?_⟩;refine bB (λ_=>?_) λh=>absurd h (by decide);exact !{a,_,rfl,ha,lk3 hf<|by decide,_,rfl,_,rfl,_,rfl,_,rfl,_,Z,h,λd S' r=>fo r,λC S' z=>fo z};subst e;refine{_,(s1<|si (bL bG hr.u (ix hr.u (dv 1) di) ds) (s1<|se<|pC (dv 0) T.ai T.fE jS hr<|ac (ix hr.u (dv 1) di)<|ac (ix hr.u (dv 1) di) an)<|s1<|si (bL bG hr.u (ix hr.u (dv 1) di) ds) (s1<|se<|pC (dv 0) T.ai T.cL fV hr<|ac (ix hr.u (dv 1) di)<|ac (ix hr.u (dv 1) di) an)<|s1<|se<|pC (dv 0) T.ai T.eE iN hr<|ac (ix hr.u (dv 1) di) an),?_};refine !!!⟨?_⟩;refine bB (λh=>absurd h<|by decide) λ_=>?_;refine !!!⟨?_⟩;refine bB (λ_=>?_) λh=>absurd h (by decide);exact !{a,_,rfl,ha,lk3 hf<|by decide,_,rfl,_,rfl,_,rfl,_,rfl,_,Z,h,λd S' r=>fo r,λC S' z=>fo z};subst e;refine{_,(s1<|si (bL bG hr.u (ix hr.u (dv 1) di) ds) (s1<|se<|pC (dv 0) T.ai T.fE jS hr<|ac (ix hr.u (dv 1) di)<|ac (ix hr.u (dv 1) di) an)<|s1<|si (bL bG hr.u (ix hr.u (dv 1) di) ds) (s1<|se<|pC (dv 0) T.ai T.cL fV hr<|ac (ix hr.u (dv 1) di)<|ac (ix hr.u (dv 1) di) an)<|s1<|se<|pC (dv 0) T.ai T.eE iN hr<|ac (ix hr.u (dv 1) di) an),?_};refine !!!⟨?_⟩;refine bB (λh=>absurd h<|by decide) λ_=>?_;refine !!!⟨?_⟩;refine bB (λh=>absurd h<|by decide) λ_=>?_;exact !{a,_,rfl,ha,lk3 hf<|by decide,_,rfl,_,rfl,_,Z,h,λd S' r=>fo r,λC S' z=>fo z}
theorem kd_sub(h:Sub S S')(hk:Pq S d k):Pq S' d k:=by cases d with|ref a=>(rcases hk with⟨rfl,ds,e⟩|⟨rfl,ds,e⟩;exact .inl {rfl,ds,h _ _ e};exact .inr {rfl,ds,h _ _ e})|_=>exact hk
theorem Gt.sub(h:Sub S S')(g:Gt S d):Gt S' d:=by obtain⟨k,hk⟩:=g.1;exact{{k,kd_sub h hk},g.2}
theorem Im(h:l.length=1):∃a,l=[a]:=by cases l with|nil=>(cases h)|cons a l=>exact{a,by rw[List.eq_nil_of_length_eq_zero<|yR h]}
theorem QD(h:l.length=2):∃a b,l=[a,b]:=by cases l with|nil=>(cases h)|cons a l=>obtain⟨b,rfl⟩:=Im<|yR h;exact⟨a,b,rfl⟩
theorem aal(h:l.length=3):∃a b c,l=[a,b,c]:=by cases l with|nil=>(cases h)|cons a l=>obtain⟨b,c,rfl⟩:=QD<|yR h;exact⟨a,b,c,rfl⟩
def Qd(S:aw):Nat->D->Prop|0,d=>Gt S d|n+1,d=>Gt S d/\∀ws,d=.tup ws->ws.length<=1000/\∀v∈ws,Qd S n v
theorem Qd.gt(h:Qd S n d):Gt S d:=by cases n<;>first|exact h|exact h.1
theorem Qd.in(h:Qd S (n+1)<|.tup ws):ws.length<=1000/\∀v∈ws,Qd S n v:=h.2 ws rfl
theorem Qd.sub(b:Sub S S'):∀{n:Nat}{d:D},Qd S n d->Qd S' n d:=by intro n;induction n with|zero=>exact λh=>Gt.sub b h|succ n ih=>exact λh=>{h.1.sub b,λws e=>{(h.2 ws e).1,λv hv=>ih<|(h.2 ws e).2 v hv}}
def QA(S:aw)(d:D):Prop:=∀n,Qd S n d
theorem QA.sub(b:Sub S S')(h:QA S d):QA S' d:=λn=>(h n).sub b
theorem QA.in(h:QA S<|.tup ws)(hv:v∈ws):QA S v:=λn=>(h<|n+1).in.2 v hv
theorem jT(hl:ws.length<=1000)(h:∀v∈ws,QA S v):QA S (.tup ws):=λn=>by have g:Gt S (.tup ws):={{.tup,rfl},λ_=>nofun};cases n with|zero=>exact g|succ n=>exact{g,λVG e=>by cases e;exact{hl,λv hv=>h v hv n}}
theorem Du(g:Gt S d)(n:∀ws,d≠.tup ws):QA S d:=λk=>by cases k with|zero=>exact g|succ k=>exact{g,λws e=>absurd e<|n ws}
noncomputable def p3(p:Str×Str×Str):D:=.tup [.str p.1,.str p.2.1,.str p.2.2]
noncomputable def eJ(z:Str):Bool:=decide (z ="up")||decide (z ="down")
noncomputable def tJ(z:Str):Bool:=decide (z ="first")||decide (z ="last")
theorem Nw(z a b:Str)(x y:V):(([(a,x),(b,y)]:List (Str×V)).lookup z).isSome=(decide (z=a)||decide (z=b)):=by rw[zN,zN];by_cases h:z=a;rw[show(z==a)=true by simp[h],zx h];rfl;rw[show(z==a)=false by simp[h],zq h];by_cases h2:z=b;rw[show(z==b)=true by simp[h2],zx h2];rfl;rw[show(z==b)=false by simp[h2],zq h2];rfl
noncomputable def yU(cs:List<|Str×Str)(p:Str×Str×Str):Bool:=decide (p.1∈cs.map Prod.fst)&&(eJ p.2.1&&tJ p.2.2)
noncomputable def Io(cs:List<|Str×Str)(ps:List<|Str×Str×Str)(wy:Str):Bool:=decide (ps.length<=8)&&(ps.all (yU cs)&&(decide ((ps.map Prod.fst).Nodup)&&eJ wy))
noncomputable def uf(cs:List<|Str×Str):D->D|.str z=>(match cs.find? (λc=>decide<|c.1=z) with|some c=>.str c.2|none=>.ao)|_=>.ao
theorem Iq(hg:Gd cs)(h:(z,k)∈cs):uf cs (.str z)=.str k:=by unfold uf;cases e:cs.find? (λc=>decide<|c.1=z) with|none=>exact absurd (zx rfl) (List.find?_eq_none.mp e _ h)|some c=>have h0:decide (c.1=z)=true:=List.find?_some (p:=λc:Str×Str=>decide<|c.1=z) e;have h1:c.1=z:=zi h0;have:=iJ hg.2.1 (List.mem_of_find?_eq_some e) h h1;subst this;dsimp only;rw[e]
theorem qf(h:z∉cs.map Prod.fst):uf cs (.str z)=.ao:=by unfold uf;dsimp only;rw[List.find?_eq_none.mpr λc hc e=>h<|zj.mpr {c,hc,zi e}]
theorem LQ(hg:Gd cs)(z:Str):ah (uf cs<|.str z)=!decide (z∈cs.map Prod.fst):=by by_cases h:z∈cs.map Prod.fst;obtain⟨c,hc,rfl⟩:=zj.mp h;rw[Iq hg (k:=c.2) hc,zx h];rfl;rw[qf h,zq h];rfl
noncomputable def bT(cs:List<|Str×Str):D->Bool|.tup [n,w,e]=>(!ah (uf cs n))&&(ofStr eJ w&&ofStr tJ e)|_=>false
noncomputable def R5:D->Str|.tup (.str z::_)=>z|_=>""
noncomputable def f_(cs:List<|Str×Str):D->Bool|.tup [.tup ps,w]=>decide (ps.length<=8)&&(ps.all (bT cs)&&(decide ((ps.map R5).Nodup)&&ofStr eJ w))|_=>false
theorem Ir(hg:Gd cs)(p:Str×Str×Str):bT cs (p3 p)=yU cs p:=by show((!ah (uf cs<|.str p.1))&&(eJ p.2.1&&tJ p.2.2))=_;rw[LQ hg,Bool.not_not];rfl
theorem Iu(h:bT cs d=true):∃p,d=p3 p:=by
 unfold bT at h;split at h;rename_i n w e;simp only[zQ]at h;obtain⟨h1,h2,h3⟩:=h;obtain⟨z1,rfl⟩:∃z,n=.str z:=by cases n<;>first|exact{_,rfl}|cases h1
 obtain⟨z2,rfl⟩:∃z,w=.str z:=by cases w<;>first|exact{_,rfl}|cases h2
 obtain⟨z3,rfl⟩:∃z,e=.str z:=by cases e<;>first|exact{_,rfl}|cases h3
 exact{(z1,z2,z3),rfl};cases h
theorem Iv:∀{ps:List D},ps.all (bT cs)=true->∃qs:List (Str×Str×Str),ps=qs.map p3:=by intro ps;induction ps with|nil=>exact λ_=>{[],rfl}|cons p ps ih=>intro h;rw[List.all_cons,zQ]at h;obtain⟨q,rfl⟩:=Iu h.1;obtain⟨qs,rfl⟩:=ih h.2;exact{q::qs,rfl}
theorem Nx(qs:List<|Str×Str×Str):(qs.map p3).map R5=qs.map Prod.fst:=by rw[zB];rfl
theorem uF(hg:Gd cs)(ps:List<|Str×Str×Str)(wy:Str):f_ cs (.tup [.tup<|ps.map p3,.str wy])=Io cs ps wy:=by show(decide ((ps.map p3).length<=8)&&((ps.map p3).all (bT cs)&&(decide (((ps.map p3).map R5).Nodup)&&eJ wy)))=_;rw[zc,Nx,List.all_map,show(bT cs ∘ p3)=yU cs from funext λp=>Ir hg p];rfl
theorem wa(l:List<|Str×D)(z:Str)(h:bS (qN l) (.inr z)=some d):∃p∈l,p.1=z/\d=p.2:=by
 have all:∀(l:List (Str×D))(c:List (Key×D)),bS (l.foldl (λc p=>dput c (.inr p.1) p.2) c) (.inr z)=some d->(∃p∈l,p.1=z/\d=p.2)\/bS c (.inr z)=some d:=by intro l;induction l with|nil=>intro c h;exact .inr h|cons p l ih=>intro c h;rcases ih _ h with⟨q,hq,e⟩|h;exact .inl {q,zh _ hq,e};rw[xx]at h;by_cases e:(.inr z:Key)=.inr p.1;rw[if_pos e]at h;exact .inl {p,zp,(yL e).symm,(zU h).symm};rw[if_neg e]at h;exact .inr h
 rcases all l [] h with h|h;exact h;cases h
def Pok(p:Str×Str×Str):Prop:=p.1.cps.size<=1000/\p.2.1.cps.size<=1000/\p.2.2.cps.size<=1000
theorem uG(T:Txt w K mg t):Ok P w base T.vG 1 (xZ<|ofStr eJ):=by refine T.vG.F.JM E9 ?_;rintro _ _ _ _ _ _ ds S R Z hr ⟨d,e,⟨⟨k,hk⟩,hz⟩,q⟩;subst e;refine{_,(s1<|sr<|sY (cb dX T.ay au<|al 0<|ac (wI T.qZ k_) an)<|JJ<|cmk T.xP (dv 0)<|dg (v:=.ref t.jq) T.vq rfl λ_=>d9 _),?_};refine !{_,_,_,_,rfl,ik,hk,_,rfl,?_};rcases nW hk with⟨z,rfl,h0⟩|⟨h0,h1⟩;rw[h0];refine cw !{z,rfl,rfl,?_};rw[Nw];exact fo q;rw[h1]at q;rw[h0];exact bY<|fo q
theorem Fp(T:Txt w K mg t):Ok P w base T.BJ 1 (xZ<|ofStr tJ):=by refine T.BJ.F.JM E_ ?_;rintro _ _ _ _ _ _ ds S R Z hr ⟨d,e,⟨⟨k,hk⟩,hz⟩,q⟩;subst e;refine{_,(s1<|sr<|sY (cb dX T.ay au<|al 0<|ac (wI T.qZ k_) an)<|JJ<|cmk T.xQ (dv 0)<|dg (v:=.ref t.jr) T.vt rfl λ_=>d9 _),?_};refine !{_,_,_,_,rfl,ik,hk,_,rfl,?_};rcases nW hk with⟨z,rfl,h0⟩|⟨h0,h1⟩;rw[h0];refine cw !{z,rfl,rfl,?_};rw[Nw];exact fo q;rw[h1]at q;rw[h0];exact bY<|fo q
def QE:jm:=λds S R _=>∃cs d,ds=[.tup<|cs.map aD,d]/\Gd cs/\Gt S d/\R (uf cs d) S
theorem kT(T:Txt w K mg t):Ok P w base T.iz 3 QE:=by
 refine T.iz.F.JM tj ?_;rintro _ _ _ _ _ _ ds S R Z hr ⟨cs,d,e,hg,hz,q⟩;subst e;refine{_,(sc (si (dG<|tv<|bC T.p8 (rG T) hr<|al 1 an) (s1<|sr dn) s0)<|s1<|sr<|mg1 hr.u (ct PK T.Qj Kw<|al 0 an)<|dv 1),?_};refine !{d,rfl,hz,_,rfl,?_};refine bB (λh=>?_) λh=>?_;have h:ofStr jK d=false:=nt h;have e:uf cs d=.ao:=by cases d with|str z=>(refine qf λm=>?_;obtain⟨c,hc,rfl⟩:=zj.mp m;have h:jK c.1=false:=h;rw[(hg.2.2 c hc).1]at h;cases h)|_=>rfl
 rw[e]at q;exact fo q;have h:ofStr jK d=true:=nf h;cases d with|str z=>(have ek:cs.map aD=(cs.map λc=>(c.1,D.str c.2)).map Hs:=(by rw[zB];rfl);refine !{(cs.map λc=>(c.1,D.str c.2)),by rw[ek],λp hp=>{p,_,rfl,aa,_,rfl,_,.inr z,aa,rfl,S,.new hp,?_}};have h1:=EN (cs.map λc=>(c.1,D.str c.2)) z;cases q3:bS (qN<|cs.map λc=>(c.1,D.str c.2)) (.inr z) with|none=>(rw[q3]at h1;rw[qf λm=>?_]at q;exact q;obtain⟨c,hc,e⟩:=zj.mp m;have:(cs.map λc=>(c.1,D.str c.2)).any (λp=>decide<|p.1=z)=true:=List.any_eq_true.mpr {_,zj.mpr ⟨c,hc,rfl⟩,zx e};rw[this]at h1;cases h1)|some d=>obtain⟨p,hp,e1,rfl⟩:=wa _ _ q3;obtain⟨c,hc,rfl⟩:=zj.mp hp;have e1:c.1=z:=e1;rw[Iq hg (k:=c.2)<|by rw[<-e1];exact hc]at q;exact q)|_=>cases h
theorem BZ(T:Txt w K mg t):Ok P w base T.vH 4 (λds S R _=>∃cs d,ds=[.tup<|cs.map aD,d]/\Gd cs/\Qd S 1 d/\R (.bl<|bT cs d) S):=by
 refine T.vH.F.JM BO ?_;rintro _ _ _ _ _ _ ds S R Z hr ⟨cs,d,e,hg,hp,q⟩;subst e;obtain⟨k,hk⟩:=hp.1.1;refine{_,(sc (si (twd<|twor (dG<|tv<|cb dX T.ay au<|al 1<|ac (wI T.cJ bN) an)<|tw1<|bL px hr.u (cb bz T.bc aQ<|al 1 an) di) (s1<|sr db) s0)<|s1<|sr<|sY (cm qI hr.u (bC T.iz (kT T) hr<|al 0<|ac (ix hr.u (dv 1) di) an) dn)<|sY (bC T.vG (uG T) hr<|ac (ix hr.u (dv 1) di) an)<|JJ<|bC T.BJ (Fp T) hr<|ac (ix hr.u (dv 1) di) an),?_};refine !{_,_,_,_,rfl,cI,hk,_,rfl,?_};rcases nX hk with⟨ws,rfl,h0⟩|⟨h0,h1⟩;rw[h0];refine bY !!!⟨?_⟩;refine bB (λh=>?_) λh=>?_;have h:¬((ws.length:Nat):Int)=3:=zM<|nt h;have e:bT cs (.tup ws)=false:=by unfold bT;split;rename_i e;cases e;exact absurd rfl h;rfl
 rw[e]at q;exact fo q;have h:((ws.length:Nat):Int)=3:=zi<|nf h;obtain⟨a,b,c,rfl⟩:∃a b c,ws=[a,b,c]:=by exact aal<|by omega
 have gi:=hp.in.2;have q:R (.bl<|(!ah (uf cs a))&&(ofStr eJ b&&ofStr tJ c)) S:=q;refine !!!{cs,a,rfl,hg,gi a<|by simp,_,rfl,?_};refine bB (λh=>?_) λh=>?_;have h:(!ah (uf cs a))=true:=h;rw[h,zV]at q;refine !!{b,rfl,gi b<|by simp,_,rfl,?_};refine bB (λh2=>?_) λh2=>?_;rw[h2,zV]at q;exact !!{c,rfl,gi c<|by simp,fo q};rw[h2,zW]at q;exact fo q;have h:(!ah (uf cs a))=false:=h;rw[h,zW]at q;exact fo q;rw[h0];have e:bT cs d=false:=by unfold bT;split;exact absurd rfl<|h1 _;rfl
 rw[e]at q;exact cw<|fo q
def aam(t:eZ):jm:=λds S R Z=>∃cs d,ds=[.tup<|cs.map aD,d]/\Gd cs/\Qd S 3 d/\(f_ cs d=true->R .ao S)/\(f_ cs d=false->Z t.aK S)
theorem rR(T:Txt w K mg t):Ok P w base T.jA 5 (aam t):=by
 refine T.jA.F.JM fS ?_;rintro _ _ _ _ _ _ ds S R Z hr ⟨cs,d,e,hg,hq,q1,q2⟩;subst e;obtain⟨k,hk⟩:=hq.1.1;refine{_,(sc (si (twd<|twor (dG<|tv<|cb dX T.ay au<|al 1<|ac (wI T.cJ bN) an)<|tw1<|bL px hr.u (cb bz T.bc aQ<|al 1 an) di) (s1<|wJ ⟨T.cy⟩ T.dD<|ac ds an) s0)<|sc (ck (i:=2) fS.nd<|ix hr.u (dv 1) di)<|sc (si (twd<|twor (dG<|tv<|cb dX T.ay au<|al 2<|ac (wI T.cJ bN) an)<|tw1<|bL sZ hr.u (cb bz T.bc aQ<|al 2 an)<|dg (v:=.int 8) T.jt {_,rfl} λ_=>aP _) (s1<|wJ ⟨T.cy⟩ T.dD<|ac ds an) s0)<|sc (si (dG<|tv<|cb l9 T.mn ij<|ac (Ax (N:=["part","columns"]) (src:=[none,some 0]) (oy (ae kO) ["columns","order","parts","names"] rfl rfl<|by trivial) (Lb<|dv 2) (ur<|show(["part","columns"]:List Str).Nodup by trivial) (aY rfl) aZ (λ_ _ _ _ _=>wK) λ_ _ _ _ _=>(bC T.vH (BZ T) hr<|al 1<|al 0 an)) an) (s1<|wJ ⟨T.cy⟩ T.dD<|ac ds an) s0)<|sc (RL (i:=3) (N:=["part"]) (src:=[none]) fS.nd (oy (ae kO) ["columns","order","parts","names"] rfl rfl<|by trivial) (Lb<|dv 2) (ur<|show(["part"]:List Str).Nodup by trivial) (aY rfl) aZ (λ_ _ _ _ _=>wK) λ_ _ _ _ _=>(ix hr.u (dv 0) di))<|sc (si (bL px hr.u (lse (dv 3) T.bc T.Nl)<|cb bz T.bc aQ<|al 3 an) (s1<|wJ ⟨T.cy⟩ T.dD<|ac ds an) s0)<|s1<|si (dG<|tv<|bC T.vG (uG T) hr<|ac (ix hr.u (dv 1) di) an) (s1<|wJ ⟨T.cy⟩ T.dD<|ac ds an) s0),?_};refine !{_,_,_,_,rfl,cI,hk,_,rfl,?_};rcases nX hk with⟨ws,rfl,h0⟩|⟨h0,h1⟩;rotate_left;rw[h0];refine cw {gJ,fo<|q2 ?_};unfold f_;split;exact absurd rfl<|h1 _;rfl;rw[h0];refine bY !!!⟨?_⟩;refine bB (λh=>?_) λh=>?_;have h:¬((ws.length:Nat):Int)=2:=zM<|nt h;refine{gJ,fo<|q2 ?_};unfold f_;split;rename_i e;cases e;exact absurd rfl h;rfl;have h:((ws.length:Nat):Int)=2:=zi<|nf h;obtain⟨x,y,rfl⟩:∃a b,ws=[a,b]:=by exact QD<|by omega
 have gx:=hq.in.2 x (by simp);have gy:=(hq.in.2 y<|by simp).gt;obtain⟨k2,b8⟩:=gx.gt.1;refine !!!{_,_,_,_,rfl,cI,b8,_,rfl,?_};rcases nX b8 with⟨ps,rfl,h2⟩|⟨h2,h3⟩;rotate_left;rw[h2];refine cw {gJ,fo<|q2 ?_};unfold f_;split;rename_i e;cases e;exact absurd rfl<|h3 _;rfl;rw[h2];refine bY !!!⟨?_⟩;have q1:(decide (ps.length<=8)&&(ps.all (bT cs)&&(decide ((ps.map R5).Nodup)&&ofStr eJ y)))=true->R .ao S:=q1;have q2:(decide (ps.length<=8)&&(ps.all (bT cs)&&(decide ((ps.map R5).Nodup)&&ofStr eJ y)))=false->Z t.aK S:=q2;refine bB (λh=>?_) λh=>?_;have h:(8:Int)<((ps.length:Nat):Int):=zi h;exact{gJ,fo<|q2<|by rw[zq<|by omega];rfl};have h:¬(8:Int)<((ps.length:Nat):Int):=zM h;have h8:ps.length<=8:=by omega
 rw[zx h8,zV]at q1 q2;refine !{_,.inl rfl,?_};refine comp_map (λd=>.bl<|bT cs d) trivial (by show ps.length<=_;omega) (λd hd Q hQ=>?_) λp oP=>?_;exact !!{cs,d,rfl,hg,gx.in.2 d hd,hQ};have eo:ps.map (λd=>D.bl<|bT cs d)=(ps.map<|bT cs).map D.bl:=by rw[zB];rfl
 rw[show({ps,λ_=>True}:vg).xs=ps from rfl,eo];refine{.ref p,ps.map<|bT cs,rfl,aa,_,rfl,?_};rw[show(ps.map<|bT cs).all id=ps.all (bT cs) from all_map];refine bB (λha=>?_) λha=>?_;have ha:=nt ha;exact{gJ,S,.new oP,q2<|by rw[ha];rfl};have ha:=nf ha;rw[ha,zV]at q1 q2;obtain⟨qs,rfl⟩:=Iv ha;rw[Nx]at q1 q2;rw[zc]at h8;refine !{_,.inl rfl,?_};refine comp_map (λd=>match d with|.tup (x::_)=>x|_=>.ao) trivial (by show(qs.map p3).length<=_;rw[zc];omega) (λd hd Q hQ=>?_) λp2 lP=>?_;obtain⟨p,Xd,rfl⟩:=zj.mp hd;exact !!⟨hQ⟩;have e3:(qs.map p3).map (λd=>match d with|.tup (x::_)=>x|_=>.ao)=(qs.map Prod.fst).map D.str:=by rw[zB,zB];rfl
 rw[show({qs.map p3,λ_=>True}:vg).xs=qs.map p3 from rfl,e3];have sb:=(Sub.new (c:=.lst<|((qs.map p3).map<|bT cs).map D.bl) oP).trans<|.new (c:=.lst<|(qs.map Prod.fst).map D.str) lP;have VE:((S.set p<|.lst<|((qs.map p3).map<|bT cs).map D.bl).set p2<|.lst<|(qs.map Prod.fst).map D.str) p2=some (.lst<|(qs.map Prod.fst).map D.str):=aa;generalize (S.set p<|.lst<|((qs.map p3).map<|bT cs).map D.bl).set p2 (.lst<|(qs.map Prod.fst).map D.str)=S2 at sb VE⊢;refine !{qs.map Prod.fst,VE,by rw[zc];omega,_,rfl,_,rfl,.inl {_,VE,_,rfl,?_}};have e4:decide ((((iS<|qs.map Prod.fst).length:Nat):Int)=((((qs.map Prod.fst).map D.str).length:Nat):Int))=decide ((qs.map Prod.fst).Nodup):=by rw[yE,<-ue,zc];omega
 refine bB (λhn=>?_) λhn=>?_;have hn:(!decide ((((iS<|qs.map Prod.fst).length:Nat):Int)=((((qs.map Prod.fst).map D.str).length:Nat):Int)))=true:=hn;rw[e4]at hn;exact{gJ,S,sb,q2<|by rw[nt hn];rfl};have hn:(!decide ((((iS<|qs.map Prod.fst).length:Nat):Int)=((((qs.map Prod.fst).map D.str).length:Nat):Int)))=false:=hn;rw[e4]at hn;rw[nf hn,zV]at q1 q2;refine !!{y,rfl,gy.sub sb,_,rfl,?_};refine bB (λhw=>?_) λhw=>?_;exact{gJ,S,sb,q2<|nt hw};exact{S,sb,q1<|nf hw}
def Iw(o:Str)(c:Str×Str)(v:D):Prop:=o ="is"\/(v≠.ao/\(o ="below"\/o ="above"\/(o ="begins"/\c.2 ="word")))
def Lf(cs:List<|Str×Str)(d:D):Prop:=d=.tup [.str "every"]\/(∃ks:List Str,d=.tup [.str "key",.tup<|ks.map .str]/\ks.length<=8/\∀k∈ks,k∈KS)\/∃(o:Str) (c:Str×Str) (v:D),c∈cs/\Vg c.2 v/\Iw o c v/\d=.tup [.str o,.str c.1,v]
def Sg(cs:List<|Str×Str):Nat->D->Prop|0,_=>False|n+1,d=>Lf cs d\/(∃e,d=.tup [.str "not",e]/\Sg cs n e)\/∃(o:Str) (ds:List D),(o ="and"\/o ="or")/\d=.tup [.str o,.tup ds]/\ds.length<=8/\∀e∈ds,Sg cs n e
noncomputable def inS:D->List D|.tup [.str o,.tup ds]=>(if o ="not" then[.tup ds] else if o ="and"\/o ="or" then ds else[])|.tup [.str o,e]=>(if o ="not" then[e] else[])|_=>[]
noncomputable def szS:Nat->D->Nat|0,_=>0|n+1,d=>((inS d).map<|szS n).sum+1
def Sq(cs:List<|Str×Str)(d:D):Prop:=Sg cs 7 d/\szS 7 d<=200
noncomputable def QF:D->Bool|.tup es=>decide (es.length<=8)|_=>false
noncomputable def Iy(cs:List<|Str×Str)(o:Str)(x v:D):Bool:=match uf cs x with|.str k=>hG k v&&(decide (o ="is")||((!(decide (o ="begins") && !decide (k ="word"))) && !ah v))|_=>false
theorem oS(T:Txt w K mg t):Ok P w base T.dN 1 (xZ QF):=by
 refine T.dN.F.JM mx ?_;rintro _ _ _ _ _ _ ds S R Z hr ⟨d,e,⟨⟨k,hk⟩,hz⟩,q⟩;subst e;refine{_,(s1<|sr<|sY (cb dX T.ay au<|al 0<|ac (wI T.cJ bN) an)<|JJ<|cm jk hr.u (cb bz T.bc aQ<|al 0 an)<|dg (v:=.int 8) T.lB {_,rfl} λ_=>aP _),?_};refine !{_,_,_,_,rfl,cI,hk,_,rfl,?_};rcases nX hk with⟨es,rfl,h0⟩|⟨h0,h1⟩;rw[h0];refine cw !!⟨?_⟩;have e1:decide (((es.length:Nat):Int)<=8)=decide (es.length<=8):=by rw[yE];omega
 show Fo S (R<|.bl<|decide<|((es.length:Nat):Int)<=8);rw[e1];exact fo q;have e:QF d=false:=by cases d with|tup es=>exact absurd rfl (h1 _)|_=>rfl
 rw[e]at q;rw[h0];exact bY<|fo q
theorem LR(cs:List<|Str×Str)(x:D):(∃k,uf cs x=.str k)\/uf cs x=.ao:=by cases x with|str z=>(unfold uf;dsimp only;cases cs.find? (λc=>decide<|c.1=z) with|some c=>exact .inl {_,rfl}|none=>exact .inr rfl)|_=>exact .inr rfl
def Ny:jm:=λds S R _=>∃cs o x v,ds=[.tup<|cs.map aD,.tup [.str o,x,v]]/\Gd cs/\Gt S x/\Gt S v/\R (.bl<|Iy cs o x v) S
theorem rS(T:Txt w K mg t):Ok P w base T.jC 4 Ny:=by refine T.jC.F.JM jF ?_;rintro _ _ _ _ _ _ ds S R Z hr ⟨cs,o,x,v,e,hg,hx,hv,q⟩;subst e;refine{_,(sc (ck (i:=2) jF.nd<|bC T.iz (kT T) hr<|al 0<|ac (ix hr.u (dv 1) di) an)<|sc (si (twd<|twor (bL nv hr.u (dv 2) dn)<|tw1<|dG<|tv<|bC T.mr (oK T) hr<|al 2<|ac (ix hr.u (dv 1) di) an) (s1<|sr db) s0)<|sc (si (bL bG hr.u (ix hr.u (dv 1) di) ds) (s1<|sr db) s0)<|sc (si (twd<|twand (bL bG hr.u (ix hr.u (dv 1) di) ds)<|tw1<|bL px hr.u (dv 2) ds) (s1<|sr db) s0)<|s1<|sr<|cm qI hr.u (ix hr.u (dv 1) di) dn),?_};refine !!!{cs,x,rfl,hg,hx,?_};unfold Iy at q;rcases LR cs x with⟨k,e⟩|e;rw[e]at q⊢;have q:R (.bl<|hG k v&&(decide (o ="is")||((!(decide (o ="begins") && !decide (k ="word"))) && !ah v))) S:=q;refine !!⟨bY !!!{k,v,rfl,hv,_,rfl,?_}⟩;refine bB (λh=>?_) λh=>?_;rw[nt h,zW]at q;exact fo q;rw[nf h,zV]at q;refine !!!⟨?_⟩;refine bB (λh1=>?_) λh1=>?_;have h1:decide (o ="is")=true:=h1;rw[h1,Bool.true_or]at q;exact fo q;have h1:decide (o ="is")=false:=h1;rw[h1,yP]at q;refine !!!⟨?_⟩;refine bB (λh2=>?_) λh2=>?_;have h2:decide (o ="begins")=true:=h2;rw[h2,zV]at q;refine !!⟨?_⟩;refine bB (λh3=>?_) λh3=>?_;have h3:(!decide (k ="word"))=true:=h3;rw[h3]at q;exact fo q;have h3:(!decide (k ="word"))=false:=h3;rw[h3]at q;exact !!⟨fo q⟩;have h2:decide (o ="begins")=false:=h2;rw[h2]at q;exact !!⟨fo q⟩;rw[e]at q⊢;exact !!⟨cw<|fo q⟩
noncomputable def Nz:D->Bool|.tup ks=>ks.all (ofStr iH)|_=>false
noncomputable def LS(cs:List<|Str×Str)(o:Str):List D->Bool|[x,v]=>Iy cs o x v|_=>false
noncomputable def LU:List D->Bool|[k]=>QF k&&Nz k|_=>false
noncomputable def Xe:List D->Bool|[x]=>QF x|_=>false
theorem Iz(n:ws.length≠2):LS cs o ws=false:=by unfold LS;split;exact absurd rfl n;rfl
theorem IA(n:ws.length≠1):LU ws=false:=by unfold LU;split;exact absurd rfl n;rfl
theorem Dw(n:ws.length≠1):Xe ws=false:=by unfold Xe;split;exact absurd rfl n;rfl
noncomputable def kj(cs:List<|Str×Str):D->Bool|.tup (.str o::ws)=>(if o ="every" then decide (ws.length=0) else if o ="is"\/o ="below"\/o ="above"\/o ="begins" then LS cs o ws else if o ="key" then LU ws else if o ="not" then decide (ws.length=1) else if o ="and"\/o ="or" then Xe ws else false)|_=>false
noncomputable def subs:D->List D|.tup [.str o,x]=>(if o ="not" then[x] else if o ="and"\/o ="or" then (match x with|.tup es=>es|_=>[]) else[])|_=>[]
theorem rT(o:Str):o ="every"\/(o ="is"\/o ="below"\/o ="above"\/o ="begins")\/o ="key"\/o ="not"\/(o ="and"\/o ="or")\/(o≠"every"/\¬(o ="is"\/o ="below"\/o ="above"\/o ="begins")/\o≠"key"/\o≠"not"/\¬(o ="and"\/o ="or")):=by by_cases h1:o ="every";exact .inl h1;by_cases h2:o ="is"\/o ="below"\/o ="above"\/o ="begins";exact .inr<|.inl h2;by_cases h3:o ="key";exact .inr<|.inr<|.inl h3;by_cases h4:o ="not";exact .inr<|.inr<|.inr<|.inl h4;by_cases h5:o ="and"\/o ="or";exact .inr<|.inr<|.inr<|.inr<|.inl h5;exact .inr<|.inr<|.inr<|.inr<|.inr ⟨h1,h2,h3,h4,h5⟩
theorem rV(cs:List<|Str×Str)(ws:List D):kj cs (.tup<|.str "every":: ws)=decide (ws.length=0):=by unfold kj;dsimp only;rw[if_pos rfl]
theorem IB{o:Str}(h:o ="is"\/o ="below"\/o ="above"\/o ="begins")(ws:List D):kj cs (.tup<|.str o::ws)=LS cs o ws:=by unfold kj;dsimp only;rw[if_neg<|by rcases h with rfl|rfl|rfl|rfl<;>decide,if_pos h]
theorem QG(cs:List<|Str×Str)(ws:List D):kj cs (.tup<|.str "key":: ws)=LU ws:=by unfold kj;dsimp only;rw[if_neg<|by decide,if_neg<|by decide,if_pos rfl]
theorem B4(cs:List<|Str×Str)(ws:List D):kj cs (.tup<|.str "not":: ws)=decide (ws.length=1):=by unfold kj;dsimp only;rw[if_neg<|by decide,if_neg<|by decide,if_neg<|by decide,if_pos rfl]
theorem B5{o:Str}(h:o ="and"\/o ="or")(ws:List D):kj cs (.tup<|.str o::ws)=Xe ws:=by unfold kj;dsimp only;rw[if_neg<|by rcases h with rfl|rfl<;>decide,if_neg<|by rcases h with rfl|rfl<;>decide,if_neg<|by rcases h with rfl|rfl<;>decide,if_neg<|by rcases h with rfl|rfl<;>decide,if_pos h]
theorem B6{o:Str}(h:o≠"every"/\¬(o ="is"\/o ="below"\/o ="above"\/o ="begins")/\o≠"key"/\o≠"not"/\¬(o ="and"\/o ="or"))(ws:List D):kj cs (.tup<|.str o::ws)=false:=by unfold kj;dsimp only;rw[if_neg h.1,if_neg h.2.1,if_neg h.2.2.1,if_neg h.2.2.2.1,if_neg h.2.2.2.2]
theorem IC{o:Str}(h:o≠"every"/\¬(o ="is"\/o ="below"\/o ="above"\/o ="begins")/\o≠"key"/\o≠"not"/\¬(o ="and"\/o ="or")): ([("every",.int 1),("is",.int 3),("below",.int 3),("above",.int 3),("begins",.int 3),("key",.int 2),("not",.int 2),("and",.int 2),("or",.int 2)]:List (Str×V)).lookup o=none:=by obtain⟨h1,h2,h3,h4,h5⟩:=h;simp only[not_or]at h2 h5;have f:∀{a:Str},o≠a->(o==a)=false:=λh=>beq_false_of_ne h;rw[zN,f h1,zN,f h2.1,zN,f h2.2.1,zN,f h2.2.2.1,zN,f h2.2.2.2,zN,f h3,zN,f h4,zN,f h5.1,zN,f h5.2];rfl
theorem QH(q:R (.bl true) S):Hc true .ao (.int i) S R:={.none,.int i,by simp only[Dl,Dp],by simp only[Dl,Dp],by simp only[PyData.canLay0],by simp only[PyData.canLay0],.inl<|by simp only[PyData.depth];lia,q}
theorem VH(h:R (.int es.length) S):MW S R (.tup es):=h
theorem w6(x:D)(ws:List D):kJ (x::ws) 0=some x:=by unfold kJ FN;rw[if_pos<|Int.le_refl 0];show(if (0:Int)<(((x::ws).length:Nat):Int) then some (0:Int).toNat else none).bind _=_;rw[if_pos<|by rw[zG];lia];rfl
theorem wb(T:Txt w K mg t):Ok P w base T.nN 5 (λds S R _=>∃cs d,ds=[.tup<|cs.map aD,d]/\Gd cs/\Qd S 2 d/\R (.bl<|kj cs d) S):=by
 refine T.nN.F.JM vU ?_;rintro _ _ _ _ _ _ ds S R Z hr ⟨cs,d,e,hg,hq,q⟩;subst e;obtain⟨k,hk⟩:=hq.gt.1;refine{_,(sc (si (twd<|twor (dG<|tv<|cb dX T.ay au<|al 1<|ac (wI T.cJ bN) an)<|twor (bL bG hr.u (cb bz T.bc aQ<|al 1 an) di)<|tw1<|dG<|tv<|cb dX T.ay au<|ac (ix hr.u (dv 1) di)<|ac (wI T.qZ k_) an) (s1<|sr db) s0)<|sc (si (bL px hr.u (mgk T.E6 (by decide) (gK T.BI)<|ix hr.u (dv 1) di)<|cb bz T.bc aQ<|al 1 an) (s1<|sr db) s0)<|sc (si (bL xq hr.u (ix hr.u (dv 1) di)<|bw<|ac ds<|ac ds<|ac ds<|ac ds an) (s1<|sr<|bC T.jC (rS T) hr<|al 0<|al 1 an) s0)<|sc (si (bL bG hr.u (ix hr.u (dv 1) di) ds) (s1<|sr<|sY (bC T.dN (oS T) hr<|ac (ix hr.u (dv 1) di) an)<|JJ<|cb l9 T.mn ij<|ac (Ax (N:=["key"]) (src:=[none]) (oy (ae xK) ["columns","thing"] rfl rfl<|by trivial) (Lb<|ix hr.u (dv 1) di) (ur<|show(["key"]:List Str).Nodup by trivial) (aY rfl) aZ (λ_ _ _ _ _=>wK) λ_ _ _ _ _=>(bC T.nL (kf T) hr<|al 0 an)) an) s0)<|sc (si (bL xq hr.u (ix hr.u (dv 1) di)<|bw<|ac ds<|ac ds an) (s1<|sr<|bC T.dN (oS T) hr<|ac (ix hr.u (dv 1) di) an) s0)<|s1<|sr db),?_};refine !{_,_,_,_,rfl,cI,hk,_,rfl,?_};rcases nX hk with⟨ws,rfl,h0⟩|⟨h0,h1⟩;rotate_left;rw[h0];have e:kj cs d=false:=by unfold kj;split;exact absurd rfl<|h1 _;rfl
 rw[e]at q;exact cw<|fo q;rw[h0];refine bY !!!⟨?_⟩;cases ws with|nil=>exact sJ rfl (fo q)|cons x ws =>
 have e0:decide ((((x::ws).length:Nat):Int)=0)=false:=zq (by rw[zG];lia);refine dW e0 ?_;have gi:=hq.in.2;obtain⟨k2,b8⟩:=(gi x<|by simp).gt.1;refine !{_,w6 x ws,_,_,_,_,rfl,ik,b8,_,rfl,?_};rcases nW b8 with⟨o,rfl,h2⟩|⟨h2,h3⟩;rotate_left;rw[h2];have e:kj cs (.tup<|x::ws)=false:=by unfold kj;split;rename_i e;cases e;have:=h3 λ_=>true;cases this;rfl
 rw[e]at q;exact cw<|fo q;rw[h2];refine bY ?_;have n4:=Z2;have n2:=fz;rcases rT o with rfl|h|rfl|rfl|h|h;rw[rV]at q;refine !{_,w6 _ ws,_,rfl,_,rfl,_,rfl,_,rfl,?_};refine bB (λh=>?_) λh=>?_;have h:¬(1:Int)=(((D.str "every":: ws).length:Nat):Int):=zM<|nt h;rw[zG]at h;rw[zq<|by lia]at q;exact fo q;have h:(1:Int)=(((D.str "every":: ws).length:Nat):Int):=zi<|nf h;rw[zG]at h;rw[zx<|by lia]at q;exact !{_,w6 _ ws,n4,rfl,rfl,_,rfl,dW (by trivial) !{_,w6 _ ws,_,rfl,dW (by trivial) !{_,w6 _ ws,n2,rfl,rfl,_,rfl,dW (by trivial)<|fo q}}};rw[IB h]at q;have fin:∀{x v:D},ws=[x,v]->Ny [.tup<|cs.map aD,.tup [.str o,x,v]] S (λd S'=>Fo S'<|R d) (λC S'=>Fo S'<|Z C):=by rintro x v rfl;exact{cs,o,x,v,rfl,hg,(gi x<|by simp).gt,(gi v<|by simp).gt,fo q}
 have bad:ws.length≠2->R (.bl false) S:=λn=>by rw[Iz n]at q;exact q
 rcases h with rfl|rfl|rfl|rfl<;>exact !{_,w6 _ ws,_,rfl,_,rfl,_,rfl,_,rfl,bB (λh=>fo<|bad λz=>zM (nt h)<|by rw[zG,z];rfl) λh=>(by obtain⟨x,v,rfl⟩:=QD (l:=ws) (by have h:=zi<|nf h;rw[zG]at h;lia);exact !!{n4,rfl,rfl,_,rfl,sJ (by trivial) !!⟨fin rfl⟩})};rw[QG]at q;refine !{_,w6 _ ws,_,rfl,_,rfl,_,rfl,_,rfl,bB (λh=>?_) λh=>?_};have h:¬(2:Int)=(((D.str "key":: ws).length:Nat):Int):=zM<|nt h;rw[zG]at h;rw[IA<|by lia]at q;exact fo q;have h:(2:Int)=(((D.str "key":: ws).length:Nat):Int):=zi<|nf h;rw[zG]at h;obtain⟨x,rfl⟩:=Im (l:=ws) (by lia);have q:R (.bl<|QF x&&Nz x) S:=q;have gx:=gi x (by simp);refine !!{n4,rfl,rfl,_,rfl,dW (by trivial) !!!⟨sJ (by trivial) ?_⟩};refine !!{x,rfl,gx.gt,_,rfl,bB (λh=>?_) λh=>?_};rw[h,zV]at q;obtain⟨ks,rfl⟩:∃ks,x=.tup ks:=by cases x<;>first|exact{_,rfl}|cases h
 have h8:ks.length<=8:=zi h;refine !!{_,.inl rfl,?_};refine comp_map (λd=>.bl<|ofStr iH d) trivial (by show ks.length<=1000;lia) (λd hd Q hQ=>?_) λp hp=>?_;exact !{d,rfl,gx.in.2 d hd,hQ};have e2:ks.map (λd=>D.bl<|ofStr iH d)=(ks.map<|ofStr iH).map D.bl:=by rw[zB];rfl
 refine{.ref p,ks.map<|ofStr iH,rfl,?_,S,.new hp,?_};show(S.set p<|.lst<|ks.map _) p=_;rw[aa,e2];rw[all_map];exact q;rw[h,zW]at q;exact fo q;rw[B4]at q;refine !{_,w6 _ ws,_,rfl,_,rfl,_,rfl,_,rfl,?_};refine bB (λh=>?_) λh=>?_;have h:¬(2:Int)=(((D.str "not":: ws).length:Nat):Int):=zM<|nt h;rw[zG]at h;rw[zq<|by lia]at q;exact fo q;have h:(2:Int)=(((D.str "not":: ws).length:Nat):Int):=zi<|nf h;rw[zG]at h;rw[zx<|by lia]at q;exact !{_,w6 _ ws,n4,rfl,rfl,_,rfl,dW (by trivial) !{_,w6 _ ws,_,rfl,dW (by trivial) !{_,w6 _ ws,n2,rfl,rfl,_,rfl,dW (by trivial)<|fo q}}};rw[B5 h]at q;have fin:∀{x:D},ws=[x]->xZ QF [x] S (λd S'=>Fo S'<|R d) (λC S'=>Fo S'<|Z C):=by rintro x rfl;exact{x,rfl,(gi x<|by simp).gt,fo q}
 have bad:ws.length≠1->R (.bl false) S:=λn=>by rw[Dw n]at q;exact q
 rcases h with rfl|rfl<;>exact !{_,w6 _ ws,_,rfl,_,rfl,_,rfl,_,rfl,bB (λh=>fo<|bad λz=>zM (nt h)<|by rw[zG,z];rfl) λh=>(by obtain⟨x,rfl⟩:=Im (l:=ws) (by have h:=zi<|nf h;rw[zG]at h;lia);exact !!{n4,rfl,rfl,_,rfl,dW (by trivial) !!!⟨dW (by trivial) !!{n2,rfl,rfl,_,rfl,sJ (by trivial) !!⟨fin rfl⟩}⟩})};rw[B6 h]at q;refine !{_,w6 _ ws,_,rfl,?_};rw[IC h];exact !!⟨VH<|QH !⟨cw<|fo q⟩⟩
theorem yV{cs:List<|Str×Str}{e:D}(h:kj cs e=true):(∃(o:Str) (ws:List D),e=.tup (.str o::ws)/\o≠"not"/\¬(o ="and"\/o ="or")/\subs e=[])\/(∃x,e=.tup [.str "not",x])\/∃(o:Str) (es:List D),(o ="and"\/o ="or")/\e=.tup [.str o,.tup es]/\es.length<=8:=by
 have hh:=h;unfold kj at hh;split at hh;rename_i o ws;clear hh;have sb:o≠"not"->¬(o ="and"\/o ="or")->subs (.tup<|.str o::ws)=[]:=λn1 n2=>by unfold subs;split;rename_i e;cases e;rw[if_neg n1,if_neg n2];rfl
 rcases rT o with rfl|ho|rfl|rfl|ho|ho;exact .inl {_,ws,rfl,by decide,by decide,sb (by decide)<|by decide};have n1:o≠"not":=by rcases ho with rfl|rfl|rfl|rfl<;>decide
 have n2:¬(o ="and"\/o ="or"):=by rcases ho with rfl|rfl|rfl|rfl<;>decide
 exact .inl {o,ws,rfl,n1,n2,sb n1 n2};exact .inl {_,ws,rfl,by decide,by decide,sb (by decide)<|by decide};rw[B4]at h;obtain⟨x,rfl⟩:=Im<|zi h;exact .inr<|.inl ⟨x,rfl⟩;rw[B5 ho]at h;have hl:ws.length=1:=Decidable.byContradiction λn=>by rw[Dw n]at h;cases h
 obtain⟨x,rfl⟩:=Im hl;have h:QF x=true:=h;obtain⟨es,rfl⟩:∃es,x=.tup es:=by cases x<;>first|exact{_,rfl}|cases h
 exact .inr<|.inr {o,es,ho,rfl,zi h};rw[B6 ho]at h;cases h;cases hh
theorem rW{o:Str}(h:o ="and"\/o ="or")(es:List D):subs (.tup [.str o,.tup es])=es:=by unfold subs;dsimp only;rw[if_neg<|by rcases h with rfl|rfl<;>decide,if_pos h]
theorem rX(x:D):subs (.tup [.str "not",x])=[x]:=by unfold subs;dsimp only;rw[if_pos rfl]
theorem ID(h:kj cs e=true):(subs e).length<=8:=by rcases yV h with⟨_,_,_,_,_,h⟩|⟨x,rfl⟩|⟨o,es,ho,rfl,hl⟩;rw[h];exact zZ _;rw[rX];simp;rw[rW ho];exact hl
theorem IE{cs:List<|Str×Str} : ∀{es:List D},(∀e∈es,kj cs e=true)->(es.flatMap subs).length<=8*es.length:=by intro es;induction es with|nil=>exact λ_=>zo _|cons e es ih=>intro h;rw[List.flatMap_cons,zA,zG];have:=ID<|h e zp;have:=ih λx hx=>h x<|zh _ hx;lia
theorem Fq{es:List D}{i:Nat}{e:D}(h:es[i]?=some e):(es.take<|i+1).flatMap subs=(es.take i).flatMap subs++subs e:=by rw[take_snoc h,List.flatMap_append,List.flatMap_cons,List.flatMap_nil,ym]
theorem n6(T:Txt w K mg t):Ok P w base T.gH 1 (λds S R _=>∃l es cs,ds=[.ref l]/\S l=some (.lst es)/\es.length<=200/\(∀e∈es,kj cs e=true)/\∀p,S p=none->R (.ref p) (S.set p<|.lst<|es.flatMap subs)):=by
 refine T.gH.F.JM eF ?_;rintro _ _ _ _ _ _ ds S R Z hr ⟨l,es,cs,e,hl,h8,R6,q⟩;subst e;refine{_,(sc (ck (i:=1) eF.nd<|bR an)<|sc (pA<|Bw (il<|dv 0) (gn (i:=2) eF.nd)<|sc (pA<|si (bL bG hr.u (ix hr.u (dv 2) di) ds) (s1<|se<|bm zK zO zP ba (dv 1)<|ac (ix hr.u (dv 2) di) an) s0)<|s1<|si (bL xq hr.u (ix hr.u (dv 2) di)<|bw<|ac ds<|ac ds an) (s1<|se<|bm zK PySem.F.slot_list_extend PySem.F.type_list_extend ER (dv 1)<|ac (ix hr.u (dv 2) di) an) s0)<|s1<|sr<|dv 1),?_};refine{rC,λf hf=>?_};have LL:l≠f:=ia hl hf;have n2:=fz;refine{λav S'=>∃o,av=[some<|.ref l,some<|.ref f,o]/\S'=S.set f (.lst<|es.flatMap subs),?_,?_};refine !{es,(ag LL).trans hl,?_};refine{λi av S'=>∃o,av=[some<|.ref l,some<|.ref f,o]/\S'=S.set f (.lst<|(es.take i).flatMap subs),⟨none,rfl,rfl⟩,?_,?_,?_};rintro i av S' ⟨o,rfl,rfl⟩;exact(ag LL).trans hl;rintro i e av S' he ⟨o,rfl,rfl⟩;have he:es[i]?=some e:=he;have hem:=R6 e<|zI he;have hi:i<es.length:=(zg.mp he).1;have RB:((es.take i).flatMap subs).length<=1600:=by have:=IE (cs:=cs) (es:=es.take i) λx hx=>R6 x<|List.mem_of_mem_take hx;rw[yh]at this;lia
 have more:∃o,[some<|D.ref l,some<|D.ref f,some e]=[some<|.ref l,some<|.ref f,o]/\S.set f (.lst<|(es.take i).flatMap subs++subs e)=S.set f (.lst<|(es.take<|i+1).flatMap subs):=!⟨by rw[Fq he]⟩;generalize (es.take i).flatMap subs=fs at RB more⊢;have R7:(S.set f<|.lst fs) f=some (.lst fs):=aa;rcases yV hem with⟨o,ws,rfl,n1,n3,hs⟩|⟨x,rfl⟩|⟨o,xs,ho,rfl,Qz⟩;rw[hs,ym]at more;refine{λCB S2=>CB=_/\S2=S.set f (.lst fs),!{_,w6 _ ws,_,rfl,dW (zq n1)<|fo ⟨rfl,rfl⟩},?_};rintro _ _ ⟨rfl,rfl⟩;refine !{_,w6 _ ws,n2,rfl,rfl,_,rfl,dW ?_ more};simp only[not_or]at n3;simp[Ar,kz,eqV,Ne.symm n3.1,Ne.symm n3.2];rw[rX]at more;refine{λCB S2=>CB=_/\S2=S.set f (.lst<|fs++[x]),!!!⟨sJ (by trivial) !⟨{rfl,_,R7},_,rfl,_,rfl,f,_,_,rfl,rfl,R7,by rw[zY];lia,fo ⟨rfl,aR⟩⟩⟩,?_};rintro _ _ ⟨rfl,rfl⟩;exact !!{n2,rfl,rfl,_,rfl,dW (by trivial) more};rw[rW ho]at more;rw[<-aR (c:=.lst fs)]at more;rcases ho with rfl|rfl;refine{λCB S2=>CB=_/\S2=S.set f (.lst fs),!!!⟨dW (by trivial)<|fo ⟨rfl,rfl⟩⟩,?_};rintro _ _ ⟨rfl,rfl⟩;exact !!{n2,rfl,rfl,_,rfl,sJ (by trivial) !⟨{rfl,_,R7},_,rfl,_,rfl,f,_,_,rfl,rfl,R7,by rw[zY];lia,more⟩};refine{λCB S2=>CB=_/\S2=S.set f (.lst fs),!!!⟨dW (by trivial)<|fo ⟨rfl,rfl⟩⟩,?_};rintro _ _ ⟨rfl,rfl⟩;exact !!{n2,rfl,rfl,_,rfl,sJ (by trivial) !⟨{rfl,_,R7},_,rfl,_,rfl,f,_,_,rfl,rfl,R7,by rw[zY];lia,more⟩};rintro av S' ⟨o,rfl,rfl⟩;exact fo {o,rfl,by rw[List.take_length]};rintro av S' ⟨o,rfl,rfl⟩;exact{_,rfl,fo<|q f hf}
noncomputable def n8(cs:List<|Str×Str):Nat->Nat->List D->Bool|0,_,es=>decide (es.length=0)|n+1,p,es=>if es.length=0 then true else decide (p+es.length<=200)&&(es.all (kj cs)&&n8 cs n (p+es.length) (es.flatMap subs))
theorem QI(cs:List<|Str×Str)(n p:Nat):n8 cs n p []=true:=by cases n<;>rfl
theorem QA.subs(h:QA S d):∀e∈subs d,QA S e:=by intro e he;unfold My.subs at he;split at he;rename_i o x;have hx:QA S x:=h.in (by simp);split at he;rw[zu.mp he];exact hx;split at he;split at he;exact hx.in he;cases he;cases he;cases he
def aan(t:eZ):jm:=λds S R Z=>∃cs d,ds=[.tup<|cs.map aD,d]/\Gd cs/\QA S d/\(n8 cs 8 0 [d]=true->R .ao S)/\(n8 cs 8 0 [d]=false->Z t.aL S)
theorem jU(T:Txt w K mg t):Ok P w base T.gp 6 (aan t):=by
 refine T.gp.F.JM bq ?_;rintro _ _ _ _ _ _ ds S R Z hr ⟨cs,d,e,hg,hd,q1,q2⟩;subst e;obtain⟨b,hb⟩:∃b,n8 cs 8 0 [d]=b:={_,rfl};rw[hb]at q1 q2;have n1:=gJ;refine{_,(sc (ck (i:=2) bq.nd<|bR<|al 1 an)<|sc (ck (i:=3) bq.nd di)<|sc (ck (i:=4) bq.nd di)<|s1<|ZL (bL sZ hr.u (cb bz T.bc aQ<|al 2 an) di)<|sc (sau (i:=3) bq.nd di)<|sc (sau (i:=4) bq.nd<|cb bz T.bc aQ<|al 2 an)<|sc (si (twd<|twor (bL sZ hr.u (dv 3)<|dg (v:=.int 8) T.vo {_,rfl} λ_=>aP _)<|tw1<|bL sZ hr.u (dv 4)<|dg (v:=.int 200) T.ju {_,rfl} λ_=>aP _) (s1<|wJ ⟨T.fO⟩ T.jw<|ac ds an) s0)<|sc (si (dG<|tv<|cb l9 T.mn ij<|ac (Ax (N:=["thing","columns"]) (src:=[none,some 0]) (oy (ae s_) ["columns","sieve","level","deep","parts"] rfl rfl<|by trivial) (il<|dv 2) (ur<|show(["thing","columns"]:List Str).Nodup by trivial) (aY rfl) aZ (λ_ _ _ _ _=>wK) λ_ _ _ _ _=>(bC T.nN (wb T) hr<|al 1<|al 0 an)) an) (s1<|wJ ⟨T.fO⟩ T.jw<|ac ds an) s0)<|s1<|ck (i:=2) bq.nd<|bC T.gH (n6 T) hr<|al 2 an),?_};refine !{gJ,λl0 RZ=>?_};refine{λm av S'=>∃(l:Addr) (es:List D) (dp p:Nat),av=[some<|.tup<|cs.map aD,some d,some<|.ref l,some<|.int dp,some<|.int p]/\S' l=some (.lst es)/\Sub S S'/\(∀e∈es,QA S e)/\dp+m=8/\n8 cs m p es=b,{8,l0,[d],0,0,rfl,aa,.new RZ,λe he=>by rw[zu.mp he];exact hd,rfl,hb},?_};rintro m av S' ⟨l,es,dp,p,rfl,hl,sb,R6,hdp,JN⟩;refine !!⟨.inl {_,hl,_,rfl,?_}⟩;refine bB (λh1=>?_) λh1=>?_;have Eu:0<es.length:=by have h1:(0:Int)<((es.length:Nat):Int):=zi h1;lia
 refine !!!!!⟨.inl {_,hl,_,rfl,?_}⟩;refine !!⟨bB (λh2=>?_) λh2=>?_⟩;have h2:(8:Int)<((dp:Nat):Int)+1:=zi h2;obtain rfl:m=0:=by lia
 refine{n1,S,sb,q2 ?_};rw[<-JN];exact zq (by lia);have h2:¬(8:Int)<((dp:Nat):Int)+1:=zM h2;obtain⟨n,rfl⟩:∃n,m=n+1:={m-1,by lia};unfold n8 at JN;rw[if_neg<|by lia]at JN;refine !!⟨bB (λh3=>?_) λh3=>?_⟩;have h3:(200:Int)<((p:Nat):Int)+((es.length:Nat):Int):=zi h3;refine{n1,S,sb,q2 ?_};rw[<-JN,zq<|by lia];rfl;have h3:¬(200:Int)<((p:Nat):Int)+((es.length:Nat):Int):=zM h3;rw[zx<|by lia,zV]at JN;refine !{es,hl,?_};refine comp_map (λe=>.bl<|kj cs e) hl (by show es.length<=1000;lia) (λe he Q hQ=>?_) λp1 Dx=>?_;exact !!{cs,e,rfl,hg,(R6 e he 2).sub sb,hQ};have e2:es.map (λe=>D.bl<|kj cs e)=(es.map<|kj cs).map D.bl:=by rw[zB];rfl
 rw[show({es,λS=>ug S (.ref l) es}:vg).xs=es from rfl,e2];have s1:=sb.trans<|.new (c:=.lst<|(es.map<|kj cs).map D.bl) Dx;refine{.ref p1,es.map<|kj cs,rfl,aa,_,rfl,?_};rw[show(es.map<|kj cs).all id=es.all (kj cs) from all_map];refine bB (λh4=>?_) λh4=>?_;refine{n1,S,s1,q2 ?_};rw[<-JN,nt h4];rfl;have h4:=nf h4;rw[h4,zV]at JN;have AA:(S'.set p1<|.lst<|(es.map<|kj cs).map D.bl) l=some (.lst es):=(ag<|ia hl Dx).trans hl;refine !{l,es,cs,rfl,AA,by lia,ye.mp h4,λp2 h5=>?_};refine{n,Nat.lt_succ_self n,p2,es.flatMap subs,dp+1,p+es.length,?_,aa,s1.trans<|.new h5,λx hx=>?_,by lia,JN};show[_,_,_,some<|D.int<|((dp:Nat):Int)+1,some<|D.int<|((p:Nat):Int)+((es.length:Nat):Int)]=_;rw[show(((dp:Nat):Int)+1)=((dp+1:Nat):Int) by lia,show(((p:Nat):Int)+((es.length:Nat):Int))=((p+es.length:Nat):Int) by lia];obtain⟨e,he,hx⟩:=List.mem_flatMap.mp hx;exact(R6 e he).subs x hx;have h1:¬(0:Int)<((es.length:Nat):Int):=zM h1;have e0:es=[]:=List.eq_nil_of_length_eq_zero (by lia);rw[e0,QI]at JN;exact{S,sb,q1 JN.symm}
noncomputable def QJ(cs:List<|Str×Str)(z:Str):Nat:=(cs.map Prod.fst).idxOf z
noncomputable def aq(cs:List<|Str×Str)(ws:List D)(z:Str):D:=(ws[QJ cs z]?).getD .ao
noncomputable def ak(r:Str×List D):D:=.tup [.str r.1,.tup r.2]
theorem rY:∀{l:List α}{m:List β},Paired rel l m->∀{i:Nat}{a:α},l[i]?=some a->∃b,m[i]?=some b/\rel a b|_,_,.nil,_,_,h=>by simp at h|_,_,.cons r t,0,a,h=>(by rw[List.getElem?_cons_zero]at h⊢;cases h;exact{_,rfl,r})|_,_,.cons r t,i+1,a,h=>by rw[List.getElem?_cons_succ]at h⊢;exact rY t h
theorem B7(hg:Gd cs)(h:c∈cs):cs[QJ cs c.1]?=some c/\(cs.map Prod.fst)[QJ cs c.1]?=some c.1:=by
 have hm:c.1∈cs.map Prod.fst:=zj.mpr ⟨c,h,rfl⟩;have hi:(cs.map Prod.fst).idxOf c.1<(cs.map Prod.fst).length:=List.idxOf_lt_length_of_mem hm;have e1:(cs.map Prod.fst)[(cs.map Prod.fst).idxOf c.1]?=some c.1:=by rw[ze hi,List.getElem_idxOf]
 refine{?_,e1};obtain⟨j,ej⟩:=List.getElem?_of_mem h;have ej1:(cs.map Prod.fst)[j]?=some c.1:=by rw[zr,ej];rfl
 obtain⟨b1,c1⟩:=zg.mp e1;obtain⟨b2,c2⟩:=zg.mp ej1;have:=(List.getElem_inj hg.2.1 (h₀:=b1) (h₁:=b2)).mp<|c1.trans c2.symm;unfold QJ;rw[this];exact ej
theorem qg(hg:Gd cs)(hw:Wg cs ws)(h:c∈cs):ws[QJ cs c.1]?=some (aq cs ws c.1)/\Vg c.2 (aq cs ws c.1):=by obtain⟨v,e,r⟩:=rY hw (B7 hg h).1;unfold aq;rw[e];exact⟨rfl,r⟩
noncomputable def oU:D->D->Bool|.ao,.ao=>true|.int i,.int j=>decide (i=j)|.str i,.str j=>decide (i=j)|_,_=>false
theorem dq(ha:cT a=true)(hb:cT b=true):oU a b=true↔a=b:=by cases a<;>cases b<;>first|(cases ha;done)|(cases hb;done)|simp[oU]
theorem yW(ha:cT a=true)(hb:cT b=true)(q:R (.bl<|if neg then !oU a b else oU a b) S):Hc neg a b S R:=by
 have mix:∀{a b:D},cT a=true->cT b=true->(∀p q,Dp S a p->Dp S b q->PyData.eqv p q=oU a b)->(∀i j,a=.int i->b≠.int j)->(∀i j,a=.str i->b≠.str j)->R (.bl<|if neg then !oU a b else oU a b) S->Hc neg a b S R:=by intro a b ha hb h h1 h2 q;obtain⟨p,p1,p2,p3⟩:=Ly.plain (S:=S) ha;obtain⟨r,r1,r2,r3⟩:=Ly.plain (S:=S) hb;have e:=h p r p1 r1;obtain⟨p',p1',p2',p3'⟩:=Ly.dl<|Ly.plain (S:=S) ha;cases a<;>cases b<;>first|(cases ha;done)|(cases hb;done)|exact absurd rfl (h1 _ _ rfl)|exact absurd rfl (h2 _ _ rfl)|exact{p,r,p1,r1,p2,r2,.inl<|by lia,by rw[e];exact q}
 cases a with|ao=>(cases b with|ao=>exact mix ha hb (λp q h1 h2=>by simp only[Dp]at h1 h2;subst h1 h2;rfl) nofun nofun q|int j=>exact mix ha hb (λp q h1 h2=>by simp only[Dp]at h1 h2;subst h1 h2;rfl) nofun nofun q|str j=>exact mix ha hb (λp q h1 h2=>by simp only[Dp]at h1 h2;subst h1 h2;rfl) nofun nofun q|_=>cases hb)|int i=>(cases b with|ao=>exact mix ha hb (λp q h1 h2=>by simp only[Dp]at h1 h2;subst h1 h2;rfl) nofun nofun q|int j=>exact q|str j=>exact mix ha hb (λp q h1 h2=>by simp only[Dp]at h1 h2;subst h1 h2;rfl) nofun nofun q|_=>cases hb)|str i=>(cases b with|ao=>exact mix ha hb (λp q h1 h2=>by simp only[Dp]at h1 h2;subst h1 h2;rfl) nofun nofun q|int j=>exact mix ha hb (λp q h1 h2=>by simp only[Dp]at h1 h2;subst h1 h2;rfl) nofun nofun q|str j=>exact q|_=>cases hb)|_=>cases ha
noncomputable def tK:D->D->Bool|.int i,.int j=>decide (i<j)|.str i,.str j=>t9 i j|_,_=>false
noncomputable def stP:D->D->Bool|.str i,.str j=>PySem.Txt.startswith i j|_,_=>false
noncomputable def Dy(o:Str)(a b:D):Bool:=if o ="is" then oU a b else if ah a then false else if o ="below" then tK a b else if o ="above" then tK b a else stP a b
noncomputable def Ft:D->List D|.tup ds=>ds|_=>[]
noncomputable def VI(cs:List<|Str×Str)(r:Str×List D)(f:D->Bool):D->Bool|.tup [.str _]=>true|.tup [.str o,e]=>(if o ="not" then !f e else if o ="key" then Ar (kz<|.str r.1) ((Ft e).map kz) else if o ="and" then (Ft e).all f else (Ft e).any f)|.tup [.str o,.str z,v]=>Dy o (aq cs r.2 z) v|_=>false
noncomputable def bU(cs:List<|Str×Str)(r:Str×List D):Nat->D->Bool|0,_=>false|n+1,d=>VI cs r (bU cs r n) d
theorem Dz(cs:List<|Str×Str)(r:Str×List D)(n:Nat)(o:Str)(e:D):bU cs r (n+1) (.tup [.str o,e])=if o ="not" then !bU cs r n e else if o ="key" then Ar (kz<|.str r.1) ((Ft e).map kz) else if o ="and" then (Ft e).all (bU cs r n) else (Ft e).any (bU cs r n):=rfl
theorem VJ(cs:List<|Str×Str)(r:Str×List D)(n:Nat)(o z:Str)(v:D):bU cs r (n+1) (.tup [.str o,.str z,v])=Dy o (aq cs r.2 z) v:=rfl
theorem IF(cs:List<|Str×Str)(r:Str×List D)(n:Nat)(ks:List D):bU cs r (n+1) (.tup [.str "key",.tup ks])=Ar (kz<|.str r.1) (ks.map kz):=by rw[Dz,if_neg<|by trivial,if_pos rfl];rfl
theorem IG(cs:List<|Str×Str)(r:Str×List D)(n:Nat)(e:D):bU cs r (n+1) (.tup [.str "not",e])=!bU cs r n e:=by rw[Dz,if_pos rfl]
theorem IH(cs:List<|Str×Str)(r:Str×List D)(n:Nat)(es:List D):bU cs r (n+1) (.tup [.str "and",.tup es])=es.all (bU cs r n):=by rw[Dz,if_neg<|by trivial,if_neg<|by trivial,if_pos rfl];rfl
theorem LV(cs:List<|Str×Str)(r:Str×List D)(n:Nat)(es:List D):bU cs r (n+1) (.tup [.str "or",.tup es])=es.any (bU cs r n):=by rw[Dz,if_neg<|by trivial,if_neg<|by trivial,if_neg<|by trivial];rfl
theorem wc{k:Str}(ha:Vg k a)(hb:Vg k b)(na:a≠.ao)(nb:b≠.ao):(∃i j,a=.int i/\b=.int j)\/∃i j,a=.str i/\b=.str j:=by obtain⟨a1,a2⟩:=ha;obtain⟨b1,b2⟩:=hb;cases a with|ao=>exact absurd rfl na|int i=>(cases b with|ao=>exact absurd rfl nb|int j=>exact .inl ⟨i,j,rfl,rfl⟩|str j=>(exfalso;unfold hG at a1 b1;simp only[ah,yP]at a1 b1;by_cases e:k ="number";rw[if_pos e]at b1;cases b1;rw[if_neg e]at a1;cases a1)|_=>cases b2)|str i=>(cases b with|ao=>exact absurd rfl nb|str j=>exact .inr ⟨i,j,rfl,rfl⟩|int j=>(exfalso;unfold hG at a1 b1;simp only[ah,yP]at a1 b1;by_cases e:k ="number";rw[if_pos e]at a1;cases a1;rw[if_neg e]at b1;cases b1)|_=>cases b2)|_=>cases a2
theorem DB(h:Vg "word" a)(n:a≠.ao):∃z,a=.str z:=by obtain⟨h1,h2⟩:=h;cases a with|ao=>exact absurd rfl n|str z=>exact⟨z,rfl⟩|int i=>(unfold hG at h1;rw[if_neg<|by trivial]at h1;cases h1)|_=>cases h2
theorem bt(h:ah a=false):a≠.ao:=by rintro rfl;cases h
inductive lK (ds:List D) (S:aw) (R:KD) (Z:KX):Prop where
 |mk (cs r c) (h0:ds=[.tup<|cs.map aD,ak r,.str c.1]) (h1:Gd cs) (h2:Wg cs r.2) (h3:c∈cs) (h4:R (aq cs r.2 c.1) S)
theorem dF(T:Txt w K mg t):Ok P w base T.b9 2 lK:=by
 refine T.b9.F.cP xW ?_;obtain⟨cs,r,c,e,hg,hw,hc,q⟩;obtain⟨n1,n2⟩:=B7 hg hc;refine{_,(s1<|sr<|ix hr.u (ix hr.u (dv 1) di)<|bm zK PySem.F.slot_list_index PySem.F.type_list_index Hf (bC T.mw (oN T) hr<|al 0 an)<|al 2 an),?_};refine !!!{cs,rfl,hg.1,λp hp=>?_};refine{{rfl,_,aa},_,rfl,(cs.map Prod.fst).map D.str,.str c.1,QJ cs c.1,rfl,aa,rfl,?_,{.str c.1,by rw[zr,n2];rfl,by show(c.1==c.1)=true;simp},?_,?_};rw[List.all_map];exact ye.mpr λ_ _=>rfl;intro m u hm hu;rw[zr]at hu;cases e:(cs.map Prod.fst)[m]? with|none=>(rw[e]at hu;cases hu)|some z'=>rw[e]at hu;cases hu;show(z'==c.1)=false;have:z'≠c.1:=λq=>(by subst q;obtain⟨b1,c1⟩:=zg.mp e;obtain⟨b2,c2⟩:=zg.mp n2;have:=(List.getElem_inj hg.2.1 (h₀:=b1) (h₁:=b2)).mp<|c1.trans c2.symm;lia);simpa using this
 exact{_,eM (qg hg hw hc).1,S,.new hp,q}
inductive fW (ds:List D) (S:aw) (R:KD) (Z:KX):Prop where
 |mk (o a b c) (h0:ds=[.str o,a,b]) (h1:Vg c.2 a) (h2:Vg c.2 b) (h3:Iw o c b) (h4:R (.bl<|Dy o a b) S)
theorem pL(T:Txt w K mg t):Ok P w base T.iA 1 fW:=by
 refine T.iA.F.cP pG ?_;obtain⟨o,a,b,c,e,ha,hb,ho,q⟩;refine{_,(sc (si (bL bG hr.u (dv 0) ds) (s1<|sr<|cm bG hr.u (dv 1)<|dv 2) s0)<|sc (si (bL nv hr.u (dv 1) dn) (s1<|sr db) s0)<|sc (si (bL bG hr.u (dv 0) ds) (s1<|sr<|cm EF hr.u (dv 1)<|dv 2) s0)<|sc (si (bL bG hr.u (dv 0) ds) (s1<|sr<|cm sZ hr.u (dv 1)<|dv 2) s0)<|s1<|sr<|bm PySem.F.plainAttrs_str PySem.F.slot_str_startswith PySem.F.type_str_startswith Hg (dv 1)<|al 2 an),?_};unfold Dy at q;rcases ho with rfl|⟨nb,ho⟩;rw[if_pos rfl]at q;exact !!⟨sJ (by trivial) !!⟨yW ha.2 hb.2<|fo q⟩⟩;have ne:∀{A B:Bool},o≠"is"->R (.bl<|if o ="is" then A else B) S->R (.bl B) S:=λh q=>by rw[if_neg h]at q;exact q
 rcases ho with rfl|rfl|⟨rfl,hk⟩;rw[if_neg<|by trivial]at q;refine !!⟨dW (by trivial) !!⟨bB (λh=>?_) λh=>?_⟩⟩;rw[if_pos h]at q;exact fo q;rw[if_neg<|by rw[show ah a=false from h];exact zd,if_pos rfl]at q;refine !!⟨sJ (by trivial) !!⟨?_⟩⟩;rcases wc ha hb (bt h) nb with⟨i,j,rfl,rfl⟩|⟨i,j,rfl,rfl⟩<;>exact fo q;rw[if_neg<|by trivial]at q;refine !!⟨dW (by trivial) !!⟨bB (λh=>?_) λh=>?_⟩⟩;rw[if_pos h]at q;exact fo q;rw[if_neg<|by rw[show ah a=false from h];exact zd,if_neg<|by trivial,if_pos rfl]at q;refine !!⟨dW (by trivial) !!⟨sJ (by trivial) !!⟨?_⟩⟩⟩;rcases wc ha hb (bt h) nb with⟨i,j,rfl,rfl⟩|⟨i,j,rfl,rfl⟩<;>exact fo q;rw[if_neg<|by trivial]at q;refine !!⟨dW (by trivial) !!⟨bB (λh=>?_) λh=>?_⟩⟩;rw[if_pos h]at q;exact fo q;rw[if_neg<|by rw[show ah a=false from h];exact zd,if_neg<|by trivial,if_neg<|by trivial]at q;refine !!⟨dW (by trivial) !!⟨dW (by trivial) ?_⟩⟩;rw[hk]at ha hb;obtain⟨i,rfl⟩:=DB ha<|bt h;obtain⟨j,rfl⟩:=DB hb nb;exact !{rfl,_,rfl,i,j,rfl,rfl,fo q}
def QK(n:Nat):jm:=λds S R _=>∃cs d r,ds=[.tup<|cs.map aD,d,ak r]/\Gd cs/\Sg cs n d/\Wg cs r.2/\R (.bl<|bU cs r n d) S
theorem kl(T:Txt w K mg t):∀n,Ok P w base T.passes (3+n) (QK n)
 |0=>by refine T.passes.F.ok (k:=2) ux (by rintro ds S R Z ⟨_,_,_,e,_⟩;exact by rw[e];rfl) (by rintro eL A outer s H E ds S R Z hr ⟨cs,d,r,e,hg,hs,_⟩;exact hs.elim)
 |n+1=>by
  refine T.passes.F.ok (k:=3+n) ux (by rintro ds S R Z ⟨_,_,_,e,_⟩;rw[e];rfl) ?_;obtain⟨cs,d,r,e,hg,hs,hw,q⟩;refine{_,(sc (si (bL bG hr.u (ix hr.u (dv 1) di) ds) (s1<|sr db) s0)<|sc (si (bL bG hr.u (ix hr.u (dv 1) di) ds) (s1<|sr<|cm xq hr.u (ix hr.u (dv 2) di)<|ix hr.u (dv 1) di) s0)<|sc (si (bL bG hr.u (ix hr.u (dv 1) di) ds) (s1<|sr<|Ug<|bC T.passes (kl T n) hr<|al 0<|ac (ix hr.u (dv 1) di)<|al 2 an) s0)<|sc (si (bL bG hr.u (ix hr.u (dv 1) di) ds) (s1<|sr<|cb l9 T.mn ij<|ac (Ax (N:=["inner","columns","row"]) (src:=[none,some 0,some 2]) (oy (ae xM) ["columns","sieve","row"] rfl rfl<|by trivial) (Lb<|ix hr.u (dv 1) di) (ur<|show(["inner","columns","row"]:List Str).Nodup by trivial) (aY rfl) aZ (λ_ _ _ _ _=>wK) λ_ _ _ _ _=>(bC T.passes (kl T n) hr<|al 1<|al 0<|al 2 an)) an) s0)<|sc (si (bL bG hr.u (ix hr.u (dv 1) di) ds) (s1<|sr<|cb Uy T.Vx O6<|ac (Ax (N:=["inner","columns","row"]) (src:=[none,some 0,some 2]) (oy (ae xM) ["columns","sieve","row"] rfl rfl<|by trivial) (Lb<|ix hr.u (dv 1) di) (ur<|show(["inner","columns","row"]:List Str).Nodup by trivial) (aY rfl) aZ (λ_ _ _ _ _=>wK) λ_ _ _ _ _=>(bC T.passes (kl T n) hr<|al 1<|al 0<|al 2 an)) an) s0)<|s1<|sr<|bC T.iA (pL T) hr<|ac (ix hr.u (dv 1) di)<|ac (bC T.b9 (dF T) hr<|al 0<|al 2<|ac (ix hr.u (dv 1) di) an)<|ac (ix hr.u (dv 1) di) an),?_};rcases hs with (rfl|⟨ks,rfl,hk8,JL⟩|⟨o,c,v,hc,hv,ho,rfl⟩)|⟨e,rfl,he⟩|⟨o,es,ho,rfl,R6,YC⟩;exact !!!⟨sJ (by trivial)<|fo q⟩;refine !!!⟨dW (by trivial) !!!⟨sJ (by trivial) ?_⟩⟩;refine !!!!{rfl,?_,?_};rw[List.all_map];exact ye.mpr λ_ _=>rfl;rw[IF]at q;exact fo q;rw[VJ]at q;have fin:∀Zq,fW [D.str o,aq cs r.2 c.1,v] S (λd S'=>Fo S'<|R d) Zq:=λ_=>{o,_,v,c,rfl,(qg hg hw hc).2,hv,ho,fo q};have h4:o ="is"\/o ="below"\/o ="above"\/o ="begins":=by rcases ho with h|⟨_,h|h|⟨h,_⟩⟩;exact .inl h;exact .inr<|.inl h;exact .inr<|.inr<|.inl h;exact .inr<|.inr<|.inr h
  rcases h4 with rfl|rfl|rfl|rfl;exact !!!⟨dW (by trivial) !!!⟨dW (by trivial) !!!⟨dW (by trivial) !!!⟨dW (by trivial) !!!⟨dW (by trivial) !!!!!!{cs,r,c,rfl,hg,hw,hc,_,rfl,_,rfl,fin _}⟩⟩⟩⟩⟩;exact !!!⟨dW (by trivial) !!!⟨dW (by trivial) !!!⟨dW (by trivial) !!!⟨dW (by trivial) !!!⟨dW (by trivial) !!!!!!{cs,r,c,rfl,hg,hw,hc,_,rfl,_,rfl,fin _}⟩⟩⟩⟩⟩;exact !!!⟨dW (by trivial) !!!⟨dW (by trivial) !!!⟨dW (by trivial) !!!⟨dW (by trivial) !!!⟨dW (by trivial) !!!!!!{cs,r,c,rfl,hg,hw,hc,_,rfl,_,rfl,fin _}⟩⟩⟩⟩⟩;exact !!!⟨dW (by trivial) !!!⟨dW (by trivial) !!!⟨dW (by trivial) !!!⟨dW (by trivial) !!!⟨dW (by trivial) !!!!!!{cs,r,c,rfl,hg,hw,hc,_,rfl,_,rfl,fin _}⟩⟩⟩⟩⟩;rw[IG]at q;exact !!!⟨dW (by trivial) !!!⟨dW (by trivial) !!!⟨sJ (by trivial) !!!!{cs,e,r,rfl,hg,he,hw,_,rfl,fo q}⟩⟩⟩;have hz:es.length<=1000:=by lia
  rcases ho with rfl|rfl;rw[IH]at q;refine !!!⟨dW (by trivial) !!!⟨dW (by trivial) !!!⟨dW (by trivial) !!!⟨sJ (by trivial) !!{_,.inl rfl,?_}⟩⟩⟩⟩;refine comp_map (λd=>.bl<|bU cs r n d) trivial hz (λd hd Q hQ=>!!!{cs,d,r,rfl,hg,YC d hd,hw,hQ}) λp hp=>?_;refine{.ref p,es.map<|bU cs r n,rfl,?_,S,.new hp,?_};show(S.set p<|.lst<|es.map _) p=_;rw[aa,zB];rfl;rw[all_map];exact q;rw[LV]at q;refine !!!⟨dW (by trivial) !!!⟨dW (by trivial) !!!⟨dW (by trivial) !!!⟨dW (by trivial) !!!⟨sJ (by trivial) !!{_,.inl rfl,?_}⟩⟩⟩⟩⟩;refine comp_map (λd=>.bl<|bU cs r n d) trivial hz (λd hd Q hQ=>!!!{cs,d,r,rfl,hg,YC d hd,hw,hQ}) λp hp=>?_;refine{.ref p,es.map<|bU cs r n,rfl,?_,S,.new hp,?_};show(S.set p<|.lst<|es.map _) p=_;rw[aa,zB];rfl;rw[List.any_map];exact q
abbrev Row:=Str×List D
abbrev Part:=Str×Str×Str
theorem QL{a b:Str}(h:a.cps.toList=b.cps.toList):a=b:=by obtain⟨x⟩:=a;obtain⟨y⟩:=b;exact congrArg Str.mk<|Array.ext' h
theorem DC(a:Str):t9 a a=false:=zq<|List.lt_irrefl _
theorem we{a b:Str}(h:a≠b):t9 b a=!t9 a b:=by unfold t9;rw[yB];simp only[decide_eq_true_iff,Bool.not_eq_true',decide_eq_false_iff_not];constructor;exact λh1 h2=>List.lt_irrefl _<|List.lt_trans h1 h2;intro h1;by_cases h2:b.cps.toList<a.cps.toList;exact h2;exact absurd (QL<|List.le_antisymm (List.not_lt.mp h2)<|List.not_lt.mp h1) h
theorem QM(h1:t9 a b=true)(h2:t9 b c=true):t9 a c=true:=zx<|List.lt_trans (zi h1)<|zi h2
theorem DD(a:D):tK a a=false:=by cases a<;>first|rfl|exact DC _|exact zq (Int.lt_irrefl _)
theorem mL(ha:Vg k a)(hb:Vg k b)(na:a≠.ao)(nb:b≠.ao)(h:a≠b):tK b a=!tK a b:=by rcases wc ha hb na nb with⟨i,j,rfl,rfl⟩|⟨i,j,rfl,rfl⟩;have lg:i≠j:=λe=>h<|congrArg D.int e;show decide (j<i)=!decide (i<j);rw[yB];simp only[decide_eq_true_iff,Bool.not_eq_true',decide_eq_false_iff_not];lia;exact we λe=>h<|congrArg D.str e
theorem II(h1:tK a b=true)(h2:tK b c=true):tK a c=true:=by cases a with|int i=>(cases b with|int j=>(cases c with|int l=>have h1:i<j:=zi h1;have h2:j<l:=zi h2;exact zx (by lia)|_=>cases h2)|_=>cases h1)|str i=>(cases b with|str j=>(cases c with|str l=>exact QM h1 h2|_=>cases h2)|_=>cases h1)|_=>cases h1
theorem IJ(h:Vc a b):tK a b=true:=by cases a with|int i=>(cases b with|int j=>exact zx h|_=>exact h.elim)|str i=>(cases b with|str j=>exact zx h|_=>exact h.elim)|_=>exact h.elim
noncomputable def df(p:Part)(x y:D):Bool:=if (ah x != ah y)=true then ah x==decide (p.2.2 ="first") else tK x y==decide (p.2.1 ="up")
noncomputable def cU(cs:List<|Str×Str)(wy:Str):List Part->Row->Row->Bool|[],a,b=>t9 a.1 b.1==decide (wy ="up")|p::ps,a,b=>if oU (aq cs a.2 p.1) (aq cs b.2 p.1)=true then cU cs wy ps a b else df p (aq cs a.2 p.1) (aq cs b.2 p.1)
theorem bxor:((!x)==u)=!(x==u):=by cases x<;>cases u<;>rfl
theorem dU(h:ah x=true):x=.ao:=by cases x<;>first|rfl|cases h
theorem uH(hx:Vg k x)(hy:Vg k y)(h:x≠y):df p y x=!df p x y:=by unfold df;cases nx:ah x with|true=>(cases ny:ah y with|true=>exact absurd ((dU nx).trans (dU ny).symm) h|false=>rw[if_pos<|by rfl,if_pos<|by rfl];cases decide (p.2.2 ="first")<;>rfl)|false=>cases ny:ah y with|true=>(rw[if_pos<|by rfl,if_pos<|by rfl];cases decide (p.2.2 ="first")<;>rfl)|false=>rw[if_neg<|by simp,if_neg<|by simp,mL hx hy (bt nx) (bt ny) h,bxor]
theorem LW(hx:Vg k x)(hy:Vg k y)(hz:Vg k z)(hxy:x≠y)(hyz:y≠z)(h1:df p x y=true)(h2:df p y z=true):x≠z/\df p x z=true:=by
 have hxz:x≠z:=by rintro rfl;have:=uH (p:=p) hx hy hxy;rw[h1,h2]at this;cases this
 refine{hxz,?_};unfold df at h1 h2⊢;cases nx:ah x with|true=>(cases ny:ah y with|true=>exact absurd ((dU nx).trans (dU ny).symm) hxy|false=>rw[nx,ny,if_pos<|by rfl]at h1;cases nz:ah z with|true=>exact absurd ((dU nx).trans (dU nz).symm) hxz|false=>rw[if_pos<|by rfl];exact h1)|false=>cases ny:ah y with|true=>(rw[nx,ny,if_pos<|by rfl]at h1;cases nz:ah z with|true=>exact absurd ((dU ny).trans (dU nz).symm) hyz|false=>rw[ny,nz,if_pos<|by rfl]at h2;cases e:decide (p.2.2 ="first")<;>rw[e]at h1 h2<;>first|cases h1;done|cases h2;done)|false=>rw[nx,ny,if_neg<|by simp]at h1;cases nz:ah z with|true=>rw[ny,nz,if_pos<|by rfl]at h2;rw[if_pos<|by rfl];exact h2|false=>rw[ny,nz,if_neg<|by simp]at h2;rw[if_neg<|by simp];cases e:decide (p.2.1 ="up") with|true=>rw[e]at h1 h2;rw[II (a:=x) (b:=y) (c:=z) (by simpa using h1)<|by simpa using h2];rfl|false=>rw[e]at h1 h2;have h1:tK x y=false:=(by simpa using h1);have h2:tK y z=false:=(by simpa using h2);have a1:=mL hx hy (bt nx) (bt ny) hxy;have a2:=mL hy hz (bt ny) (bt nz) hyz;rw[h1]at a1;rw[h2]at a2;have a3:=II a2 a1;have a4:=mL hx hz (bt nx) (bt nz) hxz;rw[a3]at a4;cases q:tK x z with|true=>(rw[q]at a4;cases a4)|false=>rfl
def Pin(cs:List<|Str×Str)(ps:List Part):Prop:=∀p∈ps,∃c∈cs,c.1=p.1
section
variable{cs:List (Str×Str)}{wy:Str}
theorem Pin.tail(h:Pin cs<|p::ps):Pin cs ps:=λq hq=>h q<|zh _ hq
theorem wg(hg:Gd cs)(h:Pin cs<|p::ps):∃k,∀ws,Wg cs ws->Vg k (aq cs ws p.1):=by obtain⟨c,hc,e⟩:=h p zp;rw[<-e];exact{c.2,λws hw=>(qg hg hw hc).2}
theorem yX(hg:Gd cs):∀{ps:List Part}{a b:Row},Pin cs ps->Wg cs a.2->Wg cs b.2->a.1≠b.1->cU cs wy ps b a=!cU cs wy ps a b|[],a,b,_,_,_,h=>by show(t9 b.1 a.1==_)=!(t9 a.1 b.1==_);rw[we h,bxor]|p::ps,a,b,hp,ha,hb,h=>by obtain⟨k,hk⟩:=wg hg hp;have va:=hk _ ha;have vb:=hk _ hb;unfold cU;by_cases e:aq cs a.2 p.1=aq cs b.2 p.1;rw[if_pos<|(dq vb.2 va.2).mpr e.symm,if_pos<|(dq va.2 vb.2).mpr e];exact yX hg hp.tail ha hb h;rw[if_neg λq=>e ((dq vb.2 va.2).mp q).symm,if_neg λq=>e<|(dq va.2 vb.2).mp q];exact uH va vb e
def Rg(cs:List<|Str×Str)(rs:List Row):Prop:=(∀r∈rs,Wg cs r.2)/\(rs.map Prod.fst).Nodup
theorem Rg.perm(h:Rg cs rs)(p:cW.Perm rs):Rg cs cW:={λr hr=>h.1 r<|p.mem_iff.mp hr,(p.map _).nodup_iff.mpr h.2}
theorem Rg.sub(h:Rg cs rs)(p:cW.Sublist rs):Rg cs cW:={λr hr=>h.1 r<|p.subset hr,h.2.sublist<|p.map _}
theorem LX(hg:Gd cs)(hp:Pin cs ps)(hr:Rg cs m)(hl:l.Pairwise λa b=>cU cs wy ps a b=true)(hm:m.Pairwise λa b=>cU cs wy ps a b=true)(pm:l.Perm m):l=m:=by refine List.Perm.eq_of_pairwise (le:=λa b=>cU cs wy ps a b=true) (λa b ha hb h1 h2=>?_) hl hm pm;have ha:=pm.mem_iff.mp ha;by_cases e:a.1=b.1;exact iJ (f:=Prod.fst) hr.2 ha hb e;have:=yX (wy:=wy) hg hp (hr.1 a ha) (hr.1 b hb) e;rw[h1,h2]at this;cases this
end
theorem B8{l m:List Nat}(hl:l.Nodup)(hm:m.Nodup)(h:∀x,x∈l↔x∈m):l.Perm m:=by induction l generalizing m with|nil=>(cases m with|nil=>exact .nil|cons y m=>exact absurd ((h y).mpr zp)<|by simp)|cons x l ih=>obtain⟨n1,n2⟩:=yn.mp hl;have hx:=(h x).mp zp;refine .trans ((ih n2 (hm.erase x) λy=>?_).cons x) (List.perm_cons_erase hx).symm;rw[hm.mem_erase_iff];constructor;intro hy;exact{λe=>n1<|e ▸ hy,(h y).mp<|zh _ hy};rintro⟨h1,h2⟩;rcases zf.mp ((h y).mpr h2) with e|e;exact absurd e h1;exact e
theorem map_range(d:α)(xs:List α):(List.range xs.length).map (λk=>xs.getD k d)=xs:=by refine List.ext_getElem (by simp) λi h1 h2=>?_;simp[ze h2]
theorem Fu{α:Type}(d:α){xs:List α}{g:Nat->Nat}(lt:∀k,k<xs.length->g k<xs.length)(inj:∀i j,i<xs.length->j<xs.length->g i=g j->i=j):((List.range xs.length).map λk=>xs.getD (g k) d).Perm xs:=by
 have nd:((List.range xs.length).map g).Nodup:=by refine List.pairwise_map.mpr<|List.nodup_range.imp_of_mem λ{a b} ha hb n e=>n<|inj a b (zT.mp ha) (zT.mp hb) e
 have sub:∀x∈(List.range xs.length).map g,x∈List.range xs.length:=λx hx=>by obtain⟨k,hk,rfl⟩:=zj.mp hx;exact zT.mpr<|lt k<|zT.mp hk
 have p:((List.range xs.length).map g).Perm (List.range xs.length):=B8 nd List.nodup_range λx=>by refine{sub x,λhx=>?_};by_cases h:x∈(List.range xs.length).map g;exact h;exfalso;have:=sub_len nd (m:=(List.range xs.length).erase x) λy hy=>(List.Nodup.mem_erase_iff List.nodup_range).mpr {λe=>h<|e ▸ hy,sub y hy};rw[zc,List.length_erase_of_mem hx,List.length_range]at this;have:=zT.mp hx;lia
 have e:((List.range xs.length).map λk=>xs.getD (g k) d)=((List.range xs.length).map g).map λk=>xs.getD k d:=by rw[zB];rfl
 rw[e];have:=p.map λk=>xs.getD k d;rw[map_range]at this;exact this
theorem Fv{α:Type}(d:α){xs:List α}{g:Nat->Nat}{r:α->α->Prop}(h:∀i j,i<j->j<xs.length->r (xs.getD (g i) d) (xs.getD (g j) d)):((List.range xs.length).map λk=>xs.getD (g k) d).Pairwise r:=by rw[List.pairwise_map,List.pairwise_iff_getElem];intro i j hi hj lg;rw[List.length_range]at hj;rw[List.getElem_range,List.getElem_range];exact h i j lg hj
noncomputable def r0:Row:=("",[])
theorem getD_map{rs:List Row}{j:Nat}(h:j<rs.length):(rs.map ak).getD j .ao=ak (rs.getD j r0):=by rw[zE,zE,zr,ze h];rfl
theorem getD_mem{rs:List Row}{j:Nat}(h:j<rs.length):rs.getD j r0∈rs:=by rw[zE,ze h];exact List.getElem_mem h
theorem mM{rs:List Row}{b:Bool}{f:D->D}{g:Nat->Nat}(h:PZ b (λj=>f<|(rs.map ak).getD j .ao) (rs.map ak).length g): ∃cW:List Row,(List.range (rs.map ak).length).map (λk=>(rs.map ak).getD (g k) .ao)=cW.map ak/\cW.Perm rs/\∀q r:Row->Row->Prop,rs.Pairwise q->(∀x y,x∈rs->y∈rs->(if b=true then Vc (f<|ak y) (f<|ak x) else Vc (f<|ak x) (f<|ak y))->r x y)->(∀x y,x∈rs->y∈rs->f (ak x)=f (ak y)->q x y->r x y)->cW.Pairwise r:=by have hn:(rs.map ak).length=rs.length:=zc _;rw[hn]at h⊢;refine{(List.range rs.length).map λk=>rs.getD (g k) r0,?_,Fu r0 h.lt h.inj,λq r hq h1 h2=>Fv r0 λi j lg hj=>?_};rw[zB];exact zX λk hk=>getD_map<|h.lt k<|zT.mp hk;have gi:=h.lt i<|Nat.lt_trans lg hj;have gj:=h.lt j hj;have o:=h.ord i j lg hj;rw[getD_map gi,getD_map gj]at o;rcases o with o|⟨o,l⟩;exact h1 _ _ (getD_mem gi) (getD_mem gj) o;refine h2 _ _ (getD_mem gi) (getD_mem gj) o ?_;have:=List.pairwise_iff_getElem.mp hq (g i) (g j) gi gj l;rw[zE,zE,ze gi,ze gj];exact this
section
variable{cs:List (Str×Str)}{wy:Str}
noncomputable def valued(cs:List<|Str×Str)(p:Part)(r:Row):Bool:=!ah (aq cs r.2 p.1)
theorem LY(h1:ah x=true)(h2:ah y=true):oU x y=true:=by rw[dU h1,dU h2];rfl
theorem wj(h:ah x≠ah y):oU x y=false:=by cases x<;>cases y<;>first|rfl|exact absurd rfl h
theorem Fw{ps:List Part}{p:Part}{L V:List Row}(hL:L.Pairwise λa b=>cU cs wy ps a b=true)(hV:V.Perm<|L.filter<|valued cs p)(Xf:V.Pairwise λa b=>cU cs wy (p::ps) a b=true): (if p.2.2 ="first" then L.filter (λr=>!valued cs p r)++V else V++L.filter (λr=>!valued cs p r)).Perm L/\(if p.2.2 ="first" then L.filter (λr=>!valued cs p r)++V else V++L.filter (λr=>!valued cs p r)).Pairwise λa b=>cU cs wy (p::ps) a b=true:=by
 have hN:(L.filter λr=>!valued cs p r).Pairwise λa b=>cU cs wy (p::ps) a b=true:=by refine(hL.sublist yA).imp_of_mem λ{a b} ha hb h=>?_;have ha:=(yi.mp ha).2;have hb:=(yi.mp hb).2;unfold valued at ha hb;rw[Bool.not_not]at ha hb;show(if oU (aq cs a.2 p.1) (aq cs b.2 p.1)=true then cU cs wy ps a b else _)=true;rw[if_pos<|LY ha hb];exact h
 have NA:∀a∈L.filter (λr=>!valued cs p r),∀b∈V,ah (aq cs a.2 p.1)=true/\ah (aq cs b.2 p.1)=false:=λa ha b hb=>by have ha:=(yi.mp ha).2;have hb:=(yi.mp<|hV.mem_iff.mp hb).2;unfold valued at ha hb;rw[Bool.not_not]at ha;exact{ha,by simpa using hb}
 have pm:(L.filter (λr=>!valued cs p r)++V).Perm L:=(List.Perm.append_left _ hV).trans<|List.perm_append_comm.trans<|List.filter_append_perm (valued cs p) L;by_cases e:p.2.2 ="first";rw[if_pos e];refine{pm,List.pairwise_append.mpr {hN,Xf,λa ha b hb=>?_}};obtain⟨na,nb⟩:=NA a ha b hb;show(if oU (aq cs a.2 p.1) (aq cs b.2 p.1)=true then cU cs wy ps a b else df p (aq cs a.2 p.1) (aq cs b.2 p.1))=true;rw[wj<|by rw[na,nb];nofun,if_neg zd];unfold df;rw[na,nb,if_pos<|by rfl,zx e];rfl;rw[if_neg e];refine{List.perm_append_comm.trans pm,List.pairwise_append.mpr {Xf,hN,λa ha b hb=>?_}};obtain⟨na,nb⟩:=NA b hb a ha;show(if oU (aq cs a.2 p.1) (aq cs b.2 p.1)=true then cU cs wy ps a b else df p (aq cs a.2 p.1) (aq cs b.2 p.1))=true;rw[wj<|by rw[na,nb];nofun,if_neg zd];unfold df;rw[na,nb,if_pos<|by rfl,zq e];rfl
end
noncomputable abbrev qK:Str:="sorted_by_keys.<locals>.<lambda>"
noncomputable abbrev qV:Str:="sorted_by_values.<locals>.<lambda>"
noncomputable def QN:D->D|.tup (x::_)=>x|_=>.ao
noncomputable def B9(cs:List<|Str×Str)(z:Str):D->D|.tup [_,.tup ws]=>aq cs ws z|_=>.ao
inductive IK (t:eZ) (ds:List D) (S:aw) (R:KD) (Z:KX):Prop where
 |mk (cs:List<|Str×Str) (l:Addr) (rs:List Row) (wy:Str) (h0:ds=[.ref l,.str wy]) (h1:eJ wy=true) (h2:S l=some (.lst<|rs.map ak)) (h3:rs.length<64) (h4:Rg cs rs) (h5:S t.aO=some (.tab qK)) (h6:∀(cW:List Row)(p:Addr),cW.Perm rs->(cW.Pairwise λa b=>cU cs wy [] a b=true)->S p=none->R (.ref p) (S.set p<|.lst<|cW.map ak))
theorem cN{S S2:aw}{p:Addr}{c:Ce}(h:Sub S S2):Sub (S.set p c) (S2.set p c):=λb e hb=>by by_cases q:b=p;subst q;rw[aa]at hb⊢;exact hb;rw[ag q]at hb⊢;exact h b e hb
theorem cg{S S2:aw}{p:Addr}(h:Sub S S2)(e:S2 p=none):S p=none:=by cases q:S p with|none=>rfl|some c=>rw[h p c q]at e;cases e
theorem wk{z:Str}(h:eJ z=true):z ="up"\/z ="down":=by unfold eJ at h;simpa using h
theorem Rg.unlike(h:Rg cs rs):rs.Pairwise λa b=>a.1≠b.1:=List.pairwise_map.mp h.2
theorem mO(T:Txt w K mg t)(B:Bm mg base):Ok P w base T.fN 4 (IK t):=by
 refine T.fN.F.okC (k:=3) mz (by rintro ds S R Z ⟨_,_,_,_,e,_⟩;rw[e];rfl) ?_;rintro eL A outer s H E ds S R Z pT hr ⟨cs,l,rs,wy,e,JO,hl,hn,rL,ht,q⟩;subst e;have JL:xC ((rs.map ak).map QN):=.inl {rs.map Prod.fst,by rw[zB,zB];rfl};have un:rs.Pairwise λa b=>a.1≠b.1:=rL.unlike;have JG:(rs.map ak).length<64:=by rw[zc];exact hn
 refine{_,(sc (si (bL bG hr.u (dv 1) ds) (s1<|sr<|Nf (N:=["row"]) (src:=[none]) (pT.trans T.gm) ⟨T.dM,B⟩ hr (oy (ae gR) ["rows","way"] rfl rfl<|by trivial) (dv 0) (λ_ _ _ _=>(ix (hr.in1.in1.deeper _).units (dv 0) di)) T.gX fC) s0)<|s1<|sr<|Ve (N:=["row"]) (src:=[none]) (pT.trans T.gm) ⟨T.dM,B⟩ hr (oy (ae gR) ["rows","way"] rfl rfl<|by trivial) (dv 0) (λ_ _ _ _=>(ix (hr.in1.in1.deeper _).units (dv 0) di)) T.gX fC),?_};rcases wk JO with rfl|rfl;refine !!⟨dW (by trivial) !{l,rs.map ak,QN,rfl,hl,JG,ht,JL,λx hx S' hs Qk hQ=>?_,λg S2 p hg hs hp=>?_}⟩;obtain⟨r,hr,rfl⟩:=zj.mp hx;exact !!⟨hQ S'<|.refl _⟩;obtain⟨cW,e,pm,h⟩:=mM hg;rw[e];refine{S.set p<|.lst<|cW.map ak,cN hs,q cW p pm (h _ _ un (λx y hx hy eY=>?_) λx y hx hy e ne=>absurd (D.str.inj e) ne)<|cg hs hp};show(t9 x.1 y.1==decide (("up": Str) ="up"))=true;have:t9 x.1 y.1=true:=zx eY;rw[this];rfl;refine !!⟨sJ (by trivial) !{l,rs.map ak,QN,rfl,hl,JG,ht,JL,λx hx S' hs Qk hQ=>?_,λg S2 p hg hs hp=>?_}⟩;obtain⟨r,hr,rfl⟩:=zj.mp hx;exact !!⟨hQ S'<|.refl _⟩;obtain⟨cW,e,pm,h⟩:=mM hg;rw[e];refine{S.set p<|.lst<|cW.map ak,cN hs,q cW p pm (h _ _ un (λx y hx hy eY=>?_) λx y hx hy e ne=>absurd (D.str.inj e) ne)<|cg hs hp};show(t9 x.1 y.1==decide (("down": Str) ="up"))=true;have:t9 y.1 x.1=true:=zx eY;by_cases e:x.1=y.1;rw[e,DC]at this;cases this;rw[we e]at this;have h2:t9 x.1 y.1=false:=by simpa using this
 rw[h2,zq<|by trivial];rfl
inductive IL (t:eZ) (ds:List D) (S:aw) (R:KD) (Z:KX):Prop where
 |mk (cs:List<|Str×Str) (ps:List Part) (p:Part) (wy:Str) (l:Addr) (rs:List Row) (h0:ds=[.tup<|cs.map aD,p3 p,.ref l]) (h1:Gd cs) (h2:Pin cs<|p::ps) (h3:eJ p.2.1=true) (h4:S l=some (.lst<|rs.map ak)) (h5:rs.length<64) (h6:Rg cs rs) (h7:(∀r∈rs,valued cs p r=true)) (h8:(rs.Pairwise λa b=>cU cs wy ps a b=true)) (h9:S t.aI=some (.tab qV)) (h10:∀(cW:List Row)(a:Addr),cW.Perm rs->(cW.Pairwise λa b=>cU cs wy (p::ps) a b=true)->S a=none->R (.ref a) (S.set a<|.lst<|cW.map ak))
theorem B_{α:Type}{f:α->D}{β:Type}{mk:β->D} : ∀{l:List α},(∀x∈l,∃b,f x=mk b)->∃bs:List β,l.map f=bs.map mk|[],_=>{[],rfl}|x::l,h=>by obtain⟨b,e⟩:=h x zp;obtain⟨bs,e2⟩:=B_ λy hy=>h y<|zh _ hy;exact{b::bs,by rw[zJ,e,e2];rfl}
theorem Fx{cs:List<|Str×Str}{p:Part}{k:Str}{rs:List Row}(hk:∀r∈rs,Vg k<|aq cs r.2 p.1)(hv:∀r∈rs,valued cs p r=true):xC ((rs.map ak).map<|B9 cs p.1):=by
 rw[zB];have nn:∀r∈rs,aq cs r.2 p.1≠.ao:=λr hr=>bt (by have:=hv r hr;unfold valued at this;simpa using this);by_cases e:k ="number";refine .inr<|B_ λr hr=>?_;have h1:=hk r hr;have h2:=nn r hr;show ∃b,aq cs r.2 p.1=.int b;generalize aq cs r.2 p.1=v at h1 h2;cases v with|ao=>exact absurd rfl h2|int i=>exact⟨i,rfl⟩|str z=>(have h1:=h1.1;unfold hG at h1;simp only[ah,yP]at h1;rw[if_pos e]at h1;cases h1)|_=>cases h1.2
 refine .inl<|B_ λr hr=>?_;have h1:=hk r hr;have h2:=nn r hr;show ∃b,aq cs r.2 p.1=.str b;generalize aq cs r.2 p.1=v at h1 h2;cases v with|ao=>exact absurd rfl h2|str i=>exact⟨i,rfl⟩|int z=>(have h1:=h1.1;unfold hG at h1;simp only[ah,yP]at h1;rw[if_neg e]at h1;cases h1)|_=>cases h1.2
theorem IM{cs:List<|Str×Str}{wy:Str}{ps:List Part}{p:Part}{x y:Row}(nx:valued cs p x=true)(ny:valued cs p y=true)(ne:oU (aq cs x.2 p.1) (aq cs y.2 p.1)=false)(h:(tK (aq cs x.2 p.1) (aq cs y.2 p.1)==decide (p.2.1 ="up"))=true):cU cs wy (p::ps) x y=true:=by
 unfold valued at nx ny;have nx:ah (aq cs x.2 p.1)=false:=by simpa using nx
 have ny:ah (aq cs y.2 p.1)=false:=by simpa using ny
 show(if oU (aq cs x.2 p.1) (aq cs y.2 p.1)=true then cU cs wy ps x y else df p (aq cs x.2 p.1) (aq cs y.2 p.1))=true;rw[ne,if_neg zd];unfold df;rw[nx,ny,if_neg<|by simp];exact h
theorem IP{x y:D}(h:tK x y=true):oU x y=false:=by cases x with|int i=>(cases y with|int j=>(exact zq λe=>by rw[e,DD]at h;cases h)|_=>cases h)|str i=>(cases y with|str j=>(exact zq λe=>by rw[e,DD]at h;cases h)|_=>cases h)|_=>cases h
theorem IQ(x y:D):oU x y=oU y x:=by cases x<;>cases y<;>first|rfl|exact yE.mpr ⟨Eq.symm,Eq.symm⟩
theorem kG(T:Txt w K mg t)(B:Bm mg base):Ok P w base T.eC 6 (IL t):=by
 refine T.eC.F.okC (k:=5) kF (by rintro ds S R Z ⟨_,_,_,_,_,_,e,_⟩;rw[e];rfl) ?_;rintro eL A outer s H E ds S R Z pT hr ⟨cs,ps,p,wy,l,rs,e,hg,IS,JO,hl,hn,rL,hv,VL,ht,q⟩;subst e;obtain⟨c,hc,ec⟩:=IS p zp;obtain⟨k,hk⟩:=wg hg IS;have JL:xC ((rs.map ak).map<|B9 cs p.1):=Fx (λr hr=>hk _<|rL.1 r hr) hv;have JG:(rs.map ak).length<64:=by rw[zc];exact hn
 have same:∀x y:Row,x∈rs->y∈rs->B9 cs p.1 (ak x)=B9 cs p.1 (ak y)->cU cs wy ps x y=true->cU cs wy (p::ps) x y=true:=λx y hx hy e h=>by show(if oU (aq cs x.2 p.1) (aq cs y.2 p.1)=true then cU cs wy ps x y else _)=true;rw[if_pos<|(dq (hk _<|rL.1 x hx).2 (hk _<|rL.1 y hy).2).mpr e];exact h
 have step:∀x,x∈rs.map ak->∀Qk:KD,∀S':aw,Qk (B9 cs p.1 x) S'->∀Zq,lK [D.tup<|cs.map aD,x,.str p.1] S' Qk Zq:=λx hx Qk S' hQ _=>by obtain⟨r,hr,rfl⟩:=zj.mp hx;exact{cs,r,c,by rw[ec],hg,rL.1 r hr,hc,by rw[ec];exact hQ}
 refine{_,(sc (si (bL bG hr.u (ix hr.u (dv 1) di) ds) (s1<|sr<|Nf (N:=["row","columns","part"]) (src:=[none,some 0,some 1]) (pT.trans T.fm) ⟨T.cR,B⟩ hr (oy (ae fL) ["columns","part","rows"] rfl rfl<|by trivial) (dv 2) (λ_ _ _ _=>(cf ((dF T).mono<|by decide) (hr.in1.in1.deeper _) T.b9.m T.b9.k T.b9.b d0<|al 1<|al 0<|ac (ix (hr.in1.in1.deeper _).units (dv 2) di) an)) T.gX fC) s0)<|s1<|sr<|Ve (N:=["row","columns","part"]) (src:=[none,some 0,some 1]) (pT.trans T.fm) ⟨T.cR,B⟩ hr (oy (ae fL) ["columns","part","rows"] rfl rfl<|by trivial) (dv 2) (λ_ _ _ _=>(cf ((dF T).mono<|by decide) (hr.in1.in1.deeper _) T.b9.m T.b9.k T.b9.b d0<|al 1<|al 0<|ac (ix (hr.in1.in1.deeper _).units (dv 2) di) an)) T.gX fC),?_};rcases wk JO with e1|e1;refine !!!⟨dW (by rw[e1];decide +kernel) !{l,rs.map ak,B9 cs p.1,rfl,hl,JG,ht,JL,λx hx S' hs Qk hQ=>!!!!⟨step x hx _ S' (hQ S'<|.refl _) _⟩,λg S2 a hg hs ha=>?_}⟩;obtain⟨cW,e,pm,h⟩:=mM hg;rw[e];refine{S.set a<|.lst<|cW.map ak,cN hs,q cW a pm (h _ _ VL (λx y hx hy eY=>?_) same)<|cg hs ha};have eY:=IJ (a:=aq cs x.2 p.1) (b:=aq cs y.2 p.1) eY;exact IM (hv x hx) (hv y hy) (IP eY) (by rw[eY,zx e1];rfl);refine !!!⟨sJ (by rw[e1];decide +kernel) !{l,rs.map ak,B9 cs p.1,rfl,hl,JG,ht,JL,λx hx S' hs Qk hQ=>!!!!⟨step x hx _ S' (hQ S'<|.refl _) _⟩,λg S2 a Zp hs ha=>?_}⟩;obtain⟨cW,e,pm,h⟩:=mM Zp;rw[e];refine{S.set a<|.lst<|cW.map ak,cN hs,q cW a pm (h _ _ VL (λx y hx hy eY=>?_) same)<|cg hs ha};have eY:=IJ (a:=aq cs y.2 p.1) (b:=aq cs x.2 p.1) eY;have ne:=IP eY;refine IM (hv x hx) (hv y hy) (by rw[IQ];exact ne) ?_;have nn:∀r∈rs,aq cs r.2 p.1≠.ao:=λr hr=>bt (by have:=hv r hr;unfold valued at this;simpa using this);have LI:aq cs x.2 p.1≠aq cs y.2 p.1:=λe=>by have:=(dq (hk _<|rL.1 y hy).2 (hk _<|rL.1 x hx).2).mpr e.symm;rw[ne]at this;cases this
 have:=mL (hk _<|rL.1 x hx) (hk _<|rL.1 y hy) (nn x hx) (nn y hy) LI;rw[eY]at this;have h2:tK (aq cs x.2 p.1) (aq cs y.2 p.1)=false:=by simpa using this
 rw[h2,e1,zq<|by trivial];rfl
def Tb(t:eZ)(S:aw):Prop:=S t.aO=some (.tab qK)/\S t.aI=some (.tab qV)
theorem Tb.sub{t:eZ}{S S':aw}(h:Tb t S)(s:Sub S S'):Tb t S':={s _ _ h.1,s _ _ h.2}
noncomputable def DF(b:Bool)(cs:List<|Str×Str)(p:Part):D->Bool|.tup [_,.tup ws]=>ah (aq cs ws p.1)==b|_=>false
theorem n_{rs:List Row}{f:D->Bool}{g:Row->Bool}(h:∀r,f (ak r)=g r):((rs.map ak).filter f).map id=(rs.filter g).map ak:=by rw[List.map_id,List.filter_map];exact congrArg (List.map ak)<|List.filter_congr λr _=>h r
inductive IT (t:eZ) (ds:List D) (S:aw) (R:KD) (Z:KX):Prop where
 |mk (cs:List<|Str×Str) (ps:List Part) (p:Part) (wy:Str) (l:Addr) (rs:List Row) (h0:ds=[.tup<|cs.map aD,p3 p,.ref l]) (h1:Gd cs) (h2:Pin cs<|p::ps) (h3:eJ p.2.1=true) (h4:S l=some (.lst<|rs.map ak)) (h5:rs.length<64) (h6:Rg cs rs) (h7:(rs.Pairwise λa b=>cU cs wy ps a b=true)) (h8:Tb t S) (h9:∀(cW:List Row)(a:Addr),cW.Perm rs->(cW.Pairwise λa b=>cU cs wy (p::ps) a b=true)->S a=none->R (.ref a) (S.set a<|.lst<|cW.map ak))
theorem mP(T:Txt w K mg t)(B:Bm mg base):Ok P w base T.fQ 7 (IT t):=by
 refine T.fQ.F.cP cn ?_;obtain⟨cs,ps,p,wy,l,rs,e,hg,IS,JO,hl,hn,rL,VL,ht,q⟩;obtain⟨c,hc,ec⟩:=IS p zp;have hz:(rs.map ak).length<=1000:=by rw[zc];lia
 refine{_,(sc (RL (i:=3) (N:=["row","columns","part"]) (src:=[none,some 0,some 1]) cn.nd (oy (ae gT) ["columns","part","rows","without","valued"] rfl rfl<|by trivial) (il<|dv 2) (ur<|show(["row","columns","part"]:List Str).Nodup by trivial) (aY rfl) aZ (λ_ _ _ _ _=>(if1<|bL nv hr.u (bC T.b9 (dF T) hr<|al 1<|al 0<|ac (ix hr.u (dv 2) di) an) dn)) λ_ _ _ _ _=>(dv 0))<|sc (RL (i:=4) (N:=["row","columns","part"]) (src:=[none,some 0,some 1]) cn.nd (oy (ae gT) ["columns","part","rows","without","valued"] rfl rfl<|by trivial) (il<|dv 2) (ur<|show(["row","columns","part"]:List Str).Nodup by trivial) (aY rfl) aZ (λ_ _ _ _ _=>(if1<|bL qI hr.u (bC T.b9 (dF T) hr<|al 1<|al 0<|ac (ix hr.u (dv 2) di) an) dn)) λ_ _ _ _ _=>(dv 0))<|sc (ck (i:=4) cn.nd<|bC T.eC (kG T B) hr<|al 0<|al 1<|al 4 an)<|s1<|sr<|Uh (bL bG hr.u (ix hr.u (dv 1) di) ds) (bo bj hr.u (dv 3)<|dv 4)<|bo bj hr.u (dv 4)<|dv 3),?_};refine !{_,hl,?_};refine ke (DF true cs p) id hl hz (λd hd Q Q' hQ Qq=>?_) λp1 Dx=>?_;obtain⟨r,hr,rfl⟩:=zj.mp hd;refine !!!!{cs,r,c,(show[D.tup<|cs.map aD,ak r,D.str p.1]=[_,_,D.str c.1] by rw[ec]),hg,rL.1 r hr,hc,?_};rw[ec];refine{_,rfl,bB (λh=>!⟨hQ ?_⟩) λh=>Qq ?_};show(ah (aq cs r.2 p.1)==true)=true;rw[show ah (aq cs r.2 p.1)=true from h];rfl;show(ah (aq cs r.2 p.1)==true)=false;rw[show ah (aq cs r.2 p.1)=false from h];rfl;have e1:((rs.map ak).filter<|DF true cs p).map id=(rs.filter λr=>!valued cs p r).map ak:=n_ λr=>by show(ah (aq cs r.2 p.1)==true)=!valued cs p r;unfold valued;cases ah (aq cs r.2 p.1)<;>rfl
 rw[show({rs.map ak,λS=>ug S (.ref l)<|rs.map ak}:vg).xs=rs.map ak from rfl,e1];have AB:Sub S (S.set p1<|.lst<|(rs.filter λr=>!valued cs p r).map ak):=.new Dx;have h1:(S.set p1<|.lst<|(rs.filter λr=>!valued cs p r).map ak) p1=some (.lst<|(rs.filter λr=>!valued cs p r).map ak):=aa;generalize S.set p1 (.lst<|(rs.filter λr=>!valued cs p r).map ak)=S1 at AB h1⊢;have AA:=AB _ _ hl;refine !{_,AA,?_};refine ke (DF false cs p) id AA hz (λd hd Q Q' hQ Qq=>?_) λp2 lP=>?_;obtain⟨r,hr,rfl⟩:=zj.mp hd;refine !!!!{cs,r,c,(show[D.tup<|cs.map aD,ak r,D.str p.1]=[_,_,D.str c.1] by rw[ec]),hg,rL.1 r hr,hc,?_};rw[ec];refine{_,rfl,bB (λh=>!⟨hQ ?_⟩) λh=>Qq ?_};show(ah (aq cs r.2 p.1)==false)=true;rw[show ah (aq cs r.2 p.1)=false from nt h];rfl;show(ah (aq cs r.2 p.1)==false)=false;rw[show ah (aq cs r.2 p.1)=true from nf h];rfl;have e2:((rs.map ak).filter<|DF false cs p).map id=(rs.filter<|valued cs p).map ak:=n_ λr=>by show(ah (aq cs r.2 p.1)==false)=valued cs p r;unfold valued;cases ah (aq cs r.2 p.1)<;>rfl
 rw[show({rs.map ak,λS=>ug S (.ref l)<|rs.map ak}:vg).xs=rs.map ak from rfl,e2];have Et:Sub S (S1.set p2<|.lst<|(rs.filter<|valued cs p).map ak):=AB.trans<|.new lP;have h21:(S1.set p2<|.lst<|(rs.filter<|valued cs p).map ak) p1=_:=(ag<|ia h1 lP).trans h1;have h22:(S1.set p2<|.lst<|(rs.filter<|valued cs p).map ak) p2=_:=aa;generalize S1.set p2 (.lst<|(rs.filter<|valued cs p).map ak)=S2 at Et h21 h22⊢;have fl:(rs.filter<|valued cs p).length<=rs.length:=List.length_filter_le _ _;have fl2:(rs.filter λr=>!valued cs p r).length<=rs.length:=List.length_filter_le _ _;refine !!!{cs,ps,p,wy,p2,rs.filter<|valued cs p,rfl,hg,IS,JO,h22,by lia,rL.sub yA,λr hr=>(yi.mp hr).2,VL.sublist yA,(ht.sub Et).2,λV p3 hV Xf Xc=>?_};obtain⟨pm,pw⟩:=Fw VL hV Xf;have h31:(S2.set p3<|.lst<|V.map ak) p1=_:=(ag<|ia h21 Xc).trans h21;have h33:(S2.set p3<|.lst<|V.map ak) p3=some (.lst<|V.map ak):=aa;have VM:Sub S (S2.set p3<|.lst<|V.map ak):=Et.trans<|.new Xc;generalize S2.set p3 (.lst<|V.map ak)=S3 at h31 h33 VM⊢;have hVl:=hV.length_eq;refine !!!⟨bB (λh=>?_) λh=>?_⟩;rw[if_pos<|zi h]at pm pw;refine !!{_,_,h31,h33,sm<|by rw[zc,zc];lia,λp4 hp4=>?_};rw[<-zH];exact{_,cN VM,q _ p4 pm pw<|cg VM hp4};rw[if_neg<|zM h]at pm pw;refine !!{_,_,h33,h31,sm<|by rw[zc,zc];lia,λp4 hp4=>?_};rw[<-zH];exact{_,cN VM,q _ p4 pm pw<|cg VM hp4}
structure Og(cs:List (Str×Str))(ps:List Part)(wy:Str):Prop where
 pin:Pin cs ps
 aau:∀p∈ps,eJ p.2.1=true
 way:eJ wy=true
 ok:Io cs ps wy=true
 tx:∀p∈ps,Pok p
noncomputable def cu(ps:List Part)(wy:Str):D:=.tup [.tup<|ps.map p3,.str wy]
inductive NB (t:eZ) (ds:List D) (S:aw) (R:KD) (Z:KX):Prop where
 |mk (cs:List<|Str×Str) (ps:List Part) (wy:Str) (l:Addr) (rs:List Row) (h0:ds=[.tup<|cs.map aD,cu ps wy,.ref l]) (h1:Gd cs) (h2:Og cs ps wy) (h3:S l=some (.lst<|rs.map ak)) (h4:rs.length<64) (h5:Rg cs rs) (h6:Tb t S) (h7:∀(cW:List Row)(a:Addr),cW.Perm rs->(cW.Pairwise λa b=>cU cs wy ps a b=true)->S a=none->R (.ref a) (S.set a<|.lst<|cW.map ak))
structure Vw(C:Addr)(S:aw)(a:Addr)(cs:List (Str×Str))(m:D)(rows:List Row):Prop where
 sh:∃F dl rs,bI C S a F cs dl rs/\rs.length<64/\tE dl.length m≠none/\∀i ss,tE dl.length m=some i->ss.Perm (rs.map (·.1))->PyProof.Rows.sortedS ss=true->eI rs i ss=rows.map ak
 mo:Gt S m
 len:rows.length<64
 rg:Rg cs rows
theorem bI.sub(b:Sub S S')(h:bI C S a F cs dl rs):bI C S' a F cs dl rs:=by obtain⟨ld,lr,ra,h,e⟩:=h;exact{ld,lr,ra,{b _ _ h.ins,b _ _ h.x5,b _ _ h.run,λr hr=>b _ _<|h.cell r hr,h.kn,h.an,h.sz},e}
theorem yY(T:Txt w K mg t)(B:Bm mg base):Ok P w base T.rj 8 (NB t):=by
 refine T.rj.F.cP gs ?_;obtain⟨cs,ps,wy,l,rs,e,hg,ho,hl,hn,rL,ht,q⟩;refine{_,(sc (ck (i:=3) gs.nd<|bC T.fN (mO T B) hr<|al 2<|ac (ix hr.u (dv 1) di) an)<|sc (pA<|Bw (irt T.q9<|ac (ix hr.u (dv 1) di) an) (gn (i:=4) gs.nd)<|s1<|ck (i:=3) gs.nd<|bC T.fQ (mP T B) hr<|al 0<|al 4<|al 3 an)<|s1<|sr<|dv 3),?_};refine !!!{cs,l,rs,wy,rfl,ho.way,hl,hn,rL,ht.1,λrs1 p1 pm1 pw1 Dx=>?_};have hrl:ps.reverse.length=ps.length:=yz;refine{λav S'=>∃(o:Option D)(p:Addr)(cW:List Row),av=[some<|.tup<|cs.map aD,some<|cu ps wy,some<|.ref l,some<|.ref p,o]/\S p=none/\S' p=some (.lst<|cW.map ak)/\Sub S S'/\cW.Perm rs/\cW.Pairwise λa b=>cU cs wy ps a b=true,?_,?_};refine !!!⟨?_⟩;refine{λi av S'=>∃(o:Option D)(p:Addr)(cW:List Row),av=[some<|.tup<|cs.map aD,some<|cu ps wy,some<|.ref l,some<|.ref p,o]/\S p=none/\S' p=some (.lst<|cW.map ak)/\Sub S S'/\cW.Perm rs/\cW.Pairwise λa b=>cU cs wy (ps.reverse.take i).reverse a b=true,{none,p1,rs1,rfl,Dx,aa,.new Dx,pm1,pw1},λ_ _ _ _=>trivial,?_,?_};rintro i d av S' hd ⟨o,p,cW,rfl,hp,eX,sb,pm,pw⟩;have hd:(ps.map p3).reverse[i]?=some d:=hd;rw[<-List.map_reverse,zr]at hd;cases e5:ps.reverse[i]? with|none=>(rw[e5]at hd;cases hd)|some pt=>rw[e5]at hd;cases hd;have Pk:pt∈ps:=List.mem_reverse.mp<|zI e5;have et:(ps.reverse.take<|i+1).reverse=pt::(ps.reverse.take i).reverse:=(by rw[List.take_add_one,e5,List.reverse_append];rfl);have RC:Pin cs (pt::(ps.reverse.take i).reverse):=λx hx=>(by rcases zf.mp hx with rfl|hx;exact ho.pin _ Pk;exact ho.pin _<|List.mem_reverse.mp<|List.mem_of_mem_take<|List.mem_reverse.mp hx);refine !!!{cs,(ps.reverse.take i).reverse,pt,wy,p,cW,rfl,hg,RC,ho.aau pt Pk,eX,by rw[pm.length_eq];exact hn,rL.perm pm,pw,ht.sub sb,λZE p2 pm2 pw2 lP=>?_};rw[<-et]at pw2;exact{_,p2,ZE,rfl,cg sb lP,aa,sb.trans<|.new lP,pm2.trans pm,pw2}
 rintro av S' ⟨o,p,cW,rfl,hp,eX,sb,pm,pw⟩;have pw:cW.Pairwise λa b=>cU cs wy (ps.reverse.take (ps.map p3).reverse.length).reverse a b=true:=pw;rw[yz,zc,List.take_of_length_le<|Nat.le_of_eq hrl,List.reverse_reverse]at pw;exact fo ⟨o,p,cW,rfl,hp,eX,sb,pm,pw⟩;rintro av S' ⟨o,p,cW,rfl,hp,eX,sb,pm,pw⟩;refine !{S.set p<|.lst<|cW.map ak,λb c hb=>?_,q cW p pm pw hp};by_cases e:b=p;subst e;rw[aa]at hb;cases hb;exact eX;rw[ag e]at hb;exact sb b c hb
noncomputable def NC(cs:List<|Str×Str)(d:D):D->Bool|.tup [.str k,.tup ws]=>bU cs (k,ws) 7 d|_=>false
inductive IU (t:eZ) (ds:List D) (S:aw) (R:KD) (Z:KX):Prop where
 |mk (a cs d m rows) (h0:ds=[.ref a,d,m]) (h1:Gd cs) (h2:Sq cs d) (h3:Vw t.aj S a cs m rows) (h4:∀p,S p=none->R (.ref p) (S.set p<|.lst<|(rows.filter λr=>bU cs r 7 d).map ak))
theorem pM(T:Txt w K mg t):Ok P w base T.iB 11 (IU t):=by refine T.iB.F.cP iX ?_;obtain⟨a,cs,d,m,rows,e,hg,hd,hv,q⟩;obtain⟨F,dl,rs,hS,hn,hmo,hrw⟩:=hv.sh;obtain⟨ld,lr,ra,h,_⟩:=id hS;refine{_,(sc (ck (i:=3) iX.nd<|iy (dv 0) T.ai T.aJ (br T) hr)<|s1<|sr<|Ax (N:=["row","columns","sieve"]) (src:=[none,some 3,some 1]) (oy (ae qS) ["shelf","sieve","moment","columns"] rfl rfl<|by trivial) (il<|pC (dv 0) T.ai T.dI (uB T) hr<|al 2 an) (ur<|show(["row","columns","sieve"]:List Str).Nodup by trivial) (aY rfl) aZ (λ_ _ _ _ _=>(if1<|tv<|bC T.passes (kl T 7) hr<|al 1<|al 2<|al 0 an)) λ_ _ _ _ _=>(dv 0)),?_};refine !{a,_,rfl,h.ins,rfl,a,F,cs,dl,rs,rfl,hS,?_};refine !{a,_,rfl,h.ins,rfl,_,rfl,a,F,cs,dl,rs,m,rfl,hS,hn,hv.mo,λi ss hi hp hs p oP=>?_,λh=>absurd h hmo};rw[hrw i ss hi hp hs];refine{_,aa,?_};refine ke (NC cs d) id aa (by show(rows.map ak).length<=1000;rw[zc];have:=hv.len;lia) (λx hx Q Q' hQ Qq=>?_) λp2 lP=>?_;obtain⟨r,hr,rfl⟩:=zj.mp hx;refine !!!{cs,d,r,rfl,hg,hd.1,hv.rg.1 r hr,_,rfl,bB (λh=>!⟨hQ h⟩) λh=>Qq h};have e1:((rows.map ak).filter<|NC cs d).map id=(rows.filter λr=>bU cs r 7 d).map ak:=n_ λr=>rfl;rw[show({rows.map ak,λS=>ug S (.ref p)<|rows.map ak}:vg).xs=rows.map ak from rfl,e1];exact{_,cN<|.new oP,q p2<|cg (.new oP) lP}
inductive VN (t:eZ) (ds:List D) (S:aw) (R:KD) (Z:KX):Prop where
 |mk (a cs ps wy d m rows) (h0:ds=[.ref a,cu ps wy,d,m]) (h1:Gd cs) (h2:Og cs ps wy) (h3:Sq cs d) (h4:Vw t.aj S a cs m rows) (h5:Tb t S) (h6:∀(cW:List Row)(p:Addr),cW.Perm (rows.filter λr=>bU cs r 7 d)->(cW.Pairwise λa b=>cU cs wy ps a b=true)->S p=none->R (.ref p) (S.set p<|.lst<|cW.map ak))
theorem mQ(T:Txt w K mg t)(B:Bm mg base):Ok P w base T.fP 12 (VN t):=by refine T.fP.F.cP my ?_;obtain⟨a,cs,ps,wy,d,m,rows,e,hg,ho,hd,hv,ht,q⟩;obtain⟨F,dl,rs,hS,hn,hmo,hrw⟩:=hv.sh;obtain⟨ld,lr,ra,h,_⟩:=id hS;refine{_,(s1<|sr<|bC T.rj (yY T B) hr<|ac (iy (dv 0) T.ai T.aJ (br T) hr)<|al 1<|ac (bC T.iB (pM T) hr<|al 0<|al 2<|al 3 an) an),?_};refine !{a,_,rfl,h.ins,rfl,a,F,cs,dl,rs,rfl,hS,?_};refine !!!!{a,cs,d,m,rows,rfl,hg,hd,hv,λp hp=>?_};have fl:(rows.filter λr=>bU cs r 7 d).length<=rows.length:=List.length_filter_le _ _;have:=hv.len;refine{cs,ps,wy,p,rows.filter λr=>bU cs r 7 d,rfl,hg,ho,aa,Nat.lt_of_le_of_lt fl this,hv.rg.sub yA,ht.sub<|.new hp,λcW p2 pm pw lP=>?_};exact{_,cN<|.new hp,q cW p2 pm pw<|cg (.new hp) lP}
theorem IV(h:S p=some (.lst L)):Gt S (.ref p):={{.lst,.inl ⟨rfl,L,h⟩},λ_=>nofun}
theorem QO:Gt S (.tup ws):={{.tup,rfl},λ_=>nofun}
theorem LZ(h:ws.length<=1000)(g:∀v∈ws,Gt S v):R1 S (.tup ws):={QO,λVG e=>by cases e;exact⟨h,g⟩}
theorem gt_int:Gt S (.int i):={{.int,rfl},λ_=>nofun}
theorem ND:Gt S (.bl i):={{.bl,rfl},λ_=>nofun}
theorem qh(h:z.cps.size<=1000):Gt S (.str z):={{.str,rfl},λz' e=>by cases e;exact h}
theorem IW(h:cT d=true):Gt S d:=by cases d with|ao=>exact lI|int i=>exact gt_int|str z=>have h:(decide (z.cps.size<=40)&&PyData.strOk z)=true:=h;rw[zQ]at h;have:=zi h.1;exact qh (by lia)|_=>cases h
theorem rZ:∀{cs:List (Str×Str)}{ws:List D},Paired rel cs ws->ws.length=cs.length|_,_,.nil=>rfl|_,_,.cons _ t=>by rw[zG,zG,rZ t]
theorem Wg.len(h:Wg cs ws):ws.length=cs.length:=rZ h
theorem Wg.QP(h:Wg cs ws):mE cs (.tup ws)=true:=by show(decide (ws.length=cs.length)&&(List.zipWith (λc v=>hG c.2 v) cs ws).all id)=true;rw[zx h.len,zV];unfold Wg at h;induction h with|nil=>rfl|cons r t ih=>rw[List.zipWith_cons_cons,List.all_cons,ih];show(id (hG _ _)&&true)=true;rw[show id (hG _ _)=true from r.1];rfl
theorem Wg.gts(h:Wg cs ws)(hc:cs.length<=8):R1 S (.tup ws):=LZ (by rw[h.len];lia) λv hv=>IW<|h.all v hv
theorem L3{n a b tn:Nat}(ha:a<n)(hb:b<n)(h:(a+tn)%n=(b+tn)%n):a=b:=by rcases Nat.lt_trichotomy a b with l|l|l;have:=Nat.sub_mod_eq_zero_of_mod_eq h.symm;rw[show b+tn-(a+tn)=b-a by lia,Nat.mod_eq_of_lt<|by lia]at this;lia;exact l;have:=Nat.sub_mod_eq_zero_of_mod_eq h;rw[show a+tn-(b+tn)=a-b by lia,Nat.mod_eq_of_lt<|by lia]at this;lia
noncomputable def r9(cs:List<|Str×Str)(tn k:Nat):Str:=(cs.getD ((tn+k)%cs.length) ("","")).1
theorem yZ(h:0<cs.length):∃c∈cs,cs[(tn+k)%cs.length]?=some c/\c.1=r9 cs tn k:=by have eY:(tn+k)%cs.length<cs.length:=Nat.mod_lt _ h;refine{cs[(tn+k)%cs.length],List.getElem_mem eY,ze eY,?_};unfold r9;rw[zE,ze eY];rfl
theorem y0{cs:List<|Str×Str}(hg:(cs.map Prod.fst).Nodup){tn i:Nat}(hi:i<=cs.length):((List.range i).map<|r9 cs tn).Nodup:=by
 refine List.pairwise_map.mpr<|List.nodup_range.imp_of_mem λ{a b} ha hb n e=>n ?_;have ha:=zT.mp ha;have hb:=zT.mp hb;have h0:0<cs.length:=by lia
 have la:(tn+a)%cs.length<cs.length:=Nat.mod_lt _ h0;have lb:(tn+b)%cs.length<cs.length:=Nat.mod_lt _ h0;unfold r9 at e;rw[zE,ze la,zE,ze lb]at e;have e:(cs[(tn+a)%cs.length]).1=(cs[(tn+b)%cs.length]).1:=e;have e2:(cs.map Prod.fst)[(tn+a)%cs.length]'(by rw[zc];exact la)=(cs.map Prod.fst)[(tn+b)%cs.length]'(by rw[zc];exact lb):=by rw[List.getElem_map,List.getElem_map];exact e
 have e3:=(List.getElem_inj hg).mp e2;rw[Nat.add_comm tn a,Nat.add_comm tn b]at e3;exact L3 (n:=cs.length) (by lia) (by lia) e3
inductive uI (ds:List D) (S:aw) (R:KD) (Z:KX):Prop where
 |mk (cs:List<|Str×Str) (c:Int) (h0:ds=[.tup<|cs.map aD,.int c]) (h1:Gd cs) (h2:∀(ps:List Part)(wy:Str),Og cs ps wy->R (cu ps wy) S)
theorem IX(T:Txt w K mg t):Ok P w base T.vK 2 uI:=by
 refine T.vK.F.cP eG ?_;obtain⟨cs,c0,e,hg,q⟩;have h8:=hg.1;have A5:(cs.map aD).length=cs.length:=zc _;refine{_,(sc (ck (i:=2) eG.nd<|bC T.j9 (mJ T) hr<|al 1<|ac di an)<|sc (ck (i:=3) eG.nd<|cb MX T.Nn G8<|ac (cb bz T.bc aQ<|al 0 an)<|ac (EM<|ix hr.u (bR<|ac di<|ac di<|ac di<|ac di<|ac di<|ac di<|ac di<|ac di an)<|bo bZ hr.u (ix hr.u (dv 2) di) di) an)<|sc (ck (i:=4) eG.nd<|bR an)<|sc (pA<|Bw (Ld T.ft<|al 3 an) (gn (i:=5) eG.nd)<|sc (ck (i:=6) eG.nd<|ix hr.u (ix hr.u (dv 0)<|bo bZ hr.u (bo bj hr.u (ix hr.u (dv 2) di)<|dv 5)<|cb bz T.bc aQ<|al 0 an) di)<|s1<|se<|bm zK zO zP ba (dv 4)<|ac (bw<|al 6<|ac (EM<|ix hr.u (bR<|ac ds<|ac ds an)<|bo bZ hr.u (ix hr.u (dv 2)<|bo bj hr.u di<|dv 5) di)<|ac (EM<|ix hr.u (bR<|ac ds<|ac ds an)<|bo bZ hr.u (bo e_ hr.u (ix hr.u (dv 2)<|bo bj hr.u di<|dv 5) di) di) an) an)<|s1<|sr<|bw<|ac (ct pY T.cJ bN<|al 4 an)<|ac (EM<|ix hr.u (bR<|ac ds<|ac ds an)<|bo bZ hr.u (ix hr.u (dv 2) di) di) an),?_};refine !{c0,12,rfl,by decide,λxs lx Qz hx Es=>?_};have s1:=Sub.new (c:=.lst<|xs.map D.int) Es;have hX:(S.set lx<|.lst<|xs.map D.int) lx=some (.lst<|xs.map D.int):=aa;generalize S.set lx (.lst<|xs.map D.int)=S1 at s1 hX⊢;have at_:∀k:Nat,k<12->∃x:Int,kJ (xs.map D.int) ((k:Nat):Int)=some (.int x)/\0<=x:=λk hk=>rM (by lia) (by rw[zc];lia) hx;obtain⟨x0,e0,_⟩:=at_ 0 (by decide);obtain⟨x1,e1,x10⟩:=at_ 1 (by decide);obtain⟨x11,e11,_⟩:=at_ 11 (by decide);obtain⟨tn,rfl⟩:=Int.eq_ofNat_of_zero_le x10;refine !!{Fe,λp hp=>!{_,_,(Sub.new hp) _ _ hX,e0,by decide,dR (yd _<|by decide) (yb _<|by decide) hp λd hd=>?_}};obtain⟨m,rfl⟩:∃m:Nat,d=.int m:=by have hd:d∈[D.int 1,.int 2,.int 0,.int 3,.int 1,.int 2,.int 8,.int 3]:=hd;simp only[zf,zD,or_false]at hd;rcases hd with h|h|h|h|h|h|h|h;exact{1,h};exact{2,h};exact{0,h};exact{3,h};exact{1,h};exact{2,h};exact{8,h};exact{3,h}
 obtain⟨k,hk,ek⟩:∃k:Nat,k<=cs.length/\(if decide ((m:Int)<(((cs.map aD).length:Nat):Int))=true then (m:Int) else (((cs.map aD).length:Nat):Int))=(k:Int):=by rw[A5];by_cases h:(m:Int)<((cs.length:Nat):Int);exact{m,by lia,by rw[zx h,if_pos rfl]};exact{cs.length,zo _,by rw[zq h,if_neg zd]}
 refine{_,_,rfl,?_};have ek2:(if (λi j:Int=>decide<|i<j) ((m:Nat):Int) (((cs.map aD).length:Nat):Int)=true then ((m:Nat):Int) else (((cs.map aD).length:Nat):Int))=((k:Nat):Int):=ek;rw[ek2];refine{rC,λlp hlp=>?_};have nxp:lx≠lp:=ia hX hlp;refine{λav S'=>∃(o5 o6:Option D)(ps:List Part),av=[some<|.tup<|cs.map aD,some<|.int c0,some<|.ref lx,some<|.int (k:Nat),some<|.ref lp,o5,o6]/\ps.map Prod.fst=(List.range k).map (r9 cs tn)/\(∀p∈ps,eJ p.2.1=true/\tJ p.2.2=true)/\S'=S1.set lp (.lst<|ps.map p3),?_,?_};refine !{((k:Nat):Int),rfl,by lia,by lia,?_};refine{λi av S'=>∃(o5 o6:Option D)(ps:List Part),av=[some<|.tup<|cs.map aD,some<|.int c0,some<|.ref lx,some<|.int (k:Nat),some<|.ref lp,o5,o6]/\ps.map Prod.fst=(List.range i).map (r9 cs tn)/\(∀p∈ps,eJ p.2.1=true/\tJ p.2.2=true)/\S'=S1.set lp (.lst<|ps.map p3),{none,none,[],rfl,rfl,λ_ h=>(nomatch h),rfl},λ_ _ _ _=>trivial,?_,?_};rintro i d av S' hd ⟨o5,o6,ps,rfl,hn,b8,rfl⟩;have hd:(gD 0 ((k:Nat):Int).toNat)[i]?=some d:=hd;obtain⟨hi,rfl⟩:=eQ hd;have hi:i<k:=by lia
 have eX:ps.length=i:=by have:=congrArg List.length hn;simpa using this
 obtain⟨c,hc,ec,ec1⟩:=yZ (cs:=cs) (tn:=tn) (k:=i) (by lia);have Ij:(S1.set lp<|.lst<|ps.map p3) lx=some (.lst<|xs.map D.int):=(ag nxp).trans hX;have hP2:(S1.set lp<|.lst<|ps.map p3) lp=some (.lst<|ps.map p3):=aa;have eat:kJ (cs.map aD) ((((tn:Nat):Int)+(0+((i:Nat):Int)))%(((cs.map aD).length:Nat):Int))=some (aD c):=by rw[A5,show(((tn:Nat):Int)+(0+((i:Nat):Int)))%((cs.length:Nat):Int)=(((tn+i)%cs.length:Nat):Int) by rw[Int.zero_add,Int.natCast_emod,Int.natCast_add]];refine eM ?_;rw[zr,ec];rfl
 obtain⟨xi,Xg,_⟩:=at_ (2+i) (by lia);have Xg:kJ (xs.map D.int) (2+(0+((i:Nat):Int)))=some (.int xi):=by rw[show(2:Int)+(0+((i:Nat):Int))=((2+i:Nat):Int) by lia];exact Xg
 refine !!{_,_,Ij,e1,_,rfl,_,rfl,_,rfl,by rw[A5];lia,_,eat,_,rfl,?_};refine{_,rfl,{rfl,_,hP2},_,rfl,fz,λp hp=>!!{_,_,(Sub.new hp) _ _ Ij,Xg,by decide,dR (yd _<|by decide) (yb _<|by decide) hp λd hd=>?_}};obtain⟨wy,rfl,JO⟩:∃wy:Str,d=.str wy/\eJ wy=true:=by have hd:d∈[D.str "up",.str "down"]:=hd;simp only[zf,zD,or_false]at hd;rcases hd with h|h;exact{_,h,by trivial};exact{_,h,by trivial}
 refine{fz,λp hp=>!!{_,_,(Sub.new hp) _ _ Ij,Xg,{by decide,by trivial},by decide,dR (yd _<|by decide) (yb _<|by decide) hp λd hd=>?_}};obtain⟨en,rfl,Au⟩:∃en:Str,d=.str en/\tJ en=true:=by have hd:d∈[D.str "first",.str "last"]:=hd;simp only[zf,zD,or_false]at hd;rcases hd with h|h;exact{_,h,by trivial};exact{_,h,by trivial}
 refine{mD,lp,_,_,rfl,rfl,hP2,bg<|by rw[zc];lia,?_};refine{_,_,ps++[(c.1,wy,en)],rfl,?_,λx hx=>?_,?_};rw[zH,hn,List.range_succ,zH];show _=_++[r9 cs tn i];rw[<-ec1];rfl;rcases zR.mp hx with h|h;exact b8 x h;rw[zu.mp h];exact⟨JO,Au⟩;rw[aR,zH];rfl;rintro av S' ⟨o5,o6,ps,rfl,hn,b8,rfl⟩;rw[show({gD 0 ((k:Nat):Int).toNat,λ_=>True}:vg).xs.length=((k:Nat):Int).toNat from dH,show((k:Nat):Int).toNat=k by lia]at hn;exact fo ⟨o5,o6,ps,rfl,hn,b8,rfl⟩;rintro av S' ⟨o5,o6,ps,rfl,hn,b8,rfl⟩;have Ij:(S1.set lp<|.lst<|ps.map p3) lx=some (.lst<|xs.map D.int):=(ag nxp).trans hX;refine !{_,_,rfl,.inl aa,fz,λp hp=>!{_,_,(Sub.new hp) _ _ Ij,e11,by decide,dR (yd _<|by decide) (yb _<|by decide) hp λd hd=>?_}};obtain⟨wy,rfl,JO⟩:∃wy:Str,d=.str wy/\eJ wy=true:=by have hd:d∈[D.str "up",.str "down"]:=hd;simp only[zf,zD,or_false]at hd;rcases hd with h|h;exact{_,h,by trivial};exact{_,h,by trivial}
 have eX:ps.length=k:=by have:=congrArg List.length hn;simpa using this
 have pin:Pin cs ps:=λx hx=>by have:x.1∈ps.map Prod.fst:=zj.mpr ⟨x,hx,rfl⟩;rw[hn]at this;obtain⟨k,hk,e⟩:=zj.mp this;have:=zT.mp hk;obtain⟨c,hc,_,ec⟩:=yZ (cs:=cs) (tn:=tn) (k:=k) (by lia);exact{c,hc,ec.trans e}
 refine{fz,S,s1.trans<|.new hlp,q ps wy {pin,λx hx=>(b8 x hx).1,JO,?_,λx hx=>?_}};unfold Io;rw[zx<|show ps.length<=8 by lia,zV,zQ,zQ];refine{ye.mpr λx hx=>?_,zx<|by rw[hn];exact y0 hg.2.1 hk,JO};obtain⟨c,hc,ec⟩:=pin x hx;unfold yU;rw[zx<|zj.mpr ⟨c,hc,ec⟩,(b8 x hx).1,(b8 x hx).2];rfl;obtain⟨c,hc,ec⟩:=pin x hx;obtain⟨h1,h2⟩:=b8 x hx;refine{by rw[<-ec];exact uy (hg.2.2 c hc).1,by rcases wk h1 with e|e<;>rw[e]<;>decide +kernel,?_};unfold tJ at h2;simp only[yH,yr]at h2;rcases h2 with e|e<;>rw[e]<;>decide +kernel
theorem DH:∀{l:List Str}{p:Str},PyProof.Rows.risingS p l=true->(p::l).Pairwise λa b=>a.cps.toList<=b.cps.toList|[],p,_=>List.pairwise_singleton _ _|x::r,p,h=>by have h:(!PySem.Spec.ltCps x.cps.toList p.cps.toList&&PyProof.Rows.risingS x r)=true:=h;rw[zQ,PyProof.Rows.ltCps_eq,Bool.not_eq_true',decide_eq_false_iff_not]at h;have ih:=DH h.2;have hpx:p.cps.toList<=x.cps.toList:=List.not_lt.mp h.1;refine List.pairwise_cons.mpr {λy hy=>?_,ih};rcases zf.mp hy with e|hy;rw[e];exact hpx;exact List.le_trans hpx<|(List.pairwise_cons.mp ih).1 y hy
theorem km(h:PyProof.Rows.sortedS l=true):l.Pairwise λa b=>a.cps.toList<=b.cps.toList:=by cases l with|nil=>exact List.Pairwise.nil|cons x r=>exact DH h
theorem L4{a b:Str}(h:a.cps.toList=b.cps.toList):a=b:=by obtain⟨⟨x⟩⟩:=a;obtain⟨⟨y⟩⟩:=b;cases h;rfl
theorem uJ{l m:List Str}(hl:l.Pairwise λa b=>a.cps.toList<=b.cps.toList)(hm:m.Pairwise λa b=>a.cps.toList<=b.cps.toList)(nl:l.Nodup)(nm:m.Nodup)(h:∀z,z∈l↔z∈m):l=m:=List.Perm.eq_of_pairwise (λa b _ _ h1 h2=>L4<|List.le_antisymm h1 h2) hl hm<|(List.perm_ext_iff_of_nodup nl nm).mpr h
def TI(l:List Std)(n:Nat):Prop:=∀s∈l,s.b<=n/\∀m,s.e=some m->m<n
noncomputable def L5(s:Std):D:=match s.e with|none=>.tup s.ws|some _=>.ao
noncomputable def cur(l:List Std):D:=match l.getLast? with|none=>.ao|some s=>L5 s
theorem jV(r:List Std)(s:Std):cur (r++[s])=L5 s:=by unfold cur;rw[List.getLast?_concat]
theorem QQ(h:TI l n):wt l n=cur l:=by by_cases e:l=[];subst e;rfl;obtain⟨r,s,rfl⟩:=kh e;rw[jV];unfold wt;rw[List.reverse_append];obtain⟨h1,h2⟩:=h s<|zC _<|zu.mpr rfl;show H9 (s::r.reverse) (n:Int)=_;unfold H9 L5;rw[if_pos<|show(s.b:Int)<=(n:Int) by lia];cases q:s.e with|none=>rfl|some m=>have:=h2 m q;exact if_neg<|show ¬(n:Int)<=(m:Int) by lia
theorem TI.up(h:TI l n):TI l (n+1):=λs hs=>{Nat.le_succ_of_le (h s hs).1,λm e=>Nat.lt_succ_of_lt<|(h s hs).2 m e}
theorem TI.close(h:TI l n):TI (iK n l) (n+1):=by by_cases e:l=[];subst e;exact λs hs=>(nomatch hs);obtain⟨r,s,rfl⟩:=kh e;rw[eU];intro x hx;rcases zR.mp hx with hx|hx;exact h.up x<|zS _ hx;rw[zu.mp hx];exact{Nat.le_succ_of_le (h s<|zC _<|zu.mpr rfl).1,λm e=>by cases e;exact Nat.lt_succ_self _}
theorem TI.beg(h:TI l<|n+1):TI (l++[Std.mk (n+1) none ws]) (n+1):=λs hs=>by rcases zR.mp hs with hs|hs;exact h s hs;rw[zu.mp hs];exact{zo _,λm e=>(by cases e)}
theorem Fy:cur (iK n l)=.ao:=by by_cases e:l=[];subst e;rfl;obtain⟨r,s,rfl⟩:=kh e;rw[eU,jV];rfl
noncomputable def pN(kn:Kn)(z:Str):D:=match iM kn z with|none=>.ao|some ws=>.tup ws
structure RI(rs:kQ)(n:Nat)(kn:Kn):Prop where
 ti:∀z,TI ((lu rs z).getD []) n
 eq:∀z,cur ((lu rs z).getD [])=pN kn z
 ks:∀r∈rs,r.1∈KS
theorem L6(h:r∈BS rs z s):r.1=z\/∃r'∈rs,r'.1=r.1:=by unfold BS at h;split at h;obtain⟨r0,wL,e⟩:=zj.mp h;refine .inr {r0,wL,?_};subst e;split<;>rfl;rcases zR.mp h with h|h;exact .inr ⟨r,h,rfl⟩;rw[zu.mp h];exact .inl rfl
theorem IY(h:∀r∈rs,r.1∈KS)(hz:z∈KS):∀r∈BS rs z s,r.1∈KS:=λr hr=>by rcases L6 hr with e|⟨r',rL,e⟩;rw[e];exact hz;rw[<-e];exact h r' rL
theorem DJ:pN (pK kn z ws) k=if k=z then .tup ws else pN kn k:=by unfold pN;rw[LN];by_cases h:k=z;rw[if_pos h,if_pos h];rw[if_neg h,if_neg h]
theorem DK:pN (v_ kn z) k=if k=z then .ao else pN kn k:=by unfold pN;rw[LO];by_cases h:k=z;rw[if_pos h,if_pos h];rw[if_neg h,if_neg h]
theorem RI.nil:RI [] 0 []:={λz s hs=>(nomatch hs),λz=>rfl,λr hr=>(nomatch hr)}
theorem RI.put(h:RI rs n kn)(hz:z∈KS):RI (tG rs z (n+1) ws) (n+1) (pK kn z ws):=by refine{λk=>?_,λk=>?_,IY h.ks hz};unfold tG;rw[jO];by_cases e:k=z;rw[if_pos e];exact(h.ti z).up.beg;rw[if_neg e];exact(h.ti k).up;unfold tG;rw[jO,DJ];by_cases e:k=z;rw[if_pos e,if_pos e];exact jV _ _;rw[if_neg e,if_neg e];exact h.eq k
theorem RI.del(h:RI rs n kn)(hz:z∈KS):RI (n5 rs z n) (n+1) (v_ kn z):=by refine{λk=>?_,λk=>?_,IY h.ks hz};unfold n5;rw[jO];by_cases e:k=z;rw[if_pos e];exact(h.ti z).close;rw[if_neg e];exact(h.ti k).up;unfold n5;rw[jO,DK];by_cases e:k=z;rw[if_pos e,if_pos e];exact Fy;rw[if_neg e,if_neg e];exact h.eq k
theorem RI.change(h:RI rs n kn)(hz:z∈KS):RI (tG (n5 rs z n) z (n+1) ws) (n+1) (pK kn z ws):=by have h1:=h.del hz;refine{λk=>?_,λk=>?_,IY h1.ks hz};unfold tG;rw[jO];by_cases e:k=z;rw[if_pos e];exact(h1.ti z).beg;rw[if_neg e];exact h1.ti k;unfold tG;rw[jO,DJ];by_cases e:k=z;rw[if_pos e,if_pos e];exact jV _ _;rw[if_neg e,if_neg e,h1.eq k,DK,if_neg e]
theorem RI.wt{rs:kQ}{n:Nat}{kn:Kn}(h:RI rs n kn)(z:Str):wt ((lu rs z).getD []) n=pN kn z:=by rw[QQ<|h.ti z,h.eq]
theorem RI.Az(h:RI rs n kn)(hz:z∈KS):Az rs (.str z) n=pN kn z:=by rw[v8 (jQ z hz).1,h.wt]
theorem oa(kn:Kn)(z:Str):ah (pN kn z)=!(iM kn z).isSome:=by unfold pN;cases iM kn z<;>rfl
theorem IZ(h:bI C S a F cs dl rs):(rs.map (·.1)).Nodup:=by obtain⟨ld,lr,ra,h,_,rfl⟩:=h;unfold hU;rw[zB];exact h.kn
theorem RI.len(h:RI rs n kn)(hs:bI C S a F cs dl rs):rs.length<=60:=by
 have:=sub_len (IZ hs) (m:=KS) λx hx=>by obtain⟨r,hr,rfl⟩:=zj.mp hx;exact h.ks r hr
 rw[zc]at this;exact zL this<|by trivial
noncomputable def Fz(kn:Kn)(ss:List Str):List D:=ss.map λz=>.tup [.str z,pN kn z]
theorem NF(h:lu rs k=some s):k∈rs.map (·.1):=by induction rs with|nil=>(cases h)|cons r rs ih=>rw[fA]at h;rw[zJ];by_cases e:r.1=k;exact zf.mpr<|.inl e.symm;rw[if_neg e]at h;exact zh _<|ih h
theorem I_{C a:Addr}{S:aw}{F:List Addr}{cs:List<|Str×Str}{dl:List D}{rs:kQ}{kn:Kn}(h:RI rs dl.length kn)(hs:bI C S a F cs dl rs)(hI:KI cs kn){ss s2:List Str} (p1:ss.Perm (rs.map (·.1))) (o1:PyProof.Rows.sortedS ss=true) (p2:s2.Perm (kn.map (·.1))) (o2:PyProof.Rows.sortedS s2=true):eI rs dl.length ss=Fz kn s2:=by
 have e:ss.filter (λz=>!ah (wt ((lu rs z).getD []) dl.length))=s2:=by refine uJ ((km o1).filter _) (km o2) ?_ (p2.nodup_iff.mpr hI.nd) λz=>?_;exact yA.nodup<|p1.nodup_iff.mpr<|IZ hs;rw[yi,h.wt,oa,Bool.not_not,p1.mem_iff,p2.mem_iff];constructor;rintro⟨_,hz⟩;obtain⟨ws,tL⟩:=Option.isSome_iff_exists.mp hz;exact zj.mpr {_,mK tL,rfl};intro hz;obtain⟨ws,tL⟩:=jR hz;refine{?_,by rw[tL];rfl};have e:=h.eq z;unfold pN at e;rw[tL]at e;cases q:lu rs z with|none=>(rw[q]at e;cases e)|some s=>exact NF q
 unfold eI Fz;rw[e];refine zX λz _=>?_;unfold tH;rw[h.wt]
theorem QR(hI:KI cs kn)(p:ss.Perm (kn.map (·.1))):∀d∈Fz kn ss,Ly S 60 d:=λd hd=>by
 obtain⟨z,hz,rfl⟩:=zj.mp hd;obtain⟨ws,tL⟩:=jR<|p.mem_iff.mp hz;obtain⟨hzK,hwg⟩:=hI.ok _<|mK tL;have e:pN kn z=.tup ws:=by unfold pN;rw[tL]
 rw[e];refine(Ly.tup (n:=1) λx hx=>?_).le (by decide);simp only[zf,zD,or_false]at hx;rcases hx with rfl|rfl;exact(Ly.str (jQ z hzK).2.2).le (by decide);exact hwg.ly
noncomputable def og(k:Nat)(l:List Std):List Std:=match l.getLast? with|none=>l|some s=>match s.e with|none=>iK k l|some _=>l
theorem oV(h:s.e=none):og k (r++[s])=r++[Std.mk s.b (some k) s.ws]:=by unfold og;rw[List.getLast?_concat];dsimp only;rw[h];exact eU _ _ _
theorem y1(h:s.e=some n):og k (r++[s])=r++[s]:=by unfold og;rw[List.getLast?_concat];dsimp only;rw[h]
theorem L7{s:Std}{r:List Std}{m:Nat}(h:m<s.b):H9 (s::r) m=H9 r m:=by show(if (s.b:Int)<=(m:Int) then _ else H9 r m)=_;rw[if_neg<|by lia]
theorem FA(hm:m<=n):wt (og n l) m=wt l m:=by by_cases e:l=[];subst e;rfl;obtain⟨r,s,rfl⟩:=kh e;cases q:s.e with|some k=>rw[y1 q]|none=>rw[oV q];unfold wt;rw[List.reverse_append,List.reverse_append];show(if (s.b:Int)<=(m:Int) then (if (m:Int)<=(n:Int) then D.tup s.ws else .ao) else H9 r.reverse m)=(if (s.b:Int)<=(m:Int) then (match s.e with|none=>.tup s.ws|some n=>if (m:Int)<=(n:Int) then .tup s.ws else .ao) else H9 r.reverse m);rw[q,if_pos<|show(m:Int)<=(n:Int) by lia]
theorem Ca(h:cur l≠.ao):og n l=iK n l:=by by_cases e:l=[];subst e;rfl;obtain⟨r,s,rfl⟩:=kh e;rw[jV]at h;cases q:s.e with|none=>rw[oV q,eU]|some m=>unfold L5 at h;rw[q]at h;exact absurd rfl h
noncomputable def gu(kn:Kn)(ss:List Str):List Row:=ss.map λz=>(z,(iM kn z).getD [])
structure Snap(rs:kQ)(cs:List (Str×Str))(m:Nat)(rows:List Row):Prop where
 ex:∃kn ss,rows=gu kn ss/\KI cs kn/\ss.Perm (kn.map (·.1))/\PyProof.Rows.sortedS ss=true/\∀z,wt ((lu rs z).getD []) m=pN kn z
theorem ko(p:ss.Perm (kn.map (·.1))):(gu kn ss).map ak=Fz kn ss:=by unfold gu Fz;rw[zB];refine zX λz hz=>?_;obtain⟨ws,tL⟩:=jR<|p.mem_iff.mp hz;show D.tup [.str z,.tup<|(iM kn z).getD []]=.tup [.str z,pN kn z];unfold pN;rw[tL];rfl
theorem Ja(hI:KI cs kn)(p:ss.Perm (kn.map (·.1))):Rg cs (gu kn ss):=by refine{λr hr=>?_,?_};obtain⟨z,hz,rfl⟩:=zj.mp hr;obtain⟨ws,tL⟩:=jR<|p.mem_iff.mp hz;show Wg cs ((iM kn z).getD []);rw[tL];exact(hI.ok _<|mK tL).2;unfold gu;rw[zB];show(ss.map id).Nodup;rw[List.map_id];exact p.nodup_iff.mpr hI.nd
theorem FC(hI:KI cs kn)(p:ss.Perm (kn.map (·.1))):(gu kn ss).length<=60:=by unfold gu;rw[zc,p.length_eq,zc];exact hI.len
theorem Snap.rg(h:Snap rs cs m rows):Rg cs rows/\rows.length<=60:=by obtain⟨kn,ss,rfl,hI,p,_⟩:=h.ex;exact{Ja hI p,FC hI p}
theorem Snap.key(h:Snap rs cs m rows):∀r∈rows,r.1∈KS:=by obtain⟨kn,ss,rfl,hI,p,_⟩:=h.ex;intro r hr;obtain⟨z,hz,rfl⟩:=zj.mp hr;obtain⟨ws,tL⟩:=jR<|p.mem_iff.mp hz;exact(hI.ok _<|mK tL).1
theorem FD{C a:Addr}{S:aw}{F:List Addr}{cs:List<|Str×Str}{dl:List D}{rs:kQ}{m:Nat}{rows:List Row}(h:Snap rs cs m rows)(hs:bI C S a F cs dl rs){ss:List Str} (p1:ss.Perm (rs.map (·.1))) (o1:PyProof.Rows.sortedS ss=true):eI rs m ss=rows.map ak:=by
 obtain⟨kn,s2,rfl,hI,p2,o2,hw⟩:=h.ex;rw[ko p2];have e:ss.filter (λz=>!ah (wt ((lu rs z).getD []) m))=s2:=by refine uJ ((km o1).filter _) (km o2) ?_ (p2.nodup_iff.mpr hI.nd) λz=>?_;exact yA.nodup<|p1.nodup_iff.mpr<|IZ hs;rw[yi,hw,oa,Bool.not_not,p1.mem_iff,p2.mem_iff];constructor;rintro⟨_,hz⟩;obtain⟨ws,tL⟩:=Option.isSome_iff_exists.mp hz;exact zj.mpr {_,mK tL,rfl};intro hz;obtain⟨ws,tL⟩:=jR hz;refine{?_,by rw[tL];rfl};have e:=hw z;unfold pN at e;rw[tL]at e;cases q:lu rs z with|none=>(rw[q]at e;cases e)|some s=>exact NF q
 unfold eI Fz;rw[e];refine zX λz _=>?_;unfold tH;rw[hw]
def HI(rs:kQ)(cs:List<|Str×Str)(n:Nat)(hs:List<|List Row):Prop:=hs.length=n+1/\∀m rows,hs[m]?=some rows->Snap rs cs m rows
theorem HI.step{rs cW:kQ}{cs:List<|Str×Str}{n:Nat}{hs:List<|List Row}(h:HI rs cs n hs)(old:∀z m,m<=n->wt ((lu cW z).getD []) m=wt ((lu rs z).getD []) m){kn:Kn}(hI:KI cs kn)(hR:RI cW (n+1) kn){ss:List Str}(p:ss.Perm (kn.map (·.1)))(o:PyProof.Rows.sortedS ss=true):HI cW cs (n+1) (hs++[gu kn ss]):=by
 refine{by rw[zA,h.1];rfl,λm rows e=>?_};by_cases hm:m<hs.length;rw[List.getElem?_append_left hm]at e;obtain⟨kn0,s0,e0,h1,h2,h3,h4⟩:=(h.2 m rows e).ex;have:=h.1;exact{kn0,s0,e0,h1,h2,h3,λz=>(old z m<|by lia).trans<|h4 z};rw[List.getElem?_append_right<|by lia]at e;have M9:m-hs.length=0:=by cases q:m-hs.length with|zero=>rfl|succ k=>rw[q]at e;simp at e
 rw[M9]at e;cases e;have:=h.1;have hmn:m=n+1:=by lia
 subst hmn;exact{kn,ss,rfl,hI,p,o,λz=>hR.wt z}
theorem QS{l:List Std}{n m:Nat}{ws:List D}(hm:m<=n):wt (l++[Std.mk (n+1) none ws]) m=wt l m:=by unfold wt;rw[List.reverse_append];exact L7<|show m<n+1 by lia
theorem DL(k:Str)(m:Nat)(hm:m<=n):wt ((lu (tG rs z (n+1) ws) k).getD []) m=wt ((lu rs k).getD []) m:=by unfold tG;rw[jO];by_cases e:k=z;rw[if_pos e,e];exact QS hm;rw[if_neg e]
theorem DM(h:RI rs n kn)(hz:(iM kn z).isSome=true)(k:Str)(m:Nat)(hm:m<=n):wt ((lu (n5 rs z n) k).getD []) m=wt ((lu rs k).getD []) m:=by
 unfold n5;rw[jO];by_cases e:k=z;rw[if_pos e,e];have hc:cur ((lu rs z).getD [])≠.ao:=by rw[h.eq];unfold pN;cases q:iM kn z with|none=>(rw[q]at hz;cases hz)|some ws=>exact λe=>by cases e
 show wt (iK n<|(lu rs z).getD []) m=_;rw[<-Ca hc,FA hm];rw[if_neg e]
theorem Jb(hz:z∈KS):Gt S (.str z):=qh<|by have:=(jQ z hz).2.1;lia
section
variable{t:eZ}{S:aw}{a:Addr}{F:List Addr}{cs:List (Str×Str)}{dl:List D}{rs:kQ}{kn:Kn}{d:D}{R:KD}{Z:KX}
theorem Jc(hz:z∈KS)(h:Wg cs ws):nY cs (.str z) (.tup ws)=true:=by unfold nY;rw[h.QP,show ofStr iH (.str z)=true from(jQ z hz).1];rfl
theorem wm(hR:RI rs dl.length kn)(hz:z∈KS):ah (Az rs (.str z) dl.length)=!(iM kn z).isSome:=by rw[hR.Az hz,oa]
theorem VO(h:iM kn z=none):(!(iM kn z).isSome)=true:=by rw[h];rfl
theorem Jd(h:(iM kn z).isSome=true):(!(iM kn z).isSome)=false:=by rw[h];rfl
theorem tf{b:Bool}(h1:b=true)(h2:b=false){p:Prop} : p:=by rw[h1]at h2;cases h2
theorem bI.out(hS:bI C S a F cs dl rs)(hb:S b=none):b∉F:=λm=>by obtain⟨ld,lr,ra,h,rfl,_⟩:=hS;unfold fp at m;simp only[zf,zj]at m;rcases m with e|e|e|⟨r,hr,e⟩;have:=h.ins;rw[<-e,hb]at this;cases this;have:=h.x5;rw[<-e,hb]at this;cases this;have:=h.run;rw[<-e,hb]at this;cases this;have:=h.cell r hr;rw[e,hb]at this;cases this
theorem bI.off(hS:bI C S a F cs dl rs)(hp:p∉F):bI C (S.set p c) a F cs dl rs:=by obtain⟨ld,lr,ra,hh,rfl,e2⟩:=hS;unfold fp at hp;simp only[zf,not_or]at hp;obtain⟨n1,n2,n3,n4⟩:=hp;exact{ld,lr,ra,{(ag<|Ne.symm n1).trans hh.ins,(ag<|Ne.symm n2).trans hh.x5,(ag<|Ne.symm n3).trans hh.run,λr hr=>(ag λe=>n4<|by rw[<-e];exact zj.mpr ⟨r,hr,rfl⟩).trans<|hh.cell r hr,hh.kn,hh.an,hh.sz},rfl,e2}
structure Dos(t:eZ)(ds:List D)(S:aw)(R:KD)(Z:KX):Prop where
 of:BY t ds S R Z
theorem FE(hS:bI t.aj S a F cs dl rs)(hg:Gd cs)(hI:KI cs kn)(hR:RI rs dl.length kn)(hl:dl.length<=100)(hd:GD KS cs kn d){qd:Kn}(hkn:KnD kn d qd) (q:∀S' F' cW,bI t.aj S' a F' cs (dl++[d]) cW->BV F F' S S'->RI cW (dl.length+1) qd->(∀z m,m<=dl.length->wt ((lu cW z).getD []) m=wt ((lu rs z).getD []) m)->R .ao S'):Dos t [.ref a,d] S R Z:=by
 have hrl:=hR.len hS;have VP:=hg.1;obtain⟨ld,lr,ra,h,_,_⟩:=id hS;refine{a,_,h.ins,rfl,?_};rcases hd with⟨z,ws,hz,hw,hn,rfl⟩|⟨z,ws,hz,hw,hn,rfl⟩|⟨z,hz,hn,rfl⟩;have ro:=Jc hz hw;have st:=(wm hR hz).trans<|VO hn;refine .inl {_,_,rfl,a,F,cs,_,rs,_,_,rfl,hS,VP,Jb hz,hw.gts VP,by lia,by lia,λe=>tf ro e,λ_ e=>tf st e,λz' VG e1 e2 _ _ S' F' p5 hK=>?_};cases e1;cases e2;have VQ:qd=pK kn z ws:=by rcases hkn with⟨n,y,vs,_,e1,e2⟩|⟨y,_,e1,_⟩<;>cases e1;exact e2
 subst VQ;exact q S' F' _ p5 hK (hR.put hz) DL;have ro:=Jc hz hw;have st:=(wm hR hz).trans<|Jd hn;refine .inr<|.inl {_,_,rfl,a,F,cs,_,rs,_,_,rfl,hS,VP,Jb hz,hw.gts VP,by lia,by lia,λe=>tf ro e,λ_ e=>tf e st,λz' VG e1 e2 _ _ S' F' p5 hK=>?_};cases e1;cases e2;have VQ:qd=pK kn z ws:=by rcases hkn with⟨n,y,vs,_,e1,e2⟩|⟨y,_,e1,_⟩<;>cases e1;exact e2
 subst VQ;exact q S' F' _ p5 hK (hR.change hz) λk m hm=>(DL k m hm).trans<|DM hR hn k m hm;have st:=(wm hR hz).trans<|Jd hn;refine .inr<|.inr !{a,F,cs,_,rs,_,rfl,hS,Jb hz,by lia,λe=>tf (jQ z hz).1 e,λ_ e=>tf e st,λz' e1 _ _ S' p5 hK=>?_};cases e1;have VQ:qd=v_ kn z:=by rcases hkn with⟨n,y,vs,_,e1,e2⟩|⟨y,_,e1,e2⟩<;>cases e1;exact e2
 subst VQ;exact q S' F _ p5 hK (hR.del hz)<|DM hR hn
theorem Snap.vw(h:Snap rs cs m rows)(hS:bI t.aj S a F cs dl rs)(hR:RI rs dl.length kn)(hm:tE dl.length md=some (m:Int))(WV:Gt S md):Vw t.aj S a cs md rows:=by have:=h.rg;refine{{F,dl,rs,hS,by have:=hR.len hS;lia,(λe=>by rw[hm]at e;cases e),λi ss hi hp hs=>?_},WV,by lia,this.1};rw[hm]at hi;cases hi;exact FD h hS hp hs
end
def Xh(S:aw)(F:List Addr)(S':aw):Prop:=∀b c,S b=some c->b∉F/\S' b=some c
theorem Xh.sub(h:Xh S F S'):Sub S S':=λb c e=>(h b c e).2
theorem KI.nil(cs:List<|Str×Str):KI cs []:={List.nodup_nil,λ_ h=>(nomatch h)}
theorem mR(ns:List Int)(lo hi:Option Int):cq (ns.map D.int) lo hi=(cq ns lo hi).map D.int:=by unfold cq;rw[zc,List.map_take,List.map_drop]
structure St(t:eZ)(S0:aw)(a:Addr)(fs:List (Addr×Ce))(F:List Addr)(cs:List (Str×Str))(dl:List D)(rs:kQ)(S:aw):Prop where
 sh:bI t.aj S a F cs dl rs
 fa:∀x∈fs,S x.1=some x.2/\x.1∉F/\S0 x.1=none
 nd:(fs.map Prod.fst).Nodup
 FW:Xh S0 F S
section
variable{t:eZ}{S0:aw}{a:Addr}{fs:List (Addr×Ce)}{F:List Addr}{cs:List (Str×Str)}{dl:List D}{rs:kQ}{S:aw}
theorem St.at(h:St t S0 a fs F cs dl rs S)(i:Nat)(e:fs[i]?=some (b,c)):S b=some c:=(h.fa _<|zI e).1
theorem St.sub(h:St t S0 a fs F cs dl rs S)(b:Sub S S'):St t S0 a fs F cs dl rs S':={h.sh.sub b,λx hx=>{b _ _ (h.fa x hx).1,(h.fa x hx).2},h.nd,λx c hx=>{(h.FW x c hx).1,b _ _ (h.FW x c hx).2}}
theorem St.zero(h:St t S0 a fs F cs dl rs S)(hb:S b=none):S0 b=none:=by cases e:S0 b with|none=>rfl|some c=>have:=h.FW.sub _ _ e;rw[hb]at this;cases this
theorem St.new(h:St t S0 a fs F cs dl rs S)(hp:S p=none)(c:Ce):St t S0 a (fs++[(p,c)]) F cs dl rs (S.set p c):=by
 have h1:=h.sub<|.new (c:=c) hp;refine{h1.sh,λx hx=>?_,?_,h1.FW};rcases zR.mp hx with hx|hx;exact h1.fa x hx;rw[zu.mp hx];exact{aa,h.sh.out hp,h.zero hp};rw[zH,List.nodup_append];refine{h.nd,by simp,λx hx y hy e=>?_};obtain⟨z,hz,rfl⟩:=zj.mp hx;have hy:y=p:=by simpa using hy
 have:=(h.fa z hz).1;rw[e,hy,hp]at this;cases this
theorem St.put(h:St t S0 a fs F cs dl rs S)(i:Nat)(e:fs[i]?=some (b,c))(c':Ce):St t S0 a (fs.set i (b,c')) F cs dl rs (S.set b c'):=by
 have hb:=h.fa _<|zI e;have hi:=(zg.mp e).1;have em:(fs.set i (b,c')).map Prod.fst=fs.map Prod.fst:=by refine List.ext_getElem? λj=>?_;rw[zr,zr];by_cases q:j=i;subst q;rw[List.getElem?_set_self hi,e];rfl;rw[List.getElem?_set_ne<|Ne.symm q]
 refine{h.sh.off hb.2.1,λx hx=>?_,by rw[em];exact h.nd,λx c hx=>{(h.FW x c hx).1,(ag<|ia hx hb.2.2).trans (h.FW x c hx).2}};obtain⟨j,hj⟩:=List.getElem?_of_mem hx;by_cases q:j=i;subst q;rw[List.getElem?_set_self hi]at hj;cases hj;exact⟨aa,hb.2⟩;rw[List.getElem?_set_ne<|Ne.symm q]at hj;have G0:=h.fa x<|zI hj;refine{(ag λe2=>q ?_).trans G0.1,G0.2};have a1:(fs.map Prod.fst)[j]?=some x.1:=by rw[zr,hj];rfl
 have a2:(fs.map Prod.fst)[i]?=some b:=by rw[zr,e];rfl
 obtain⟨b1,c1⟩:=zg.mp a1;obtain⟨b2,c2⟩:=zg.mp a2;exact(List.getElem_inj h.nd (h₀:=b1) (h₁:=b2)).mp<|by rw[c1,c2];exact e2
theorem St.perm(h:St t S0 a fs F cs dl rs S)(p:Rq.Perm fs):St t S0 a Rq F cs dl rs S:={h.sh,λx hx=>h.fa x<|p.mem_iff.mp hx,(p.map _).nodup_iff.mpr h.nd,h.FW}
theorem St.less(h:St t S0 a fs F cs dl rs S)(n:(Rq.map Prod.fst).Nodup)(p:∀x∈Rq,x∈fs):St t S0 a Rq F cs dl rs S:={h.sh,λx hx=>h.fa x<|p x hx,n,h.FW}
theorem St.aax(h:St t S0 a fs F cs dl rs S)(hS:bI t.aj S' a F' cs dl' cW)(hK:BV F F' S S'):St t S0 a fs F' cs dl' cW S':={hS,λx hx=>by obtain⟨h1,h2,h3⟩:=h.fa x hx;exact by obtain⟨k1,k2⟩:=hK _ _ h2 h1;exact⟨k2,k1,h3⟩,h.nd,λx c hx=>by obtain⟨h1,h2⟩:=h.FW x c hx;exact hK _ _ h1 h2}
end
abbrev VR:=List<|Addr×List Row
noncomputable def aay(x:Addr×List Row):Addr×Ce:=(x.1,.lst<|x.2.map ak)
theorem DN(q:R (.bl<|if neg then !(x==y) else (x==y)) S):Hc neg (.bl x) (.bl y) S R:=⟨.bool x,.bool y,by simp only[Dl,Dp],by simp only[Dl,Dp],by simp only[PyData.canLay0],by simp only[PyData.canLay0],.inl<|by simp only[PyData.depth];lia,by
 have e:PyData.eqv (.bool x) (.bool y)=(x==y):=by cases x<;>cases y<;>rfl
 rw[e];exact q⟩
theorem NG(q:R (.bl<|if neg then !decide (i=j) else decide (i=j)) S):Hc neg (.str i) (.str j) S R:=q
noncomputable def cV(w e:Str)(x y:D):Int:=if oU x y=true then 0 else if df ("",w,e) x y=true then -1 else 1
def Cm(x y:D):Prop:=∃k,Vg k x/\Vg k y
theorem r_{w e:Str}(h:Cm x y):cV w e x y=0↔x=y:=by obtain⟨k,hx,hy⟩:=h;unfold cV;by_cases q:oU x y=true;rw[if_pos q];simpa using (dq hx.2 hy.2).mp q;rw[if_neg q];have q':¬x=y:=λz=>q<|(dq hx.2 hy.2).mpr z;constructor;intro z;split at z<;>cases z;exact λz=>absurd z q'
theorem y3{w e:Str}(h:Cm x y):cV w e x y<0↔x≠y/\df ("",w,e) x y=true:=by obtain⟨k,hx,hy⟩:=h;unfold cV;by_cases q:oU x y=true;rw[if_pos q];have:=(dq hx.2 hy.2).mp q;simp[this];rw[if_neg q];have q':¬x=y:=λz=>q<|(dq hx.2 hy.2).mpr z;by_cases l:df ("",w,e) x y=true;rw[if_pos l];simp[q',l];rw[if_neg l];simp[l]
inductive cH (ds:List D) (S:aw) (R:KD) (Z:KX):Prop where
 |mk (x y wy e) (h0:ds=[x,y,.str e]) (h1:Cm x y) (h2:(x=.ao\/y=.ao)) (h3:R (.int<|cV wy e x y) S)
theorem jb(T:Txt w K mg t):Ok P w base T.dr 1 cH:=by
 refine T.dr.F.cP dY ?_;rintro _ _ _ _ _ _ _ S R Z hr ⟨x,y,wy,e,e0,⟨k,hx,hy⟩,hn,q⟩;subst e0;refine{_,(sc (si (twd<|twand (bL nv hr.u (dv 0) dn)<|tw1<|bL nv hr.u (dv 1) dn) (s1<|sr di) s0)<|sc (ck (i:=3) dY.nd<|cm bG hr.u (dv 2) ds)<|s1<|sr<|Uh (bL bG hr.u (dv 3)<|cm nv hr.u (dv 0) dn) (EG di) di),?_};unfold cV at q;refine !!⟨bB (λh=>!!⟨bB (λh2=>?_) λh2=>?_⟩) λh=>?_⟩;rw[dU h,dU h2]at q;exact fo q;have e1:ah x≠ah y:=by rw[show ah x=true from h,show ah y=false from h2];decide
 rw[wj e1,if_neg zd]at q;unfold df at q;rw[show ah x=true from h,show ah y=false from h2]at q;refine !!!⟨?_⟩;dsimp only[dC,YY];refine DN !⟨?_⟩;have q:R (.int<|if (ah x==decide (e ="first"))=true then -1 else 1) S:=by rw[show ah x=true from h];exact q
 rw[Bool.beq_comm]at q;refine bB (λz=>?_) λz=>?_;rw[if_pos<|show(decide (e ="first")==ah x)=true from z]at q;exact{_,rfl,fo q};rw[if_neg λz2=>tf z2<|show(decide (e ="first")==ah x)=false from z]at q;exact fo q;have hy1:ah y=true:=by rcases hn with rfl|rfl;cases h;rfl
 have e1:ah x≠ah y:=by rw[show ah x=false from h,hy1];decide
 rw[wj e1,if_neg zd]at q;unfold df at q;rw[show ah x=false from h,hy1]at q;refine !!!⟨?_⟩;dsimp only[dC,YY];refine DN !⟨?_⟩;have q:R (.int<|if (ah x==decide (e ="first"))=true then -1 else 1) S:=by rw[show ah x=false from h];exact q
 rw[Bool.beq_comm]at q;refine bB (λz=>?_) λz=>?_;rw[if_pos<|show(decide (e ="first")==ah x)=true from z]at q;exact{_,rfl,fo q};rw[if_neg λz2=>tf z2<|show(decide (e ="first")==ah x)=false from z]at q;exact fo q
inductive sj (ds:List D) (S:aw) (R:KD) (Z:KX):Prop where
 |mk (x y wy e) (h0:ds=[x,y,.str wy,.str e]) (h1:Cm x y) (h2:R (.int<|cV wy e x y) S)
theorem oW(T:Txt w K mg t):Ok P w base T.compared 2 sj:=by refine T.compared.F.cP oF ?_;rintro _ _ _ _ _ _ _ S R Z hr ⟨x,y,wy,e,e0,hc,q⟩;subst e0;obtain⟨k,hx,hy⟩:=id hc;refine{_,(sc (si (twd<|twor (bL nv hr.u (dv 0) dn)<|tw1<|bL nv hr.u (dv 1) dn) (s1<|sr<|bC T.dr (jb T) hr<|al 0<|al 1<|al 3 an) s0)<|sc (si (bL bG hr.u (dv 0)<|dv 1) (s1<|sr di) s0)<|sc (ck (i:=4) oF.nd<|cm EF hr.u (dv 0)<|dv 1)<|s1<|sr<|Uh (bL bG hr.u (dv 4)<|cm bG hr.u (dv 2) ds) (EG di) di),?_};have none:∀Zq:KX,x=.ao\/y=.ao->cH [x,y,.str e] S (λd S'=>Fo S'<|R d) Zq:=λ_ hn=>{x,y,wy,e,rfl,hc,hn,fo q};refine !!⟨bB (λh=>?_) λh=>!!⟨bB (λh2=>?_) λh2=>?_⟩⟩;exact !!!⟨none _<|.inl<|dU h⟩;exact !!!⟨none _<|.inr<|dU h2⟩;clear none;have nx:ah x=false:=h;have ny:ah y=false:=h2;unfold cV at q;refine !!⟨yW hx.2 hy.2 !⟨bB (λh3=>?_) λh3=>?_⟩⟩;have h3:oU x y=true:=h3;rw[if_pos h3]at q;exact fo q;have h3:oU x y=false:=h3;rw[h3,if_neg zd]at q;unfold df at q;rw[nx,ny]at q;have q:R (.int<|if (tK x y==decide (wy ="up"))=true then -1 else 1) S:=q;rcases wc hx hy (bt nx) (bt ny) with⟨i,j,rfl,rfl⟩|⟨i,j,rfl,rfl⟩;refine !!!!⟨?_⟩;dsimp only[dC];refine NG ?_;refine DN ?_;refine{_,rfl,?_};refine bB (λz=>?_) λz=>?_;rw[if_pos<|show(tK (.int i) (.int j)==decide (wy ="up"))=true from z]at q;exact{_,rfl,fo q};rw[if_neg λz2=>tf z2<|show(tK (.int i) (.int j)==decide (wy ="up"))=false from z]at q;exact fo q;refine !!!!⟨?_⟩;dsimp only[dC];refine NG ?_;refine DN ?_;refine{_,rfl,?_};refine bB (λz=>?_) λz=>?_;rw[if_pos<|show(tK (.str i) (.str j)==decide (wy ="up"))=true from z]at q;exact{_,rfl,fo q};rw[if_neg λz2=>tf z2<|show(tK (.str i) (.str j)==decide (wy ="up"))=false from z]at q;exact fo q
noncomputable def Cb(ps:List Part)(wy:Str):List (Str×Str):=ps.map Prod.snd++[(wy,("last": Str))]
noncomputable def fh:List (Str×Str)->List D->List D->Int|w::ws,x::xs,y::ys=>(if cV w.1 w.2 x y=0 then fh ws xs ys else cV w.1 w.2 x y)|_,_,_=>0
def PV(ks:List Str)(xs:List D):Prop:=Paired (λk x=>Vg k x) ks xs
theorem y4:∀{ws:List (Str×Str)}{ks:List Str}{xs ys:List D},ws.length=ks.length->PV ks xs->PV ks ys->(fh ws xs ys=0↔xs=ys)|[],_,_,_,h,.nil,.nil=>by simp[fh]|w::ws,_,_,_,h,.cons (b:=x) a1 a2,.cons (b:=y) b1 b2=>by unfold fh;have c:=r_ (w:=w.1) (e:=w.2) {_,a1,b1};by_cases q:cV w.1 w.2 x y=0;rw[if_pos q,y4 (yR h) a2 b2,c.mp q];simp;rw[if_neg q];exact{λz=>absurd z q,λz=>absurd (c.mpr (List.cons.inj z).1) q}
theorem Je:∀{ws:List (Str×Str)}{ks:List Str}{xs ys zs:List D},PV ks xs->PV ks ys->PV ks zs->fh ws xs ys<0->fh ws ys zs<0->fh ws xs zs<0|[],_,_,_,_,_,_,_,h,_=>by simp[fh]at h|w::ws,_,_,_,_,.nil,.nil,.nil,h,_=>by simp[fh]at h|w::ws,_,_,_,_,.cons (b:=x) a1 a2,.cons (b:=y) b1 b2,.cons (b:=z) c1 c2,h1,h2=>by unfold fh at h1 h2⊢;have e1:=r_ (w:=w.1) (e:=w.2) {_,a1,b1};have e2:=r_ (w:=w.1) (e:=w.2) {_,b1,c1};have e3:=r_ (w:=w.1) (e:=w.2) {_,a1,c1};by_cases q1:x=y;subst q1;rw[if_pos<|e1.mpr rfl]at h1;by_cases q2:x=z;subst q2;rw[if_pos<|e2.mpr rfl]at h2⊢;exact Je a2 b2 c2 h1 h2;rw[if_neg λz=>q2<|e2.mp z]at h2⊢;exact h2;rw[if_neg λz=>q1<|e1.mp z]at h1;by_cases q2:y=z;subst q2;rw[if_neg λz=>q1<|e3.mp z];exact h1;rw[if_neg λz=>q2<|e2.mp z]at h2;obtain⟨q3,l3⟩:=LW (p:=("",w.1,w.2)) a1 b1 c1 q1 q2 ((y3 {_,a1,b1}).mp h1).2 ((y3 {_,b1,c1}).mp h2).2;rw[if_neg λz=>q3<|e3.mp z];exact(y3 {_,a1,c1}).mpr ⟨q3,l3⟩
noncomputable def VS(cs:List<|Str×Str)(z:Str):Str:=((cs[QJ cs z]?).map Prod.snd).getD "word"
noncomputable def Xi(cs:List<|Str×Str)(ps:List Part):List Str:=ps.map (λp=>VS cs p.1)++[("word": Str)]
noncomputable def NH(cs:List<|Str×Str)(ps:List Part)(r:Row):List D:=ps.map (λp=>aq cs r.2 p.1)++[.str r.1]
theorem oX:∀z∈KS,Vg "word" (.str z):=by
 have h:∀z∈KS,(oI z&&cT (.str z))=true:=by trivial
 exact λz hz=>let q:=Bool.and_eq_true_iff.mp<|h z hz;⟨q.1,q.2⟩
theorem lL:∀{l:List α}{m:List β}{l':List α}{m':List β},Paired r l m->Paired r l' m'->Paired r (l++l') (m++m')|_,_,_,_,.nil,h=>h|_,_,_,_,.cons a t,h=>.cons a<|lL t h
theorem Cc(hg:Gd cs)(hp:Pin cs ps)(hw:Wg cs ws):Paired (λk x=>Vg k x) (ps.map λp=>VS cs p.1) (ps.map λp=>aq cs ws p.1):=by induction ps with|nil=>exact .nil|cons p ps ih=>refine .cons ?_<|ih hp.tail;obtain⟨c,hc,e⟩:=hp p zp;show Vg (VS cs p.1) (aq cs ws p.1);unfold VS;rw[<-e,(B7 hg hc).1];exact(qg hg hw hc).2
theorem Jf(hg:Gd cs)(hp:Pin cs ps)(hw:Wg cs r.2)(hk:r.1∈KS):PV (Xi cs ps) (NH cs ps r):=lL (Cc hg hp hw)<|.cons (oX _ hk) .nil
theorem DP(hg:Gd cs){wy:Str}(ha:Wg cs a.2)(hb:Wg cs b.2)(ka:a.1∈KS)(kb:b.1∈KS)(n:a.1≠b.1):∀{ps:List Part},Pin cs ps->(cU cs wy ps a b=true↔fh (Cb ps wy) (NH cs ps a) (NH cs ps b)<0)|[],_=>(by show(t9 a.1 b.1==decide (wy ="up"))=true↔(if cV wy "last" (.str a.1) (.str b.1)=0 then 0 else cV wy "last" (.str a.1) (.str b.1))<0;have n':(.str a.1:D)≠.str b.1:=λe=>n<|D.str.inj e;rw[if_neg λz=>n'<|(r_ {_,oX _ ka,oX _ kb}).mp z,y3 {_,oX _ ka,oX _ kb}];exact{λh=>⟨n',h⟩,λh=>h.2})|p::ps,hp=>by obtain⟨k,hk⟩:=wg hg hp;have va:=hk _ ha;have vb:=hk _ hb;show(if oU (aq cs a.2 p.1) (aq cs b.2 p.1)=true then cU cs wy ps a b else df p (aq cs a.2 p.1) (aq cs b.2 p.1))=true↔(if cV p.2.1 p.2.2 (aq cs a.2 p.1) (aq cs b.2 p.1)=0 then fh (Cb ps wy) (NH cs ps a) (NH cs ps b) else cV p.2.1 p.2.2 (aq cs a.2 p.1) (aq cs b.2 p.1))<0;by_cases q:aq cs a.2 p.1=aq cs b.2 p.1;rw[if_pos<|(dq va.2 vb.2).mpr q,if_pos<|(r_ {_,va,vb}).mpr q];exact DP hg ha hb ka kb n hp.tail;rw[if_neg λz=>q<|(dq va.2 vb.2).mp z,if_neg λz=>q<|(r_ {_,va,vb}).mp z,y3 {_,va,vb}];exact{λh=>⟨q,h⟩,λh=>h.2}
noncomputable def VT(ws:List<|Str×Str)(g:List D)(sd:Str)(x:List D):Bool:=decide (fh ws x g<0)||(decide (fh ws x g=0)&&decide (sd ="behind"))
theorem VU{ws:List<|Str×Str}{ks:List Str}{g x y:List D}{sd:Str}(hl:ws.length=ks.length)(hx:PV ks x)(hy:PV ks y)(hg:PV ks g)(h:fh ws x y<0)(q:VT ws g sd y=true):VT ws g sd x=true:=by unfold VT at q⊢;simp only[yH,zQ,yr]at q⊢;rcases q with q|⟨q,_⟩;exact .inl<|Je hx hy hg h q;rw[<-(y4 hl hy hg).mp q];exact .inl h
theorem Cf:∀{l:List α},(l.Pairwise λa b=>g b=true->g a=true)->∀{i:Nat}{a:α},l[i]?=some a->(g a=true↔i<l.countP g)
 |[],_,i,a,h=>by simp at h
 |x::l,hp,i,a,h=>by
  obtain⟨h1,h2⟩:=List.pairwise_cons.mp hp;rw[List.countP_cons];by_cases q:g x=true;rw[if_pos q];cases i with|zero=>(cases h;simp[q])|succ i=>rw[Cf h2<|show l[i]?=some a from h];lia
  have z:l.countP g=0:=List.countP_eq_zero.mpr λb hb e=>q<|h1 b hb e;rw[if_neg q,z];have:g a≠true:=by cases i with|zero=>(cases h;exact q)|succ i=>exact λe=>q<|h1 a (zI h) e
  simp[this]
theorem QT{α:Type}{g:α->Bool}{l:List α}(hp:l.Pairwise λa b=>g b=true->g a=true){n:Nat}(hn:n<=l.length)(h1:∀i a,i<n->l[i]?=some a->g a=true)(h2:∀i a,n<=i->l[i]?=some a->g a=false):n=l.countP g:=by
 have hc:l.countP g<=l.length:=List.countP_le_length;rcases Nat.lt_trichotomy n (l.countP g) with h|h|h;have hi:n<l.length:=by lia
 have e:=ze hi;have:=(Cf hp e).mpr h;rw[h2 n _ (zo _) e]at this;cases this;exact h;have hi:l.countP g<l.length:=by lia
 have e:=ze hi;have:=(Cf hp e).mp<|h1 _ _ h e;lia
noncomputable def L8(xs:List D)(k:Str):D:=.tup [.tup xs,.str k]
abbrev NI:=List D×Str×Str
noncomputable def wo(g:NI):D:=.tup [L8 g.1 g.2.1,.str g.2.2]
noncomputable def y6(z:Str):Bool:=decide (z ="ahead")||decide (z ="behind")
structure Gp(cs:List (Str×Str))(ps:List Part)(g:NI):Prop where
 pv:Paired (λk x=>Vg k x) (ps.map λp=>VS cs p.1) g.1
 key:g.2.1∈KS
 side:y6 g.2.2=true
noncomputable def VV(g:NI):List D:=g.1++[.str g.2.1]
theorem Gp.vs(h:Gp cs ps g):PV (Xi cs ps) (VV g):=lL h.pv<|.cons (oX _ h.key) .nil
theorem Gp.len(h:Gp cs ps g):g.1.length=ps.length:=by have:=Paired.length h.pv;rw[zc]at this;exact this.symm
theorem Og.len(h:Og cs ps wy):ps.length<=8:=by have:=h.ok;unfold Io at this;simp only[zQ,yr]at this;exact this.1
inductive FF (ds:List D) (S:aw) (R:KD) (Z:KX):Prop where
 |mk (z) (h0:ds=[.str z]) (h1:R (.bl<|y6 z) S)
noncomputable def L9:D->Bool|.int n=>decide (1<=n)&&decide (n<=1000)|_=>false
inductive mS (t:eZ) (ds:List D) (S:aw) (R:KD) (Z:KX):Prop where
 |mk (d:D) (h0:ds=[d]) (h1:Gt S d) (h2:L9 d=true->R .ao S) (h3:L9 d=false->Z t.aS S)
theorem kU(T:Txt w K mg t):Ok P w base T.iD 2 (mS t):=by refine T.iD.F.cP tq ?_;obtain⟨d,e,hd,q1,q2⟩;refine{_,(s1<|si (twd<|twor (dG<|tv<|bC T.jz (jL T) hr<|al 0 an)<|tw1<|dG<|WE jk jk hr.u di (dv 0)<|dg (v:=.int 1000) T.vp {_,rfl} λ_=>aP _) (s1<|wJ ⟨T.j7⟩ T.q_<|ac ds an) s0),?_};refine !{d,rfl,hd,_,rfl,?_};cases d with|int n=>refine bY !!⟨bB (λh1=>?_) λh1=>?_⟩;have h1:1<=n:=zi h1;refine{_,rfl,?_};by_cases h2:n<=1000;exact dW (by show(!decide (n<=1000))=false;rw[zx h2];rfl)<|fo<|q1 (by show(decide (1<=n)&&decide (n<=1000))=true;rw[zx h1,zx h2];rfl);exact sJ (by show(!decide (n<=1000))=true;rw[zq h2];rfl) {gJ,fo<|q2<|by show(decide (1<=n)&&decide (n<=1000))=false;rw[zq h2,Bool.and_false]};have h1:decide (1<=n)=false:=h1;exact{_,rfl,cw {gJ,fo<|q2<|by show(decide (1<=n)&&decide (n<=1000))=false;rw[h1];rfl}}|_=>exact cw {gJ,fo<|q2 rfl}
structure An(cs:List (Str×Str))(ps:List Part)(wy:Str)(A:List Row):Prop where
 rg:Rg cs A
 ky:∀r∈A,r.1∈KS
 pw:A.Pairwise λa b=>cU cs wy ps a b=true
noncomputable def gP(cs:List<|Str×Str)(ps:List Part)(wy:Str)(g:NI)(r:Row):Bool:=VT (Cb ps wy) (VV g) g.2.2<|NH cs ps r
theorem L_:(Cb ps wy).length=(Xi cs ps).length:=by unfold Cb Xi;simp
theorem An.lex(hg:Gd cs)(hp:Pin cs ps)(h:An cs ps wy A):A.Pairwise λa b=>fh (Cb ps wy) (NH cs ps a) (NH cs ps b)<0:=by have nd:A.Pairwise λa b=>a.1≠b.1:=List.pairwise_map.mp h.rg.2;refine(h.pw.and nd).imp_of_mem λ{a b} ha hb q=>?_;exact(DP hg (h.rg.1 a ha) (h.rg.1 b hb) (h.ky a ha) (h.ky b hb) q.2 hp).mp q.1
theorem An.mono(hg:Gd cs)(hp:Pin cs ps)(h:An cs ps wy A)(hv:Gp cs ps g):A.Pairwise λa b=>gP cs ps wy g b=true->gP cs ps wy g a=true:=by refine(h.lex hg hp).imp_of_mem λ{a b} ha hb q=>?_;exact VU L_ (Jf hg hp (h.rg.1 a ha)<|h.ky a ha) (Jf hg hp (h.rg.1 b hb)<|h.ky b hb) hv.vs q
inductive so (ds:List D) (S:aw) (R:KD) (Z:KX):Prop where
 |mk (cs ps wy r) (h0:ds=[.tup<|cs.map aD,cu ps wy,ak r]) (h1:Gd cs) (h2:Pin cs ps) (h3:ps.length<=8) (h4:Wg cs r.2) (h5:R (L8 (ps.map λp=>aq cs r.2 p.1) r.1) S)
theorem jW(T:Txt w K mg t):Ok P w base T.jB 3 so:=by
 refine T.jB.F.cP oG ?_;obtain⟨cs,ps,wy,r,e,hg,hp,h8,hw,q⟩;refine{_,(sc (RL (i:=3) (N:=["part","columns","row"]) (src:=[none,some 0,some 2]) oG.nd (oy (ae BF) ["columns","order","row","values"] rfl rfl<|by trivial) (Lb<|ix hr.u (dv 1) di) (ur<|show(["part","columns","row"]:List Str).Nodup by trivial) (aY rfl) aZ (λ_ _ _ _ _=>wK) λ_ _ _ _ _=>(bC T.b9 (dF T) hr<|al 1<|al 2<|ac (ix hr.u (dv 0) di) an))<|s1<|sr<|bw<|ac (ct pY T.cJ bN<|al 3 an)<|ac (ix hr.u (dv 2) di) an),?_};refine !!{_,.inl rfl,?_};refine comp_map (λd=>match d with|.tup (.str z::_)=>aq cs r.2 z|_=>.ao) trivial (by show(ps.map p3).length<=_;rw[zc];lia) (λd hd Q hQ=>?_) λp oP=>?_;obtain⟨pt,hpt,rfl⟩:=zj.mp hd;obtain⟨c,hc,ec⟩:=hp pt hpt;refine !!!!{cs,r,c,(by rw[ec];rfl),hg,hw,hc,?_};rw[ec];exact hQ;have e3:(ps.map p3).map (λd=>match d with|.tup (.str z::_)=>aq cs r.2 z|_=>.ao)=ps.map λp=>aq cs r.2 p.1:=by rw[zB];rfl
 rw[show({ps.map p3,λ_=>True}:vg).xs=ps.map p3 from rfl,e3];exact !{_,_,rfl,.inl aa,_,rfl,_,rfl,fz,S,.new oP,q}
inductive gv (ds:List D) (S:aw) (R:KD) (Z:KX):Prop where
 |mk (ps:List Part) (wy:Str) (xs:List D) (k:Str) (ys:List D) (l:Str) (ks:List Str) (h0:ds=[cu ps wy,L8 xs k,L8 ys l]) (h1:ps.length=xs.length) (h2:ps.length=ys.length) (h3:Paired (λk x=>Vg k x) ks xs) (h4:Paired (λk x=>Vg k x) ks ys) (h5:k∈KS) (h6:l∈KS) (h7:R (.int<|fh (Cb ps wy) (xs++[.str k])<|ys++[.str l]) S)
theorem lM(T:Txt w K mg t):Ok P w base T.fc 3 gv:=by refine T.fc.F.cP bp ?_;obtain⟨ps,wy,xs,k,ys,l,ks,e,h1,h2,vx,vy,hk,hl,q⟩;refine{_,(sc (pA<|Bw (ZZ T.Nm<|ac (ix hr.u (dv 0) di)<|ac (ix hr.u (dv 1) di)<|ac (ix hr.u (dv 2) di) an) (gt (n:=3)<|gc (gn (i:=3) bp.nd)<|gc (gn (i:=4) bp.nd)<|gc (gn (i:=5) bp.nd) g0)<|sc (ck (i:=6) bp.nd<|bC T.compared (oW T) hr<|al 4<|al 5<|ac (ix hr.u (dv 3) di)<|ac (ix hr.u (dv 3) di) an)<|s1<|si (bL px hr.u (dv 6) di) (s1<|sr<|dv 6) s0)<|s1<|sr<|bC T.compared (oW T) hr<|ac (ix hr.u (dv 1) di)<|ac (ix hr.u (dv 2) di)<|ac (ix hr.u (dv 0) di)<|ac ds an),?_};refine{λav S'=>∃(o3 o4 o5 o6:Option D),av=[some<|cu ps wy,some<|L8 xs k,some<|L8 ys l,o3,o4,o5,o6]/\S'=S/\fh (Cb ps wy) (xs++[.str k]) (ys++[.str l])=cV wy "last" (.str k) (.str l),?_,?_};{refine !!!!!!{_,_,_,rfl,by rw[zc];exact h1,by rw[zc];exact h2,?_};refine{λi av S'=>∃(o3 o4 o5 o6:Option D),av=[some<|cu ps wy,some<|L8 xs k,some<|L8 ys l,o3,o4,o5,o6]/\S'=S/\fh (Cb ps wy) (xs++[.str k]) (ys++[.str l])=fh (Cb (ps.drop i) wy) (xs.drop i++[.str k]) (ys.drop i++[.str l]),{_,_,_,_,rfl,rfl,rfl},λ_ _ _ _=>trivial,?_,?_};rintro i d av S' hd ⟨o3,o4,o5,o6,rfl,rfl,he⟩;obtain⟨x,y,z,e1,e2,e3,rfl⟩:=nG hd;rw[zr]at e1;(cases e5:ps[i]? with|none=>(rw[e5]at e1;cases e1)|some p=>rw[e5]at e1;cases e1;obtain⟨i1,g1⟩:=zg.mp e5;obtain⟨i2,g2⟩:=zg.mp e2;obtain⟨i3,g3⟩:=zg.mp e3;rw[List.drop_eq_getElem_cons i1,List.drop_eq_getElem_cons i2,List.drop_eq_getElem_cons i3,g1,g2,g3]at he;have he:_=if cV p.2.1 p.2.2 y z=0 then fh (Cb (ps.drop<|i+1) wy) (xs.drop (i+1)++[.str k]) (ys.drop (i+1)++[.str l]) else cV p.2.1 p.2.2 y z:=he;obtain⟨k1,q1,v1⟩:=dE vx e2;obtain⟨k2,q2,v2⟩:=dE vy e3;cases q1.symm.trans q2;refine !{rfl,_,_,rfl,_,_,rfl,_,_,rfl,rfl,?_};refine !!!!!!{y,z,p.2.1,p.2.2,rfl,⟨k1,v1,v2⟩,_,rfl,_,rfl,bB (λh=>?_) λh=>?_};have h:(!decide (cV p.2.1 p.2.2 y z=0))=true:=h;rw[if_neg<|zM<|nt h]at he;rw[he]at q;exact{_,rfl,fo q};have h:(!decide (cV p.2.1 p.2.2 y z=0))=false:=h;rw[if_pos<|zi<|nf h]at he;exact{_,_,_,_,rfl,rfl,he});{rintro av S' ⟨o3,o4,o5,o6,rfl,rfl,he⟩;have he:_=fh (Cb (ps.drop (jn (ps.map p3) xs ys).length) wy) (xs.drop (jn (ps.map p3) xs ys).length++[.str k]) (ys.drop (jn (ps.map p3) xs ys).length++[.str l]):=he;rw[nF (by rw[zc];exact h1)<|by rw[zc];exact h2,zc,List.drop_length,h1,List.drop_length,<-h1,h2,List.drop_length]at he;refine fo {o3,o4,o5,o6,rfl,rfl,he.trans ?_};show(if cV wy "last" (.str k) (.str l)=0 then 0 else cV wy "last" (.str k) (.str l))=_;split;{next h=>exact h.symm};rfl}};rintro av S' ⟨o3,o4,o5,o6,rfl,rfl,he⟩;rw[he]at q;exact !!!!!!{_,_,_,_,rfl,{_,oX k hk,oX l hl},fo q}
inductive su (ds:List D) (S:aw) (R:KD) (Z:KX):Prop where
 |mk (cs ps wy r g) (h0:ds=[cu ps wy,L8 (ps.map λp=>aq cs r.2 p.1) r.1,wo g]) (h1:Gd cs) (h2:Pin cs ps) (h3:Wg cs r.2) (h4:r.1∈KS) (h5:Gp cs ps g) (h6:R (.bl<|gP cs ps wy g r) S)
theorem y7(T:Txt w K mg t):Ok P w base T.rh 4 su:=by refine T.rh.F.cP oH ?_;obtain⟨cs,ps,wy,r,g,e,hg,hp,hw,hk,hv,q⟩;refine{_,(sc (ck (i:=3) oH.nd<|bC T.fc (lM T) hr<|al 0<|al 1<|ac (ix hr.u (dv 2) di) an)<|sc (si (bL bG hr.u (dv 3) di) (s1<|sr<|cm bG hr.u (ix hr.u (dv 2) di) ds) s0)<|s1<|sr<|cm EF hr.u (dv 3) di),?_};refine !!!!{ps,wy,_,r.1,g.1,g.2.1,_,rfl,by rw[zc],hv.len.symm,Cc hg hp hw,hv.pv,hk,hv.key,_,rfl,_,rfl,?_};unfold gP VT at q;change R (.bl<|decide (fh (Cb ps wy) ((ps.map λp=>aq cs r.2 p.1)++[.str r.1]) (g.1++[.str g.2.1])<0)||decide (fh (Cb ps wy) ((ps.map λp=>aq cs r.2 p.1)++[.str r.1]) (g.1++[.str g.2.1])=0)&&decide (g.2.2 ="behind")) S at q;generalize fh (Cb ps wy) _ _=n at q⊢;refine bB (λh=>?_) λh=>?_;have h:n=0:=zi h;subst h;exact !!⟨fo q⟩;have h:¬n=0:=zM h;rw[zq h,zW,Bool.or_false]at q;exact{_,rfl,fo q}
inductive kW (ds:List D) (S:aw) (R:KD) (Z:KX):Prop where
 |mk (cs ps wy A l g) (h0:ds=[.tup<|cs.map aD,cu ps wy,.ref l,wo g]) (h1:Gd cs) (h2:Pin cs ps) (h3:ps.length<=8) (h4:S l=some (.lst<|A.map ak)) (h5:An cs ps wy A) (h6:Gp cs ps g) (h7:R (.int ((A.countP (gP cs ps wy g):Nat):Int)) S)
theorem sv(T:Txt w K mg t):Ok P w base T.jD 5 kW:=by
 refine T.jD.F.cP bP ?_;obtain⟨cs,ps,wy,A,l,g,e,hg,hp,h8,hl,hA,hv,q⟩;refine{_,(sc (ck (i:=4) bP.nd di)<|sc (ck (i:=5) bP.nd<|cb bz T.bc aQ<|al 2 an)<|sc (pA<|ZL (bL EF hr.u (dv 4)<|dv 5)<|sc (ck (i:=6) bP.nd<|bo e_ hr.u (bo bj hr.u (dv 4)<|dv 5) di)<|s1<|si (tv<|bC T.rh (y7 T) hr<|al 1<|ac (bC T.jB (jW T) hr<|al 0<|al 1<|ac (ix hr.u (dv 2)<|dv 6) an)<|al 3 an) (s1<|ck (i:=4) bP.nd<|bo bj hr.u (dv 6) di)<|s1<|ck (i:=5) bP.nd<|dv 6)<|s1<|sr<|dv 4),?_};refine !!⟨.inl {_,hl,?_}⟩;rw[zc];refine{λav S'=>∃(o6:Option D),av=[some<|.tup<|cs.map aD,some<|cu ps wy,some<|.ref l,some<|wo g,some<|.int ((A.countP (gP cs ps wy g):Nat):Int),some<|.int ((A.countP (gP cs ps wy g):Nat):Int),o6]/\S'=S,?_,?_};refine{λm av S'=>∃(lo hi:Nat)(o6:Option D),av=[some<|.tup<|cs.map aD,some<|cu ps wy,some<|.ref l,some<|wo g,some<|.int (lo:Nat),some<|.int (hi:Nat),o6]/\S'=S/\m=hi-lo/\lo<=hi/\hi<=A.length/\(∀i a,i<lo->A[i]?=some a->gP cs ps wy g a=true)/\(∀i a,hi<=i->A[i]?=some a->gP cs ps wy g a=false),{_,0,A.length,none,rfl,rfl,rfl,zZ _,zo _,λi a h=>absurd h<|Nat.not_lt_zero _,λi a h e=>?_},?_};rw[List.getElem?_eq_none h]at e;cases e;rintro m av S' ⟨lo,hi,o6,rfl,rfl,rfl,h1,h2,b1,b2⟩;refine !!!⟨bB (λh=>?_) λh=>?_⟩;have h:lo<hi:=by have:=zi h;lia
 have hm:(lo+hi)/2<A.length:=by lia
 have em:=ze hm;generalize A[(lo+hi)/2]=r at em;have Fj:=zI em;have ed:(((lo:Nat):Int)+((hi:Nat):Int))/2=(((lo+hi)/2:Nat):Int):=by lia
 have mono:=hA.mono hg hp hv;refine !!⟨{by decide,by decide},?_⟩;rw[ed];refine !!!!!{_,ak r,hl,eM<|by rw[zr,em];rfl,cs,ps,wy,r,rfl,hg,hp,h8,hA.rg.1 r Fj,_,rfl,cs,ps,wy,r,g,rfl,hg,hp,hA.rg.1 r Fj,hA.ky r Fj,hv,_,rfl,bB (λz=>?_) λz=>?_};refine !{hi-((lo+hi)/2+1),by lia,(lo+hi)/2+1,hi,_,rfl,rfl,rfl,by lia,h2,λi a UR ei=>?_,b2};rcases Nat.lt_or_ge i ((lo+hi)/2) with eY|WW;exact List.pairwise_iff_getElem.mp mono i _ (zg.mp ei).1 hm eY |> λk=>by rw[(zg.mp ei).2,(zg.mp em).2]at k;exact k z
 have:i=(lo+hi)/2:=by lia
 subst this;rw[em]at ei;cases ei;exact z;refine !{(lo+hi)/2-lo,by lia,lo,(lo+hi)/2,_,rfl,rfl,rfl,by lia,by lia,b1,λi a UR ei=>?_};rcases Nat.lt_or_ge ((lo+hi)/2) i with eY|WW;cases qa:gP cs ps wy g a with|false=>rfl|true=>have k:=List.pairwise_iff_getElem.mp mono _ i hm (zg.mp ei).1 eY;rw[(zg.mp ei).2,(zg.mp em).2]at k;exact tf (k qa) z
 have:i=(lo+hi)/2:=by lia
 subst this;rw[em]at ei;cases ei;exact z;have h:lo=hi:=by have:=zM h;lia
 subst h;have:=QT (hA.mono hg hp hv) h2 b1 b2;subst this;exact fo !⟨rfl⟩;rintro av S' ⟨o6,rfl,rfl⟩;exact{_,rfl,fo q}
noncomputable def seg{α:Type}(A:List α)(b e:Nat):List α:=(A.drop b).take<|e-b
theorem Ma(h:b<=e)(h2:e<=A.length):cq (A.map ak) (some ((b:Nat):Int)) (some ((e:Nat):Int))=(seg A b e).map ak:=by unfold cq seg;rw[HT.sIx_nat,HT.sIx_nat,zc,Nat.min_eq_left h2,Nat.min_eq_left<|zL h h2,List.map_take,List.map_drop]
noncomputable def QU(p:Addr)(b c:Nat):D:=.tup [.ref p,.int (b:Nat),.int (c:Nat)]
structure NJ(cs:List (Str×Str))(ps:List Part)(wy:Str)(n:Nat)(d:D)(rows A:List Row):Prop where
 an:An cs ps wy A
 pm:A.Perm (rows.filter λr=>bU cs r n d)
theorem NJ.one(hg:Gd cs)(hp:Pin cs ps)(h:NJ cs ps wy n d rows A)(h':NJ cs ps wy n d rows A'):A=A':=LX hg hp h'.an.rg h.an.pw h'.an.pw<|h.pm.trans h'.pm.symm
def VW(rows:List Row):Prop:=∀r∈rows,r.1∈KS
theorem QV(hr:Rg cs rows)(hk:VW rows)(pm:A.Perm<|rows.filter λr=>bU cs r n d)(pw:A.Pairwise λa b=>cU cs wy ps a b=true):NJ cs ps wy n d rows A:={{(hr.sub yA).perm pm,λr h=>hk r (yi.mp<|pm.mem_iff.mp h).1,pw},pm}
noncomputable def NK(A:List Row)(b n:Nat):Nat:=min (b+n) A.length
inductive jX (ds:List D) (S:aw) (R:KD) (Z:KX):Prop where
 |mk (l:Addr) (A:List Row) (b e:Nat) (h0:ds=[.ref l,.int (b:Nat),.int (e:Nat)]) (h1:S l=some (.lst<|A.map ak)) (h2:b<=e) (h3:e<=A.length) (h4:∀p,S p=none->R (QU p b<|A.length-e) (S.set p<|.lst<|(seg A b e).map ak))
theorem pO(T:Txt w K mg t):Ok P w base T.iC 1 jX:=by refine T.iC.F.cP pH ?_;rintro _ _ _ _ _ _ _ S R Z hr ⟨l,A,b,e,e0,hl,h1,h2,q⟩;subst e0;refine{_,(s1<|sr<|bw<|ac (Ni (dv 0) (o1<|dv 1)<|o1<|dv 2)<|al 1<|ac (bo Hb hr.u (cb bz T.bc aQ<|al 0 an)<|dv 2) an),?_};refine !!!!!{_,hl,λp hp=>?_};rw[Ma h1 h2];refine !!!⟨.inl {_,(Sub.new hp) _ _ hl,_,rfl,mD,?_}⟩;rw[zc,show((A.length:Nat):Int)-((e:Nat):Int)=((A.length-e:Nat):Int) by omega];exact fo<|q p hp
inductive oY (ds:List D) (S:aw) (R:KD) (Z:KX):Prop where
 |mk (l:Addr) (A:List Row) (b n:Nat) (h0:ds=[.ref l,.int (b:Nat),.int (n:Nat)]) (h1:S l=some (.lst<|A.map ak)) (h2:b<=A.length) (h3:∀p,S p=none->R (QU p b<|A.length-NK A b n) (S.set p<|.lst<|(seg A b<|NK A b n).map ak))
theorem wq(T:Txt w K mg t):Ok P w base T.nO 2 oY:=by
 refine T.nO.F.cP vV ?_;rintro _ _ _ _ _ _ _ S R Z hr ⟨l,A,b,n,e0,hl,h1,q⟩;subst e0;refine{_,(s1<|sr<|bC T.iC (pO T) hr<|al 0<|al 1<|ac (cb MX T.Nn G8<|ac (bo bj hr.u (dv 1)<|dv 2)<|ac (cb bz T.bc aQ<|al 0 an) an) an),?_};refine !!!!!!⟨.inl {_,hl,_,_,rfl,?_}⟩;rw[zc];have e1:(if decide (((A.length:Nat):Int)<((b:Nat):Int)+((n:Nat):Int))=true then ((A.length:Nat):Int) else ((b:Nat):Int)+((n:Nat):Int))=((NK A b n:Nat):Int):=by unfold NK;by_cases h:((A.length:Nat):Int)<((b:Nat):Int)+((n:Nat):Int);rw[if_pos<|zx h];omega;rw[if_neg<|by rw[zq h];exact zd];omega
 rw[e1];exact{l,A,b,NK A b n,rfl,hl,by unfold NK;omega,by unfold NK;omega,λp hp=>fo<|q p hp}
structure Qs(t:eZ)(S:aw)(a:Addr)(cs:List (Str×Str))(ps:List Part)(wy:Str)(d m:D)(rows:List Row):Prop where
 g:Gd cs
 o:Og cs ps wy
 s:Sq cs d
 v:Vw t.aj S a cs m rows
 k:VW rows
 t:Tb t S
section
variable{t:eZ}{S:aw}{a:Addr}{cs:List (Str×Str)}{ps:List Part}{wy:Str}{d m:D}{rows:List Row}(hq:Qs t S a cs ps wy d m rows)
include hq
end
noncomputable def VX(cs:List<|Str×Str)(ps:List Part)(sd:Str)(r:Row):NI:=(ps.map λp=>aq cs r.2 p.1,r.1,sd)
theorem Jg{cs:List<|Str×Str}(hg:Gd cs){ps:List Part}(hp:Pin cs ps){r:Row}(hw:Wg cs r.2)(hk:r.1∈KS){sd:Str}(hs:y6 sd=true):Gp cs ps (VX cs ps sd r):={Cc hg hp hw,hk,hs}
inductive uK (ds:List D) (S:aw) (R:KD) (Z:KX):Prop where
 |mk (cs:List<|Str×Str) (ps:List Part) (wy:Str) (p:Addr) (rows:List Row) (b c:Nat) (h0:ds=[.tup<|cs.map aD,cu ps wy,QU p b c]) (h1:Gd cs) (h2:Pin cs ps) (h3:ps.length<=8) (h4:S p=some (.lst<|rows.map ak)) (h5:(∀r∈rows,Wg cs r.2)) (h6:(rows=[]->R .ao S)) (h7:∀r0 r1,rows[0]?=some r0->rows[rows.length-1]?=some r1->R (.tup [wo<|VX cs ps "ahead" r0,wo<|VX cs ps "behind" r1]) S)
theorem Ci(T:Txt w K mg t):Ok P w base T.vI 4 uK:=by
 refine T.vI.F.cP rn ?_;rintro _ _ _ _ _ _ _ S R Z hr ⟨cs,ps,wy,p,rows,b,c,e0,hg,hp,h8,hS,hw,q1,q2⟩;subst e0;refine{_,(sc (ck (i:=3) rn.nd<|ix hr.u (dv 2) di)<|sc (si (bL bG hr.u (cb bz T.bc aQ<|al 3 an) di) (s1<|sr dn) s0)<|s1<|sr<|bw<|ac (bw<|ac (bC T.jB (jW T) hr<|al 0<|al 1<|ac (ix hr.u (dv 3) di) an)<|ac ds an)<|ac (bw<|ac (bC T.jB (jW T) hr<|al 0<|al 1<|ac (ix hr.u (dv 3)<|EG di) an)<|ac ds an) an),?_};refine !!!!⟨.inl {_,hS,_,rfl,?_}⟩;rw[zc];refine bB (λh=>?_) λh=>?_;have h:((rows.length:Nat):Int)=0:=zi h;exact fo<|q1<|List.length_eq_zero_iff.mp (by lia);have h:¬((rows.length:Nat):Int)=0:=zM h;have h0:0<rows.length:=by lia
 have hl:rows.length-1<rows.length:=by lia
 have e0:=ze h0;have e1:=ze hl;generalize rows[0]=r0 at e0;generalize rows[rows.length-1]=r1 at e1;have w0:=hw r0<|zI e0;have w1:=hw r1<|zI e1;have ea:kJ (rows.map ak) (-1)=some (ak r1):=by unfold kJ FN;rw[zc,if_neg<|by decide,if_pos<|by lia,show((-1:Int)+((rows.length:Nat):Int)).toNat=rows.length-1 by lia];show(rows.map ak)[rows.length-1]?=_;rw[zr,e1];rfl
 refine !!!{_,ak r0,hS,eM (j:=0)<|by rw[zr,e0];rfl,cs,ps,wy,r0,rfl,hg,hp,h8,w0,fz,?_};refine !!!!{_,ak r1,hS,ea,cs,ps,wy,r1,rfl,hg,hp,h8,w1,fz,fz,?_};exact fo<|q2 r0 r1 e0 e1
noncomputable def AD:D->PyData|.int i=>.int i|.str z=>.str z|_=>.none
theorem QW(hx:cT x=true):Dp S x (AD x)/\(AD x).canLay0=true/\(AD x).depth<=0:=by cases x with|ao=>exact{by simp only[Dp,AD],by simp only[AD,PyData.canLay0],by simp only[AD,PyData.depth];lia}|int i=>exact{by simp only[Dp,AD],by simp only[AD,PyData.canLay0],by simp only[AD,PyData.depth];lia}|str z=>refine{by simp only[Dp,AD],?_,by simp only[AD,PyData.depth];lia};unfold cT at hx;simp only[zQ]at hx;simp only[AD,PyData.canLay0];exact hx.2|_=>cases hx
theorem DQ:∀{xs:List D},(∀x∈xs,cT x=true)->DpAll S xs (xs.map AD)/\PyData.canLayAll0 (xs.map AD)=true/\PyData.depthAll (xs.map AD)<=0|[],_=>{by simp only[List.map_nil,DpAll],rfl,zZ _}|x::xs,h=>by obtain⟨a,b,c⟩:=QW (S:=S)<|h x zp;obtain⟨a',b',c'⟩:=DQ (S:=S) λy hy=>h y<|zh _ hy;exact{by simp only[zJ,DpAll];exact{_,_,rfl,a,a'},by simp only[zJ,PyData.canLayAll0,b,b',Bool.and_self],by simp only[zJ,PyData.depthAll];lia}
noncomputable def Mb(r:Row):PyData:=.tuple [.str r.1,.tuple<|r.2.map AD]
theorem QX(hw:Wg cs r.2):Dr S (ak r) (Mb r):=by refine .tup<|.cons (.str _)<|.cons (.tup ?_) .nil;have h:=Wg.all hw;generalize r.2=ws at h;induction ws with|nil=>exact .nil|cons v ws ih=>refine .cons ?_<|ih λd hd=>h d<|zh _ hd;have hv:=h v zp;cases v<;>first|exact .ao|exact .int _|exact .str _|cases hv
theorem DR:∀{rows:List Row},(∀r∈rows,Wg cs r.2)->EW S (rows.map ak) (rows.map Mb)|[],_=>.nil|r::rows,h=>.cons (QX<|h r zp)<|DR λx hx=>h x<|zh _ hx
theorem Mc(hw:Wg cs r.2)(hk:r.1∈KS):(Mb r).canLay0=true/\(Mb r).depth<=2:=by obtain⟨_,b,c⟩:=DQ (S:=λ_=>none)<|Wg.all hw;have z:=(jQ _ hk).2.2;unfold Mb;refine{by simp only[PyData.canLay0,PyData.canLayAll0,z,b,Bool.and_self],?_};simp only[PyData.depth,PyData.depthAll];lia
theorem y8:∀{rows:List Row},(∀r∈rows,Wg cs r.2)->VW rows->PyData.canLayAll0 (rows.map Mb)=true/\PyData.depthAll (rows.map Mb)<=2|[],_,_=>{rfl,zZ _}|r::rows,h,k=>by obtain⟨a,b⟩:=Mc (h r zp)<|k r zp;obtain⟨a',b'⟩:=y8 (λx hx=>h x<|zh _ hx) λx hx=>k x<|zh _ hx;exact{by simp only[zJ,PyData.canLayAll0,a,a',Bool.and_self],by simp only[zJ,PyData.depthAll];lia}
theorem wu(h:r∈seg A b e):r∈A:=List.mem_of_mem_drop<|List.mem_of_mem_take h
theorem Jh(h:xs.length=10):(cq xs (some 2) none).length=8:=by unfold cq;rw[yh,List.length_drop,show HT.sIx xs.length 0 (some 2)=min 2 xs.length from HT.sIx_nat ..,show HT.sIx xs.length xs.length none=xs.length from rfl,h];rfl
inductive y9 (ds:List D) (S:aw) (R:KD) (Z:KX):Prop where
 |mk (cs:List<|Str×Str) (lk:Addr) (kn:Kn) (c:Int) (h0:ds=[.tup<|cs.map aD,.ref lk,.int c]) (h1:Gd cs) (h2:S lk=some (.cY<|ib kn)) (h3:KI cs kn) (h4:∀d qd,GD KS cs kn d->KnD kn d qd->KI cs qd->R d (S.set lk<|.cY<|ib qd))
theorem Ji(T:Txt w K mg t):Ok P w base T.BK 3 y9:=by
 refine T.BK.F.cP g9 ?_;obtain⟨cs,lk,kn,c0,e,hg,hk,hI,q⟩;have VP:=hg.1;have hkl:=hI.len;refine{_,(sc (ck (i:=3) g9.nd<|bC T.j9 (mJ T) hr<|al 2<|ac di an)<|sc (ck (i:=4) g9.nd<|bC T.HX (Qw T) hr<|ac (ix hr.u (dv 3) di) an)<|sc (ck (i:=5) g9.nd<|bC T.rm (Fn T) hr<|al 0<|ac (Ni (dv 3) (o1 di) o0) an)<|sc (si (twd<|twand (bL xq hr.u (dv 4)<|dv 1)<|tw1<|bL bG hr.u (bo bZ hr.u (ix hr.u (dv 3) di) di) di) (sc (se<|mp1 (dv 1)<|dv 4)<|s1<|sr<|bw<|ac ds<|al 4 an) s0)<|sc (ck (i:=6) g9.nd<|EM<|ix hr.u (bR<|ac ds<|ac ds an)<|ct Uz T.Nk GQ<|ac (cm xq hr.u (dv 4)<|dv 1) an)<|sc (sd hr.u (dv 1) (dv 4)<|dv 5)<|s1<|sr<|bw<|al 6<|al 4<|al 5 an),?_};refine !{c0,10,rfl,by decide,λxs lx Qz hx Es=>?_};have s1:=Sub.new (c:=.lst<|xs.map D.int) Es;have hX:(S.set lx<|.lst<|xs.map D.int) lx=some (.lst<|xs.map D.int):=aa;generalize S.set lx (.lst<|xs.map D.int)=S1 at s1 hX⊢;have at_:∀k:Nat,k<10->∃x:Int,kJ (xs.map D.int) ((k:Nat):Int)=some (.int x)/\0<=x:=λk hk=>rM (by lia) (by rw[zc];lia) hx;obtain⟨x0,e0,_⟩:=at_ 0 (by decide);obtain⟨x1,e1,_⟩:=at_ 1 (by decide);refine !{_,_,hX,e0,x0,rfl,λz hz=>?_};refine !!!{_,hX,λp2 lP=>{cs,p2,cq xs (some 2) none,rfl,hg,by rw[mR];exact aa,by rw[Jh Qz];lia,λws hw=>?_}};have s2:=s1.trans<|Sub.new (c:=.lst<|cq (xs.map D.int) (some 2) none) lP;have Ij:=(Sub.new (c:=.lst<|cq (xs.map D.int) (some 2) none) lP) _ _ hX;generalize S1.set p2 (.lst<|cq (xs.map D.int) (some 2) none)=S2 at s2 Ij⊢;have b8:=s2 _ _ hk;have isS:(bS (ib kn)<|.inr z).isSome=(iM kn z).isSome:=by rw[rP];cases iM kn z<;>rfl
 have hl:(ib kn).length<sizeLine:=bg (by unfold ib;rw[zc];lia);have n2:=fz;have n3:=mD;have fin:∀{d:D}{qd:Kn},GD KS cs kn d->KnD kn d qd->KI cs qd->Fo (S2.set lk<|.cY<|ib qd) (R d):=λh1 h2 h3=>{_,cN s2,q _ _ h1 h2 h3};refine !!⟨.inr {ib kn,.inr z,b8,rfl,_,rfl,bB (λh=>?_) λh=>?_}⟩;have h:(bS (ib kn)<|.inr z).isSome=true:=h;have Xj:(iM kn z).isSome=true:=isS ▸ h;obtain⟨vs,hvs⟩:=Option.isSome_iff_exists.mp Xj;refine !{_,_,Ij,e1,by decide,_,rfl,bB (λ_=>?_) λ_=>?_};refine !{lk,ib kn,rfl,b8,_,rfl,ib kn,.inr z,.tup vs,b8,rfl,by rw[rP,hvs];rfl,?_};rw[QB];exact !{n2,fin (.inr<|.inr ⟨z,hz,Xj,rfl⟩) (.inr ⟨z,Xj,rfl,rfl⟩)<|hI.del z};refine{n2,λp hp=>!!⟨.inr {ib kn,.inr z,(Sub.new hp) _ _ b8,rfl,?_}⟩};rw[h];refine .inr !{_,_,aa,(show kJ _ 1=some _ from rfl),S2,.new hp,?_};refine !!!{lk,ib kn,.inr z,rfl,b8,rfl,hl,?_};rw[Ik];exact !!!{n3,fin (.inr<|.inl ⟨z,ws,hz,hw,Xj,rfl⟩) (.inl {_,z,ws,.inr rfl,rfl,rfl})<|hI.put hz hw};have h:(bS (ib kn)<|.inr z).isSome=false:=h;have YH:iM kn z=none:=by cases e:iM kn z with|none=>rfl|some _=>rw[isS,e]at h;cases h
 refine bY {n2,λp hp=>!!⟨.inr {ib kn,.inr z,(Sub.new hp) _ _ b8,rfl,?_}⟩};rw[h];refine .inr !{_,_,aa,(show kJ _ 0=some _ from rfl),S2,.new hp,?_};refine !!!{lk,ib kn,.inr z,rfl,b8,rfl,hl,?_};rw[Ik];exact !!!{n3,fin (.inl ⟨z,ws,hz,hw,YH,rfl⟩) (.inl {_,z,ws,.inl rfl,rfl,rfl})<|hI.put hz hw}
inductive y_ (ds:List D) (S:aw) (R:KD) (Z:KX):Prop where
 |mk (cs:List<|Str×Str) (lk:Addr) (kn:Kn) (h0:ds=[.ref lk]) (h1:S lk=some (.cY<|ib kn)) (h2:KI cs kn) (h3:∀ss p,ss.Perm (kn.map (·.1))->PyProof.Rows.sortedS ss=true->S p=none->R (.ref p) (S.set p<|.lst<|(gu kn ss).map ak))
theorem z_(T:Txt w K mg t):Ok P w base T.vM 1 y_:=by
 refine T.vM.F.cP Fd ?_;obtain⟨cs,lk,kn,e,hk,hI,q⟩;have hkl:=hI.len;refine{_,(s1<|sr<|Ax (N:=["_law_key_here","_law_standing"]) (src:=[none,some 0]) (oy (ae HN) ["_law_standing"] rfl rfl<|by trivial) (il<|cb xw T.gX fC<|al 0 an) (ur<|show(["_law_key_here","_law_standing"]:List Str).Nodup by trivial) (aY rfl) aZ (λ_ _ _ _ _=>wK) λ_ _ _ _ _=>(bw<|al 0<|ac (ix hr.u (dv 1)<|dv 0) an)),?_};refine !{lk,ib kn,kn.map (·.1),rfl,hk,by unfold ib;rw[zB,zB];rfl,by unfold ib;rw[zc];lia,λss hp hs p oP=>?_};have hlen:ss.length<=60:=by rw[hp.length_eq,zc];exact hkl
 refine{_,aa,?_};refine comp_map (λd=>match d with|.str z=>.tup [.str z,pN kn z]|_=>.ao) aa (by show(ss.map D.str).length<=1000;rw[zc];lia) (λd hd Q hQ=>?_) λp2 lP=>?_;obtain⟨z,hz,rfl⟩:=zj.mp hd;obtain⟨ws,tL⟩:=jR<|hp.mem_iff.mp hz;have hQ:Q (.tup [.str z,pN kn z]) (S.set p<|.lst<|ss.map D.str):=hQ;have e1:bS (ib kn) (.inr z)=some (pN kn z):=by rw[rP];unfold pN;rw[tL];rfl
 exact !!!{ib kn,_,(Sub.new oP) _ _ hk,e1,fz,hQ};have em:(ss.map D.str).map (λd=>match d with|.str z=>D.tup [.str z,pN kn z]|_=>.ao)=(gu kn ss).map ak:=by rw[ko hp,zB];rfl
 rw[show({ss.map D.str,λS=>ug S (.ref p)<|ss.map D.str}:vg).xs=ss.map D.str from rfl,em];exact{_,cN<|.new oP,q ss p2 hp hs<|cg (.new oP) lP}
structure aaz(t:eZ)(ds:List D)(S:aw)(R:KD)(Z:KX):Prop where
 of:Nv t ds S R Z
noncomputable def Fs(lk lm:Addr)(kn:Kn)(ce:VR):List (Addr×Ce):=(lk,.cY<|ib kn)::(lm,.lst<|ce.map λx=>D.ref x.1)::ce.map aay
structure Bt(t:eZ)(S0:aw)(a lk lm:Addr)(cs:List (Str×Str))(kn:Kn)(ce:VR)(F:List Addr)(dl:List D)(rs:kQ)(S:aw):Prop where
 st:St t S0 a (Fs lk lm kn ce) F cs dl rs S
 ki:KI cs kn
 ri:RI rs dl.length kn
 hi:HI rs cs dl.length (ce.map Prod.snd)
 le:dl.length<=89
inductive uL (t:eZ) (ds:List D) (S:aw) (R:KD) (Z:KX):Prop where
 |mk (cs:List<|Str×Str) (l:Addr) (ms:List Int) (h0:ds=[.tup<|cs.map aD,.ref l]) (h1:Gd cs) (h2:S l=some (.lst<|ms.map D.int)) (h3:ms.length<=30) (h4:∀S' a lk lm kn ce F dl rs,Bt t S a lk lm cs kn ce F dl rs S'->R (.tup [.ref a,.ref lm,.ref lk]) S')
theorem Jj(T:Txt w K mg t):Ok P w base T.vN 8 (uL t):=by
 have Jl:Ok P w base T.vL 7 (aaz t):=(LP T).US λds S R Z h=>h.of;refine T.vN.F.cP cG ?_;obtain⟨cs,l,ms,e,hg,hl,h30,q⟩;refine{_,(sc (ck (i:=2) cG.nd<|mk T.HW (LK T) (hr.mono<|by decide) T.HV T.fR.b d0<|al 0 an)<|sc (ck (i:=3) cG.nd Ui)<|sc (ck (i:=4) cG.nd<|bR<|ac (bR an) an)<|sc (ck (i:=5) cG.nd<|bR an)<|sc (pA<|Bw (il<|Ni (dv 1) o0<|o1 di) (gn (i:=6) cG.nd)<|s1<|si (bL bG hr.u (bo bZ hr.u (dv 6) di) di) (s1<|RL (i:=5) (N:=["_law_k","_law_cell"]) (src:=[none,some 6]) cG.nd (oy (ae E3) ["_law_columns_here","_law_cells","_law_shelf","_law_standing","_law_moments","_law_more","_law_cell"] rfl rfl<|by trivial) (Ld T.ft<|ac (bo bj hr.u di<|bo bZ hr.u (bo e_ hr.u (dv 6) di) di) an) (ur<|show(["_law_k","_law_cell"]:List Str).Nodup by trivial) (aY rfl) aZ (λ_ _ _ _ _=>wK) λ_ _ _ _ _=>(bo bj hr.u (bo e_ hr.u (dv 1) di)<|bo uh hr.u di<|dv 0)) s0)<|sc (pA<|Bw (il<|bo bj hr.u (dv 5)<|dv 1) (gn (i:=6) cG.nd)<|sc (se<|bC T.vL Jl hr<|al 2<|ac (bC T.BK (Ji T) hr<|al 0<|al 3<|al 6 an) an)<|s1<|se<|bm zK zO zP ba (dv 4)<|ac (bC T.vM (z_ T) hr<|al 3 an) an)<|s1<|sr<|bw<|al 2<|al 4<|al 3 an),?_};refine{_,rfl,λa ha=>{a,cs,rfl,hg,aa,λS1 F1 x8 VC=>{rfl,?_}}};have aaA:Xh S F1 S1:=λb c hb=>by have h2:b≠a:=ia hb ha;exact VC b c (λm=>h2<|zu.mp m)<|(ag h2).trans hb
 have Xl:St t S a [] F1 cs [] [] S1:={x8,λ_ h=>(nomatch h),.nil,aaA};refine λlk Zv=>?_;have Md:=Xl.new Zv<|.cY [];generalize S1.set lk (.cY [])=SA at Md⊢;refine{rC,λq0 hq0=>{gJ,λlm hlm=>?_}};have AM:=(Md.new hq0<|.lst []).new hlm<|.lst [.ref q0];generalize (SA.set q0<|.lst []).set lm (.lst [.ref q0])=SB at AM⊢;have Gf:St t S a (Fs lk lm [] [(q0,[])]) F1 cs [] [] SB:=AM.perm<|.cons _<|.swap _ _ _;refine{rC,λle hle=>?_};have sb0:=Sub.new (c:=.lst []) hle;have VY:(SB.set le<|.lst []) le=some (.lst []):=aa;have RZ:=sb0 _ _<|Gf.FW.sub _ _ hl;generalize SB.set le (.lst [])=SC at sb0 VY RZ⊢;refine{λav S'=>∃(lx:Addr)(ys:List Int)(o6:Option D),av=[some<|.tup<|cs.map aD,some<|.ref l,some<|.ref a,some<|.ref lk,some<|.ref lm,some<|.ref lx,o6]/\Sub SC S'/\S' lx=some (.lst<|ys.map D.int)/\ys.length<=59,?_,?_};refine !!{_,RZ,λp1 Dx=>{_,aa,?_}};have AB:=Sub.new (c:=.lst<|cq (ms.map D.int) none<|some 1) Dx;have Me:(SC.set p1<|.lst<|cq (ms.map D.int) none<|some 1) p1=some (.lst<|cq (ms.map D.int) none<|some 1):=aa;generalize SC.set p1 (.lst<|cq (ms.map D.int) none<|some 1)=SD at AB Me⊢;rw[mR]at Me⊢;generalize cq ms none (some 1)=m1 at Me⊢;refine{λi av S'=>∃(lx:Addr)(ys:List Int)(o6:Option D),av=[some<|.tup<|cs.map aD,some<|.ref l,some<|.ref a,some<|.ref lk,some<|.ref lm,some<|.ref lx,o6]/\Sub SD S'/\S' lx=some (.lst<|ys.map D.int)/\ys.length<=59,{le,[],none,rfl,.refl _,AB _ _ VY,zZ _},?_,?_,?_};rintro i av S' ⟨_,_,_,_,sb,_⟩;exact sb _ _ Me;rintro i d av S' hd ⟨lx,ys,o6,rfl,sb,hx,hy⟩;have hd:(m1.map D.int)[i]?=some d:=hd;obtain⟨c,_,rfl⟩:=zj.mp<|zI hd;refine !{by decide,_,rfl,bB (λ_=>?_) λ_=>{lx,ys,_,rfl,sb,hx,hy}};have b0:0<=c/8%40:=yd _ (by decide);have b1:c/8%40<40:=yb _ (by decide);refine{_,rfl,{by decide,by trivial},by decide,_,rfl,by lia,by lia,?_};refine rE (λ_ v=>∃x:Int,v=.int x) trivial (by show(gD 0 _).length<=_;rw[dH];lia) (λd hd Q hQ=>?_) λout BA p oP=>?_;obtain⟨j,hj⟩:=List.getElem?_of_mem hd;obtain⟨_,rfl⟩:=eQ hj;exact{_,rfl,{by decide,by trivial},_,rfl,.inl<|by decide,hQ _ {_,rfl}};have hlen:=Paired.length BA;have:∀{L out:List D},Paired (λ_ v=>∃x:Int,v=D.int x) L out->∃xs:List Int,out=xs.map D.int:=λ{L out} h=>by induction h with|nil=>exact{[],rfl}|cons r _ ih=>obtain⟨x,rfl⟩:=r;obtain⟨xs,rfl⟩:=ih;exact{x::xs,rfl}
 obtain⟨zs,rfl⟩:=this BA;rw[zc]at hlen;have hlen:(gD 0 (20+c/8%40).toNat).length=zs.length:=hlen;rw[dH]at hlen;exact{p,zs,_,rfl,sb.trans<|.new oP,aa,by lia};rintro av S' ⟨lx,ys,o6,rfl,sb,r⟩;exact fo {lx,ys,o6,rfl,AB.trans sb,r};rintro av S2 ⟨lx,ys,o6,rfl,Et,hx,hy⟩;have Xm:=(Gf.sub sb0).sub Et;refine{λav S'=>∃(kn:Kn)(ce:VR)(F:List Addr)(dl:List D)(rs:kQ)(o6:Option D),av=[some<|.tup<|cs.map aD,some<|.ref l,some<|.ref a,some<|.ref lk,some<|.ref lm,some<|.ref lx,o6]/\Bt t S a lk lm cs kn ce F dl rs S',?_,?_};refine !!{_,_,hx,Et _ _ RZ,sm<|by rw[zc,zc];lia,λlz hlz=>{_,aa,?_}};rw[<-zH];have ZF:(ys++ms).length<=89:=by rw[zA];lia
 generalize ys++ms=zs at ZF⊢;have D_:St t S a ((lz,.lst<|zs.map D.int)::Fs lk lm [] [(q0,[])]) F1 cs [] [] (S2.set lz<|.lst<|zs.map D.int):=(Xm.new hlz _).perm (List.perm_append_singleton _ _).symm;generalize S2.set lz (.lst<|zs.map D.int)=S3 at D_⊢;refine{λi av S'=>∃(kn:Kn)(ce:VR)(F:List Addr)(dl:List D)(rs:kQ)(o6:Option D),av=[some<|.tup<|cs.map aD,some<|.ref l,some<|.ref a,some<|.ref lk,some<|.ref lm,some<|.ref lx,o6]/\dl.length=i/\St t S a ((lz,.lst<|zs.map D.int)::Fs lk lm kn ce) F cs dl rs S'/\KI cs kn/\RI rs dl.length kn/\HI rs cs dl.length (ce.map Prod.snd),?_,?_,?_,?_};refine{[],[(q0,[])],F1,[],[],_,rfl,rfl,D_,KI.nil cs,RI.nil,rfl,λm rows e=>?_};cases m with|zero=>(cases e;exact{[],[],rfl,KI.nil cs,.refl _,rfl,λz=>rfl})|succ m=>simp at e
 rintro i av S' ⟨_,_,_,_,_,_,_,_,st,_⟩;exact st.at 0 rfl;rintro i d av S' hd ⟨kn,ce,F,dl,rs,o6,rfl,KL,st,hI,hR,hH⟩;have hd:(zs.map D.int)[i]?=some d:=hd;have hi:=(zg.mp hd).1;rw[zc]at hi;obtain⟨c,_,rfl⟩:=zj.mp<|zI hd;refine !!!!{cs,lk,kn,c,rfl,hg,st.at 1 rfl,hI,λde qd hde hkd hI'=>?_};have R8:St t S a ((lz,.lst<|zs.map D.int)::Fs lk lm qd ce) F cs dl rs _:=st.put 1 rfl<|.cY<|ib qd;generalize S'.set lk (.cY<|ib qd)=S6 at R8⊢;refine⟨(FE R8.sh hg hI hR (by lia) hde hkd λS7 F7 rs7 hS7 hK7 hR7 hold=>?_).of⟩;have JP:=R8.aax hS7 hK7;have hM:=JP.at 2 rfl;have A5:(ce.map λx=>D.ref x.1).length<sizeLine:=bg (by have:=hH.1;rw[zc]at this⊢;lia);refine{_,rfl,{rfl,_,hM},_,rfl,cs,lk,qd,rfl,JP.at 1 rfl,hI',λss p hp ho oP=>?_};refine{lm,_,_,rfl,rfl,(Sub.new oP) _ _ hM,A5,?_};have QY:=(JP.new oP<|.lst<|(gu qd ss).map ak).put 2 rfl<|.lst<|(ce.map λx=>D.ref x.1)++[.ref p];refine{qd,ce++[(p,gu qd ss)],F7,dl++[de],rs7,_,rfl,by rw[zA,KL];rfl,?_,hI',by rw[zA];exact hR7,?_};unfold Fs;rw[zH,zH];exact QY;rw[zA,zH];exact hH.step hold hI' hR7 hp ho;rintro av S' ⟨kn,ce,F,dl,rs,o6,rfl,KL,st,hI,hR,hH⟩;have KL:dl.length=(zs.map D.int).length:=KL;rw[zc]at KL;exact fo {kn,ce,F,dl,rs,o6,rfl,st.less (yn.mp st.nd).2 λx hx=>zh _ hx,hI,hR,hH,by lia};rintro av S' ⟨kn,ce,F,dl,rs,o6,rfl,hb⟩;exact !!!{mD,fo<|q _ _ _ _ _ _ _ _ _ hb}
theorem QZ{cs:List<|Str×Str}{ps:List Part}{g:NI}(h:Gp cs ps g){S:aw} : Ly S 3 (wo g):=by
 have hs:PyData.strOk g.2.2=true:=by have:=h.side;unfold y6 at this;rw[yH]at this;rcases this with q|q<;>rw[zi q]<;>decide +kernel
 refine Ly.tup λx hx=>?_;simp only[zf,zD,or_false]at hx;rcases hx with rfl|rfl;refine Ly.tup λx hx=>?_;simp only[zf,zD,or_false]at hx;rcases hx with rfl|rfl;refine Ly.tup λx hx=>?_;obtain⟨i,ei⟩:=List.getElem?_of_mem hx;obtain⟨k,_,hv⟩:=dE h.pv ei;exact Ly.plain hv.2;exact(Ly.str (jQ _ h.key).2.2).le (by decide);exact(Ly.str hs).le<|by decide
theorem VZ{S:aw}{ds:List D}{z:Str}{R:KD}(h:Ly S 3<|.tup ds)(hz:PyData.strOk z=true)(q:R (.bl false) S):Hc false (.tup ds) (.str z) S R:=by obtain⟨p,a,b,c⟩:=h;simp only[Dp]at a;obtain⟨ps,rfl,k⟩:=a;refine{.tuple ps,.str z,by simp only[Dl,Dp];exact⟨ps,rfl,k⟩,by simp only[Dl,Dp],b,by simp only[PyData.canLay0];exact hz,.inl<|by lia,?_};rw[if_neg zd,show PyData.eqv (.tuple ps) (.str z)=false by simp only[PyData.eqv]];exact q
theorem NL{S:aw}{σ:SD}{ds:List D}{z:Str}{R:KD}{Z:KX}(h:Ly S 3<|.tup ds)(hz:PyData.strOk z=true)(q:R (.bl false) S):dC (.str z) σ S (λy S2=>Hc false (.tup ds) y S2 R) Z:=VZ h hz q
set_option genInjectivity true in
set_option genSizeOfSpec true in
inductive Sd where
 |s
 |e
 |g (g:NI)
noncomputable def Jm:Sd->D|.s=>.str "start"|.e=>.str "end"|.g g=>wo g
noncomputable def NM(cs:List<|Str×Str)(ps:List Part)(wy:Str)(A:List Row):Sd->Nat|.s=>0|.e=>A.length|.g g=>A.countP<|gP cs ps wy g
def FG(cs:List<|Str×Str)(ps:List Part):Sd->Prop|.g g=>Gp cs ps g|_=>True
theorem Q0:∀s,NM cs ps wy A s<=A.length|.s=>zZ _|.e=>zo _|.g _=>List.countP_le_length
structure Wk where
 (w a:Addr)
 ps:List Part
 wy:Str
 d:D
 n:Nat
 (f h:Sd)
noncomputable def Ab(C:Addr)(q:Wk):Ce:=.ins C [("shelf",.ref q.a),("order",cu q.ps q.wy),("sieve",q.d),("size",.int (q.n:Nat)),("fore",Jm q.f),("hinder",Jm q.h)]
noncomputable def DU(cs:List<|Str×Str)(ps:List Part)(rows:List Row)(s:Sd):Sd×Sd:=match rows[0]?,rows[rows.length-1]? with|some r0,some r1=>(.g<|VX cs ps "ahead" r0,.g<|VX cs ps "behind" r1)|_,_=>(s,s)
noncomputable def R9(cs:List<|Str×Str)(ps:List Part)(wy:Str)(A:List Row)(s:Sd)(n:Nat):Nat×Nat:=(NM cs ps wy A s,NK A (NM cs ps wy A s) n)
inductive kX (ds:List D) (S:aw) (R:KD) (Z:KX):Prop where
 |mk (cs:List<|Str×Str) (ps:List Part) (wy:Str) (p:Addr) (rows:List Row) (b c:Nat) (s:Sd) (h0:ds=[.tup<|cs.map aD,cu ps wy,QU p b c,Jm s]) (h1:Gd cs) (h2:Pin cs ps) (h3:ps.length<=8) (h4:S p=some (.lst<|rows.map ak)) (h5:∀r∈rows,Wg cs r.2) (h6:R (.tup [Jm (DU cs ps rows s).1,Jm (DU cs ps rows s).2]) S)
theorem sx(T:Txt w K mg t):Ok P w base T.jE 5 kX:=by refine T.jE.F.cP jG ?_;obtain⟨cs,ps,wy,p,rows,b,c,s,e,hg,hp,h8,hS,hw,q⟩;refine{_,(sc (ck (i:=4) jG.nd<|bC T.vI (Ci T) hr<|al 0<|al 1<|al 2 an)<|s1<|sr<|Uh (bL nv hr.u (dv 4) dn) (bw<|al 3<|al 3 an)<|dv 4),?_};refine !!!{cs,ps,wy,p,rows,b,c,rfl,hg,hp,h8,hS,hw,λz=>?_,λr0 r1 q0 q1=>?_};subst z;exact !!⟨cw !!{fz,fo q}⟩;unfold DU at q;rw[q0,q1]at q;exact !!⟨bY !⟨fo q⟩⟩
inductive oZ (t:eZ) (ds:List D) (S:aw) (R:KD) (Z:KX):Prop where
 |mk (k a:Addr) (cs:List<|Str×Str) (o d n:D) (F:List Addr) (dl:List D) (rs:kQ) (h0:ds=[.ref k,.ref a,o,d,n]) (h1:Gd cs) (h2:QA S o) (h3:QA S d) (h4:Gt S n) (h6:bI t.aj S a F cs dl rs) (h7:S k=some (.ins t.aF [])) (h8:f_ cs o=false->Z t.aK S) (h9:f_ cs o=true->n8 cs 8 0 [d]=false->Z t.aL S) (h10:f_ cs o=true->n8 cs 8 0 [d]=true->L9 n=false->Z t.aS S)
  (h11:f_ cs o=true->n8 cs 8 0 [d]=true->L9 n=true->R .ao (S.set k<|.ins t.aF [("shelf",.ref a),("order",o),("sieve",d),("size",n),("fore",.str "start"),("hinder",.str "start")])):oZ t ds S R Z
theorem Ac(T:Txt w K mg t):oE P w mg base T.eP 7 (oZ t):=by refine T.eP.F.cP nS ?_;obtain⟨k,a,cs,o,d,n,F,dl,rs,e,hg,ho,hd,hn,hS,hk,z1,z2,z3,q⟩;obtain⟨ld,lr,ra,h,_⟩:=id hS;refine{_,(sc (se<|bC T.jA (rR T) hr<|ac (iy (dv 1) T.ai T.aJ (br T) hr)<|al 2 an)<|sc (se<|bC T.gp (jU T) hr<|ac (iy (dv 1) T.ai T.aJ (br T) hr)<|al 3 an)<|sc (se<|bC T.iD (kU T) hr<|al 4 an)<|sc (sf T.aA T.c9 (dv 0)<|dv 1)<|sc (sf T.aA T.c_ (dv 0)<|dv 2)<|sc (sf T.aA T.eO (dv 0)<|dv 3)<|sc (sf T.aA T.fu (dv 0)<|dv 4)<|sc (sf T.aA T.fw (dv 0)<|dg (v:=.str "start") T.qY {_,rfl} λ_=>e8 _)<|s1<|sf T.aA T.cB (dv 0)<|dg (v:=.str "start") T.qY {_,rfl} λ_=>e8 _),?_};refine !{a,_,rfl,h.ins,rfl,a,F,cs,dl,rs,rfl,hS,_,rfl,cs,o,rfl,hg,ho 3,λb1=>?_,λb1=>fo<|z1 b1};refine !{a,_,rfl,h.ins,rfl,a,F,cs,dl,rs,rfl,hS,_,rfl,cs,d,rfl,hg,hd,λb2=>?_,λb2=>fo<|z2 b1 b2};refine !{n,rfl,hn,λb3=>?_,λb3=>fo<|z3 b1 b2 b3};refine !!{k,_,rfl,hk,(show 0<1000 by decide),?_};refine !!{k,_,rfl,aa,(show 1<1000 by decide),?_};refine !!{k,_,rfl,aa,(show 2<1000 by decide),?_};refine !!{k,_,rfl,aa,(show 3<1000 by decide),?_};refine !{k,_,rfl,aa,(show 4<1000 by decide),?_};refine !{k,_,rfl,aa,(show 5<1000 by decide),?_};rw[aR,aR,aR,aR,aR];exact fo<|q b1 b2 b3
inductive i5 (t:eZ) (ds:List D) (S:aw) (R:KD) (Z:KX):Prop where
 |mk (q:Wk) (d:D) (cs:List<|Str×Str) (F:List Addr) (dl:List D) (rs:kQ) (h0:ds=[.ref q.w,d]) (h1:S q.w=some (Ab t.aF q)) (h2:Gd cs) (h3:QA S d) (h4:bI t.aj S q.a F cs dl rs) (h5:n8 cs 8 0 [d]=false) (h6:Z t.aL S)
theorem FH(T:Txt w K mg t):oE P w mg base T.gI 7 (i5 t):=by refine T.gI.F.cP nU ?_;obtain⟨k,d,cs,F,dl,rs,e,hk,hg,hd,hS,hb,z⟩;obtain⟨ld,lr,ra,h,_⟩:=id hS;refine{_,(sc (se<|bC T.gp (jU T) hr<|ac (iy (fl T.aA T.c9<|dv 0) T.ai T.aJ (br T) hr)<|al 1 an)<|s1<|sf T.aA T.eO (dv 0)<|dv 1),?_};exact !{k.w,_,_,rfl,hk,rfl,k.a,_,rfl,h.ins,rfl,k.a,F,cs,dl,rs,rfl,hS,_,rfl,cs,d,rfl,hg,hd,λb=>tf b hb,λ_=>fo z}
inductive jY (t:eZ) (ds:List D) (S:aw) (R:KD) (Z:KX):Prop where
 |mk (k:Addr) (n:D) (h0:ds=[.ref k,n]) (h1:Gt S n) (h2:L9 n=false) (h3:Z t.aS S)
theorem Jn(T:Txt w K mg t):oE P w mg base T.iF 3 (jY t):=by refine T.iF.F.cP pI ?_;obtain⟨k,n,e,hn,hb,z⟩;refine{_,(sc (se<|bC T.iD (kU T) hr<|al 1 an)<|s1<|sf T.aA T.fu (dv 0)<|dv 1),?_};exact !{n,rfl,hn,λb=>tf b hb,λ_=>fo z}
noncomputable def Jo(q:Wk):D:=.tup [cu q.ps q.wy,q.d,.int (q.n:Nat),Jm q.f,Jm q.h]
inductive kY (t:eZ) (ds:List D) (S:aw) (R:KD) (Z:KX):Prop where
 |mk (q:Wk) (h0:ds=[.ref q.w]) (h1:S q.w=some (Ab t.aF q)) (h2:R (Jo q) S)
theorem lN(T:Txt w K mg t):oE P w mg base T.eR 1 (kY t):=by refine T.eR.F.cP rB ?_;obtain⟨k,e,hk,q⟩;refine{_,(s1<|sr<|bw<|ac (fl T.aA T.c_<|dv 0)<|ac (fl T.aA T.eO<|dv 0)<|ac (fl T.aA T.fu<|dv 0)<|ac (fl T.aA T.fw<|dv 0)<|ac (fl T.aA T.cB<|dv 0) an),?_};exact !{k.w,_,_,rfl,hk,rfl,_,rfl,k.w,_,_,rfl,hk,rfl,_,rfl,k.w,_,_,rfl,hk,rfl,_,rfl,k.w,_,_,rfl,hk,rfl,_,rfl,k.w,_,_,rfl,hk,rfl,Z3,fo q}
inductive o_ (t:eZ) (ds:List D) (S:aw) (R:KD) (Z:KX):Prop where
 |mk (q:Wk) (l:Addr) (s:Sd) (A:List Row) (cs:List<|Str×Str) (F:List Addr) (dl:List D) (rs:kQ) (h0:ds=[.ref q.w,.ref l,Jm s]) (h1:S q.w=some (Ab t.aF q)) (h2:Gd cs) (h3:Og cs q.ps q.wy) (h4:bI t.aj S q.a F cs dl rs) (h5:S l=some (.lst<|A.map ak)) (h6:An cs q.ps q.wy A) (h7:FG cs q.ps s) (h8:R (.int (NM cs q.ps q.wy A s:Nat)) S)
theorem sy(T:Txt w K mg t):oE P w mg base T.b_ 6 (o_ t):=by refine T.b_.F.cP lH ?_;obtain⟨k,l,s,A,cs,F,dl,rs,e,hk,hg,ho,hS,hl,hA,hs,q⟩;obtain⟨ld,lr,ra,h,_⟩:=id hS;refine{_,(sc (si (bL bG hr.u (dv 2)<|dg (v:=.str "start") T.qY {_,rfl} λ_=>e8 _) (s1<|sr di) s0)<|sc (si (bL bG hr.u (dv 2)<|dg (v:=.str "end") T.Qg {_,rfl} λ_=>e8 _) (s1<|sr<|cb bz T.bc aQ<|al 1 an) s0)<|s1<|sr<|bC T.jD (sv T) hr<|ac (iy (fl T.aA T.c9<|dv 0) T.ai T.aJ (br T) hr)<|ac (fl T.aA T.c_<|dv 0)<|al 1<|al 2 an),?_};cases s with|s=>exact (!!⟨sJ (by trivial)<|fo q⟩)|e=>refine !!⟨dW (by trivial) !!⟨sJ (by trivial) !!⟨.inl {_,hl,?_}⟩⟩⟩;rw[zc];exact fo q|g g=>have hly:=QZ hs (S:=S);exact{_,rfl,NL hly (by trivial) !⟨bY !⟨NL hly (by trivial) !⟨bY !{k.w,_,_,rfl,hk,rfl,k.a,_,rfl,h.ins,rfl,k.a,F,cs,dl,rs,rfl,hS,_,rfl,k.w,_,_,rfl,hk,rfl,_,rfl,_,rfl,cs,k.ps,k.wy,A,l,g,rfl,hg,ho.pin,ho.len,hl,hA,hs,fo q}⟩⟩⟩}
inductive mT (t:eZ) (ds:List D) (S:aw) (R:KD) (Z:KX):Prop where
 |mk (q:Wk) (p:Addr) (b c:Nat) (s:Sd) (rows:List Row) (cs:List<|Str×Str) (F:List Addr) (dl:List D) (rs:kQ) (h0:ds=[.ref q.w,QU p b c,Jm s]) (h1:S q.w=some (Ab t.aF q)) (h2:Gd cs) (h3:Og cs q.ps q.wy) (h4:bI t.aj S q.a F cs dl rs) (h5:S p=some (.lst<|rows.map ak)) (h6:∀r∈rows,Wg cs r.2) (h7:R .ao<|S.set q.w<|Ab t.aF {q.w,q.a,q.ps,q.wy,q.d,q.n,(DU cs q.ps rows s).1,(DU cs q.ps rows s).2})
theorem FI(T:Txt w K mg t):oE P w mg base T.dP 6 (mT t):=by refine T.dP.F.cP eT ?_;obtain⟨k,p,b,c,s,rows,cs,F,dl,rs,e,hk,hg,ho,hS,hp,hw,q⟩;obtain⟨ld,lr,ra,h,_⟩:=id hS;refine{_,(sc (ck (i:=3) eT.nd<|bC T.jE (sx T) hr<|ac (iy (fl T.aA T.c9<|dv 0) T.ai T.aJ (br T) hr)<|ac (fl T.aA T.c_<|dv 0)<|al 1<|al 2 an)<|sc (sf T.aA T.fw (dv 0)<|ix hr.u (dv 3) di)<|s1<|sf T.aA T.cB (dv 0)<|ix hr.u (dv 3) di),?_};refine !{k.w,_,_,rfl,hk,rfl,k.a,_,rfl,h.ins,rfl,k.a,F,cs,dl,rs,rfl,hS,_,rfl,k.w,_,_,rfl,hk,rfl,_,rfl,_,rfl,cs,k.ps,k.wy,p,rows,b,c,s,rfl,hg,ho.pin,ho.len,hp,hw,?_};refine !!!{k.w,_,rfl,hk,(show 6<1000 by decide),?_};refine !!!{k.w,_,rfl,aa,(show 6<1000 by decide),?_};rw[aR];exact fo q
inductive kZ (t:eZ) (ds:List D) (S:aw) (R:KD) (Z:KX):Prop where
 |mk (q:Wk) (cs:List<|Str×Str) (rows:List Row) (h0:ds=[.ref q.w]) (h1:S q.w=some (Ab t.aF q)) (h2:Qs t S q.a cs q.ps q.wy q.d .ao rows) (h3:∀(A:List Row)(p:Addr),NJ cs q.ps q.wy 7 q.d rows A->S p=none->R (.ref p) (S.set p<|.lst<|A.map ak))
theorem sA(T:Txt w K mg t)(B:Bm mg base):oE P w mg base T.dk 13 (kZ t):=by refine T.dk.F.cP lG ?_;obtain⟨k,cs,rows,e,hk,hq,q⟩;refine{_,(s1<|sr<|bC T.fP (mQ T B) hr<|ac (fl T.aA T.c9<|dv 0)<|ac (fl T.aA T.c_<|dv 0)<|ac (fl T.aA T.eO<|dv 0)<|ac dn an),?_};exact !{k.w,_,_,rfl,hk,rfl,_,rfl,k.w,_,_,rfl,hk,rfl,_,rfl,k.w,_,_,rfl,hk,rfl,k.a,cs,k.ps,k.wy,k.d,.ao,rows,rfl,hq.g,hq.o,hq.s,hq.v,hq.t,λA l pm pw hl=>fo<|q A l (QV hq.v.rg hq.k pm pw) hl}
inductive pd (t:eZ) (f:List (Str×Str)->List Part->Str->List Row->Sd->Nat->Nat×Nat) (ds:List D) (S:aw) (R:KD) (Z:KX):Prop where
 |mk (q:Wk) (s:Sd) (cs:List<|Str×Str) (rows:List Row) (h0:ds=[.ref q.w,Jm s]) (h1:S q.w=some (Ab t.aF q)) (h2:Qs t S q.a cs q.ps q.wy q.d .ao rows) (h3:FG cs q.ps s) (h4:∀(A:List Row)(p:Addr)(b e:Nat),NJ cs q.ps q.wy 7 q.d rows A->S p=none->f cs q.ps q.wy A s q.n=(b,e)->R (QU p b<|A.length-e) ((S.set p<|.lst<|(seg A b e).map ak).set q.w<|Ab t.aF {q.w,q.a,q.ps,q.wy,q.d,q.n,(DU cs q.ps (seg A b e) s).1,(DU cs q.ps (seg A b e) s).2}))
theorem Ad(T:Txt w K mg t)(B:Bm mg base):oE P w mg base T.iG 14 (pd t R9):=by refine T.iG.F.cP fe ?_;obtain⟨k,s,cs,rows,e,hk,hq,hs,q⟩;obtain⟨F,dl,rs,hS,_⟩:=hq.v.sh;refine{_,(sc (ck (i:=2) fe.nd<|iy (dv 0) T.aA T.dk (sA T B) hr)<|sc (ck (i:=3) fe.nd<|bC T.nO (wq T) hr<|al 2<|ac (pC (dv 0) T.aA T.b_ (sy T) hr<|al 2<|al 1 an)<|ac (fl T.aA T.fu<|dv 0) an)<|sc (se<|pC (dv 0) T.aA T.dP (FI T) hr<|al 3<|al 1 an)<|s1<|sr<|dv 3),?_};refine !{k.w,_,rfl,hk,rfl,k,cs,rows,rfl,hk,hq,λA l hA hl=>?_};have s1:=Sub.new (c:=.lst<|A.map ak) hl;have AA:(S.set l<|.lst<|A.map ak) l=some (.lst<|A.map ak):=aa;generalize S.set l (.lst<|A.map ak)=S1 at s1 AA⊢;have By:=s1 _ _ hk;refine !!{k.w,_,rfl,By,rfl,_,rfl,_,rfl,k,l,s,A,cs,F,dl,rs,rfl,By,hq.g,hq.o,hS.sub s1,AA,hA.an,hs,_,rfl,k.w,_,_,rfl,By,rfl,l,A,_,k.n,rfl,AA,Q0 s,λp hp=>?_};have UW:=(Sub.new (c:=.lst<|(seg A (R9 cs k.ps k.wy A s k.n).1 (R9 cs k.ps k.wy A s k.n).2).map ak) hp) _ _ By;exact !{k.w,_,rfl,UW,rfl,_,rfl,_,rfl,k,p,_,_,s,seg A (R9 cs k.ps k.wy A s k.n).1 (R9 cs k.ps k.wy A s k.n).2,cs,F,dl,rs,rfl,UW,hq.g,hq.o,(hS.sub s1).sub<|.new hp,aa,λr hr=>hA.an.rg.1 r<|wu hr,_,rfl,_,cN<|cN s1,q A p _ _ hA (cg s1 hp) rfl}
inductive uM (t:eZ) (f:List (Str×Str)->List Part->Str->List Row->Sd->Nat->Nat×Nat) (g:Wk->Sd) (ds:List D) (S:aw) (R:KD) (Z:KX):Prop where
 |mk (q:Wk) (cs:List<|Str×Str) (rows:List Row) (h0:ds=[.ref q.w]) (h1:S q.w=some (Ab t.aF q)) (h2:Qs t S q.a cs q.ps q.wy q.d .ao rows) (h3:FG cs q.ps<|g q) (h4:∀(A:List Row)(p:Addr)(b e:Nat),NJ cs q.ps q.wy 7 q.d rows A->S p=none->f cs q.ps q.wy A (g q) q.n=(b,e)->R (QU p b<|A.length-e) ((S.set p<|.lst<|(seg A b e).map ak).set q.w<|Ab t.aF {q.w,q.a,q.ps,q.wy,q.d,q.n,(DU cs q.ps (seg A b e)<|g q).1,(DU cs q.ps (seg A b e)<|g q).2}))
theorem Q1(T:Txt w K mg t)(B:Bm mg base):oE P w mg base T.vP 15 (uM t R9 Wk.h):=by refine T.vP.F.cP BP ?_;obtain⟨k,cs,rows,e,hk,hq,hs,q⟩;refine{_,(s1<|sr<|pC (dv 0) T.aA T.iG (Ad T B) hr<|ac (fl T.aA T.cB<|dv 0) an),?_};exact !{k.w,_,rfl,hk,rfl,_,rfl,k.w,_,_,rfl,hk,rfl,k,k.h,cs,rows,rfl,hk,hq,hs,λA p b e hA hp he=>fo<|q A p b e hA hp he}
inductive mU (t:eZ) (ds:List D) (S:aw) (R:KD) (Z:KX):Prop where
 |mk (q:Wk) (cs:List<|Str×Str) (rows:List Row) (h0:ds=[.ref q.w]) (h1:S q.w=some (Ab t.aF q)) (h2:Qs t S q.a cs q.ps q.wy q.d .ao rows) (h3:FG cs q.ps q.f) (h4:FG cs q.ps q.h) (h5:∀(A:List Row)(p:Addr),NJ cs q.ps q.wy 7 q.d rows A->S p=none->R (.ref p) (S.set p<|.lst<|cq (A.map ak) (some ((NM cs q.ps q.wy A q.f:Nat):Int))<|some ((NM cs q.ps q.wy A q.h:Nat):Int)))
theorem uN(T:Txt w K mg t)(B:Bm mg base):oE P w mg base T.iE 14 (mU t):=by refine T.iE.F.cP kP ?_;obtain⟨k,cs,rows,e,hk,hq,hf,hh,q⟩;obtain⟨F,dl,rs,hS,_⟩:=hq.v.sh;refine{_,(sc (ck (i:=1) kP.nd<|iy (dv 0) T.aA T.dk (sA T B) hr)<|s1<|sr<|Ni (dv 1) (o1<|pC (dv 0) T.aA T.b_ (sy T) hr<|al 1<|ac (fl T.aA T.fw<|dv 0) an)<|o1<|pC (dv 0) T.aA T.b_ (sy T) hr<|al 1<|ac (fl T.aA T.cB<|dv 0) an),?_};refine !{k.w,_,rfl,hk,rfl,k,cs,rows,rfl,hk,hq,λA l hA hl=>?_};have s1:=Sub.new (c:=.lst<|A.map ak) hl;have AA:(S.set l<|.lst<|A.map ak) l=some (.lst<|A.map ak):=aa;generalize S.set l (.lst<|A.map ak)=S1 at s1 AA⊢;have By:=s1 _ _ hk;have x8:=hS.sub s1;exact !!{k.w,_,rfl,By,rfl,_,rfl,_,rfl,k.w,_,_,rfl,By,rfl,k,l,k.f,A,cs,F,dl,rs,rfl,By,hq.g,hq.o,x8,AA,hA.an,hf,_,rfl,_,rfl,k.w,_,rfl,By,rfl,_,rfl,_,rfl,k.w,_,_,rfl,By,rfl,k,l,k.h,A,cs,F,dl,rs,rfl,By,hq.g,hq.o,x8,AA,hA.an,hh,_,rfl,_,AA,λp hp=>{_,cN s1,q A p hA<|cg s1 hp}}
theorem cX(h:z.cps.size<=1000):QA S (.str z):=Du (qh h) λ_=>nofun
theorem Jp:QA S .ao:=Du lI λ_=>nofun
theorem wx:QA S (.int i):=Du gt_int λ_=>nofun
theorem Cj(h:S p=some (.lst L)):QA S (.ref p):=Du (IV h) λ_=>nofun
theorem sC(h:QA S a):QA S (.tup [a]):=jT (by simp) λv hv=>by rw[zu.mp hv];exact h
theorem sD(h:QA S a)(h2:QA S b):QA S (.tup [a,b]):=jT (by simp) λv hv=>by simp only[zf,zD,or_false]at hv;rcases hv with rfl|rfl;exact h;exact h2
theorem Jq(h:QA S a)(h2:QA S b)(h3:QA S c):QA S (.tup [a,b,c]):=jT (by simp) λv hv=>by simp only[zf,zD,or_false]at hv;rcases hv with rfl|rfl|rfl;exact h;exact h2;exact h3
theorem Q2(hn:n<=1000)(h:QA S a):QA S (.tup<|List.replicate n a):=jT (by rw[yf];exact hn) λv hv=>by rw[List.eq_of_mem_replicate hv];exact h
theorem Mf{x w:D}(h:ofStr eJ w=false):f_ cs (.tup [x,w])=false:=by unfold f_;split;rename_i e;cases e;rw[h];simp;rfl
theorem Jr{x w:D}(hx:x∈ps)(h:bT cs x=false):f_ cs (.tup [.tup ps,w])=false:=by
 show(decide (ps.length<=8)&&(ps.all (bT cs)&&(decide ((ps.map R5).Nodup)&&ofStr eJ w)))=false;have:ps.all (bT cs)=false:=by rw[List.all_eq_false];exact{x,hx,by rw[h];exact zd}
 rw[this];simp
theorem Js(hN:∀c∈cs,c.1∈tI)(h:z∉tI):uf cs (.str z)=.ao:=qf λm=>by obtain⟨c,hc,rfl⟩:=zj.mp m;exact h<|hN c hc
theorem Ck:n8 cs (n+1) p [d]=(decide (p+1<=200)&&(kj cs d&&n8 cs n (p+1) (subs d))):=by show(if (1:Nat)=0 then true else decide (p+1<=200)&&((kj cs d&&true)&&n8 cs n (p+1) (subs d++[])))=_;rw[if_neg<|by decide,Bool.and_true,ym]
theorem fB(h:kj cs d=false):n8 cs 8 0 [d]=false:=by rw[Ck,h];rfl
theorem Mg(h:uf cs x=.ao):Iy cs o x v=false:=by unfold Iy;rw[h]
noncomputable def dw:Nat->D|0=>.tup [.str "every"]|n+1=>.tup [.str "not",dw n]
theorem wz(S:aw):∀n,QA S (dw n)|0=>sC (cX<|by decide)|n+1=>sD (cX<|by decide)<|wz S n
theorem DV(cs:List<|Str×Str):∀(m n p:Nat),m<=n->n8 cs m p [dw n]=false:=by intro m;induction m with|zero=>intro n p _;rfl|succ m ih=>intro n p h;obtain⟨k,rfl⟩:∃k,n=k+1:={n-1,by lia};rw[Ck,show subs (dw<|k+1)=[dw k] from rX _,ih k _<|by lia];simp
theorem Jt(h:subs x=List.replicate m y):∀k,(List.replicate k x).flatMap subs=List.replicate (k*m) y:=by intro k;induction k with|zero=>rw[Nat.zero_mul];rfl|succ k ih=>rw[List.replicate_succ,List.flatMap_cons,ih,h,List.replicate_append_replicate,Nat.succ_mul,Nat.add_comm]
theorem wA(hk:0<k)(hs:subs x=List.replicate m y)(h:n8 cs n (p+k) (List.replicate (k*m) y)=false):n8 cs (n+1) p (List.replicate k x)=false:=by unfold n8;rw[if_neg<|by rw[yf];lia,Jt hs,yf,h];simp
theorem Q3(hk:0<k)(h:200<p+k):n8 cs (n+1) p (List.replicate k x)=false:=by unfold n8;rw[if_neg<|by rw[yf];lia,zq<|by rw[yf];lia];rfl
noncomputable def wM:Nat->D|0=>.tup [.str "every"]|n+1=>.tup [.str "and",.tup<|List.replicate 8<|wM n]
theorem Ju(S:aw):∀n,QA S (wM n)|0=>sC (cX<|by decide)|n+1=>sD (cX<|by decide)<|Q2 (by decide)<|Ju S n
theorem Q4(cs:List<|Str×Str):n8 cs 8 0 [wM 3]=false:=by have hs:∀n,subs (wM<|n+1)=List.replicate 8 (wM n):=λn=>rW (.inl rfl) _;exact wA (k:=1) (by decide) (hs 2)<|wA (k:=8) (by decide) (hs 1)<|wA (k:=64) (by decide) (hs 0)<|Q3 (by decide)<|by decide
theorem Co(ho:Og cs ps wy):QA S (.tup<|ps.map p3)/\QA S (.str wy)/\QA S (cu ps wy):=by
 have w1:∀z:Str,eJ z=true->z.cps.size<=1000:=λz h=>by unfold eJ at h;rw[yH]at h;rcases h with q|q<;>rw[zi q]<;>decide
 have hp:QA S (.tup<|ps.map p3):=jT (by rw[zc];have:=ho.len;lia) λv hv=>by obtain⟨p,hp,rfl⟩:=zj.mp hv;have:=ho.tx p hp;exact Jq (cX this.1) (cX this.2.1)<|cX this.2.2
 have hw:QA S (.str wy):=cX<|w1 wy ho.way;exact{hp,hw,sD hp hw}
inductive DX (ds:List D) (S:aw) (R:KD) (Z:KX):Prop where
 |mk (h0:ds=[]) (h1:∀p,S p=none->R (.ref p) (S.set p<|.lst [dw 8,wM 3,dw 2008]))
theorem Q5(T:Txt w K mg t):Ok P w base T.dO 1 DX:=by refine T.dO.F.cP aM ?_;obtain⟨e,q⟩;have n1:=gJ;have n2:=fz;refine{_,(sc (ck (i:=0) aM.nd<|bw<|ac ds an)<|sc (pA<|Bw (Ld T.ft<|ac di an) (gn (i:=1) aM.nd)<|s1<|ck (i:=0) aM.nd<|bw<|ac ds<|al 0 an)<|sc (ck (i:=2) aM.nd<|bw<|ac ds an)<|sc (pA<|Bw (Ld T.ft<|ac di an) (gn (i:=1) aM.nd)<|s1<|ck (i:=2) aM.nd<|bw<|ac ds<|ac (bo PJ hr.u (bw<|al 2 an) di) an)<|sc (ck (i:=3) aM.nd<|dv 0)<|sc (pA<|Bw (Ld T.ft<|ac di an) (gn (i:=1) aM.nd)<|s1<|ck (i:=3) aM.nd<|bw<|ac ds<|al 3 an)<|s1<|sr<|bR<|al 0<|al 2<|al 3 an),?_};refine{n1,λav S'=>∃o1:Option D,av=[some<|dw 8,o1,none,none]/\S'=S,?_,?_};refine{8,rfl,by decide,by decide,?_};refine{λi av S'=>∃o1:Option D,av=[some<|dw i,o1,none,none]/\S'=S,!⟨rfl⟩,λ_ _ _ _=>trivial,?_,?_};rintro i y av S' hy ⟨o1,rfl,rfl⟩;exact !{n2,_,rfl,rfl};rintro av S' ⟨o1,rfl,rfl⟩;exact fo !⟨rfl⟩;rintro av S' ⟨o1,rfl,rfl⟩;refine{n1,λav S2=>∃o1:Option D,av=[some<|dw 8,o1,some<|wM 3,none]/\S2=S',?_,?_};refine{3,rfl,by decide,by decide,?_};refine{λi av S2=>∃o1:Option D,av=[some<|dw 8,o1,some<|wM i,none]/\S2=S',!⟨rfl⟩,λ_ _ _ _=>trivial,?_,?_};rintro i y av S2 hy ⟨o1,rfl,rfl⟩;exact !{n1,_,_,rfl,rfl,by decide,by decide,n2,_,rfl,rfl};rintro av S2 ⟨o1,rfl,rfl⟩;exact fo !⟨rfl⟩;rintro av S2 ⟨o1,rfl,rfl⟩;refine !{λav S3=>∃o1:Option D,av=[some<|dw 8,o1,some<|wM 3,some<|dw 2008]/\S3=S2,?_,?_};refine{2000,rfl,by decide,by decide,?_};refine{λi av S3=>∃o1:Option D,av=[some<|dw 8,o1,some<|wM 3,some<|dw<|8+i]/\S3=S2,!⟨rfl⟩,λ_ _ _ _=>trivial,?_,?_};rintro i y av S3 hy ⟨o1,rfl,rfl⟩;exact !{n2,_,rfl,rfl};rintro av S3 ⟨o1,e,rfl⟩;rw[show({gD 0 (2000:Int).toNat,λ_=>True}:vg).xs.length=2000 from dH]at e;subst e;exact fo !⟨rfl⟩;rintro av S3 ⟨o1,rfl,rfl⟩;exact !!!{mD,λp hp=>fo<|q p hp}
def Bd(S:aw)(cs:List<|Str×Str):Nat->D->Prop|0,d=>QA S d/\f_ cs d=false|1,d=>QA S d/\n8 cs 8 0 [d]=false|_,d=>Gt S d/\L9 d=false
theorem Bd.sub(b:Sub S S'):∀{k:Nat}{d:D},Bd S cs k d->Bd S' cs k d|0,_,h=>{h.1.sub b,h.2}|1,_,h=>{h.1.sub b,h.2}|_+2,_,h=>{h.1.sub b,h.2}
theorem Q6(hN:∀c∈cs,c.1∈tI)(ho:Og cs ps wy)(h:S lo=some (.lst X)):∀d∈([.ao,.tup [],.tup [.tup (ps.map p3),.str "left"],.tup [.tup (ps.map p3++[.tup [.str "nosuch",.str "up",.str "first"]]),.str wy],.ref lo,.int 7,.str "up"]:List D),Bd S cs 0 d:=λd hd=>by obtain⟨hp,hw,_⟩:=Co (S:=S) ho;simp only[zf,zD,or_false]at hd;rcases hd with rfl|rfl|rfl|rfl|rfl|rfl|rfl;exact⟨Jp,rfl⟩;exact{jT (by simp) λv hv=>(nomatch hv),rfl};exact{sD hp<|cX<|by decide,Mf<|by trivial};refine{sD (jT ?_ λv hv=>?_) hw,Jr (zC _<|zu.mpr rfl) ?_};rw[zA,zc];have:=ho.len;show ps.length+1<=_;lia;rcases zR.mp hv with hv|hv;exact hp.in hv;rw[zu.mp hv];exact Jq (cX<|by decide) (cX<|by decide)<|cX (by decide);show((!ah (uf cs<|.str "nosuch"))&&_)=false;rw[Js hN<|by trivial];rfl;exact{Cj h,rfl};exact⟨wx,rfl⟩;exact{cX<|by decide,rfl}
theorem Jv(hN:∀c∈cs,c.1∈tI)(h1:S a1=some (.lst X))(h2:S a2=some (.lst Y)):∀d∈([.ao,.tup [],.tup [.str "any"],.tup [.str "is",.str "nosuch",.int 1],.ref a1,.str "every",.tup [.str "every",.int 1],.tup [.str "not"],.tup [.str "or",.ref a2]]:List D)++[dw 8,wM 3,dw 2008],Bd S cs 1 d:=λd hd=>by have s1:∀z:Str,z.cps.size<=1000->QA S (.str z):=λz h=>cX h;rcases zR.mp hd with hd|hd;simp only[zf,zD,or_false]at hd;rcases hd with rfl|rfl|rfl|rfl|rfl|rfl|rfl|rfl|rfl;exact{Jp,fB rfl};exact{jT (by simp) λv hv=>(nomatch hv),fB rfl};exact{sC<|s1 _<|by decide,fB<|B6 (by trivial) _};exact{Jq (s1 _<|by decide) (s1 _<|by decide) wx,fB<|(IB (.inl rfl) _).trans<|Mg<|Js hN<|by trivial};exact{Cj h1,fB rfl};exact{s1 _<|by decide,fB rfl};exact{sD (s1 _<|by decide) wx,fB<|rV cs _};exact{sC<|s1 _<|by decide,fB<|B4 cs _};exact{sD (s1 _<|by decide)<|Cj h2,fB<|B5 (.inr rfl) _};simp only[zf,zD,or_false]at hd;rcases hd with rfl|rfl|rfl;exact{wz S 8,DV cs 8 8 0<|zo _};exact{Ju S 3,Q4 cs};exact{wz S 2008,DV cs 8 2008 0<|by decide}
theorem Mh(h:S a3=some (.lst X)):∀d∈([.int 0,.int (-1),.int 1001,.bl true,.ao,.str "3",.tup [.int 2],.int (10^(59:Int).toNat),.bl false,.ref a3]:List D),Bd S cs 2 d:=λd hd=>by simp only[zf,zD,or_false]at hd;rcases hd with rfl|rfl|rfl|rfl|rfl|rfl|rfl|rfl|rfl|rfl;exact{gt_int,by trivial};exact{gt_int,by trivial};exact{gt_int,by trivial};exact⟨ND,rfl⟩;exact⟨lI,rfl⟩;exact{qh<|by decide,rfl};exact{sC wx 0,rfl};exact{gt_int,by trivial};exact⟨ND,rfl⟩;exact{IV h,rfl}
inductive DY (ds:List D) (S:aw) (R:KD) (Z:KX):Prop where
 |mk (cs:List<|Str×Str) (ps:List Part) (wy:Str) (k:Nat) (x:Int) (h0:ds=[cu ps wy,.int (k:Nat),.int x]) (h1:Cg cs) (h2:Og cs ps wy) (h3:k<3) (h4:∀d S',Sub S S'->Bd S' cs k d->R d S')
theorem Q7(T:Txt w K mg t):Ok P w base T.HY 2 DY:=by
 refine T.HY.F.cP jI ?_;obtain⟨cs,ps,wy,k,x,e,R_,ho,hk,q⟩;have h8:=ho.len;have n0:=rC;have n1:=gJ;have n2:=fz;have n3:=mD;refine{_,(sc (ck (i:=3) jI.nd<|bR<|ac dn<|ac (bw an)<|ac (bw<|ac (ix hr.u (dv 0) di)<|ac ds an)<|ac (bw<|ac (bo Uk hr.u (ix hr.u (dv 0) di)<|bw<|ac (bw<|ac ds<|ac ds<|ac ds an) an)<|ac (ix hr.u (dv 0) di) an)<|ac (ct Pr T.Qi Kv<|al 0 an)<|ac di<|ac ds an)<|sc (ck (i:=4) jI.nd<|bR<|ac dn<|ac (bw an)<|ac (bw<|ac ds an)<|ac (bw<|ac ds<|ac ds<|ac di an)<|ac (bR<|ac ds an)<|ac ds<|ac (bw<|ac ds<|ac di an)<|ac (bw<|ac ds an)<|ac (bw<|ac ds<|ac (bR<|ac ds an) an) an)<|sc (ck (i:=5) jI.nd<|bR<|ac di<|ac (EG di)<|ac di<|ac db<|ac dn<|ac ds<|ac (bw<|ac di an)<|ac (bo kN hr.u di di)<|ac db<|ac (bR<|ac di an) an)<|sc (ck (i:=6) jI.nd<|EM<|ix hr.u (bR<|al 3<|ac (bo bj hr.u (dv 4)<|cf0 ((Q5 T).mono<|by decide) hr T.dO.m T.dO.k T.dO.b d0)<|al 5 an)<|dv 1)<|s1<|sr<|ix hr.u (dv 6)<|bo bZ hr.u (dv 2)<|cb bz T.bc aQ<|al 6 an),?_};refine{n0,_,rfl,_,rfl,n2,_,rfl,_,rfl,n3,n1,sm<|by rw[zc];show ps.length+1<=1000;lia,_,rfl,_,rfl,n2,_,rfl,_,_,rfl,.inr rfl,λlo hlo=>{Z4,λl1 AA=>?_}};have s1:=(Sub.new (c:=.lst [.tup<|ps.map p3,.str wy]) hlo).trans<|Sub.new (c:=.lst [.ao,.tup [],.tup [.tup<|ps.map p3,.str "left"],.tup [.tup<|ps.map p3++[.tup [.str "nosuch",.str "up",.str "first"]],.str wy],.ref lo,.int 7,.str "up"]) AA;have c0:=(Sub.new (c:=.lst [.ao,.tup [],.tup [.tup<|ps.map p3,.str "left"],.tup [.tup<|ps.map p3++[.tup [.str "nosuch",.str "up",.str "first"]],.str wy],.ref lo,.int 7,.str "up"]) AA) _ _<|aa (S:=S) (a:=lo) (c:=.lst [.tup<|ps.map p3,.str wy]);have c1:((S.set lo<|.lst [.tup<|ps.map p3,.str wy]).set l1<|.lst [.ao,.tup [],.tup [.tup<|ps.map p3,.str "left"],.tup [.tup<|ps.map p3++[.tup [.str "nosuch",.str "up",.str "first"]],.str wy],.ref lo,.int 7,.str "up"]) l1=some (.lst [.ao,.tup [],.tup [.tup<|ps.map p3,.str "left"],.tup [.tup<|ps.map p3++[.tup [.str "nosuch",.str "up",.str "first"]],.str wy],.ref lo,.int 7,.str "up"]):=aa;generalize (S.set lo<|.lst [.tup<|ps.map p3,.str wy]).set l1 (.lst [.ao,.tup [],.tup [.tup<|ps.map p3,.str "left"],.tup [.tup<|ps.map p3++[.tup [.str "nosuch",.str "up",.str "first"]],.str wy],.ref lo,.int 7,.str "up"])=S1 at s1 c0 c1⊢;refine{n0,n1,n3,n1,λa1 RN=>{n2,n1,n1,λa2 RO=>{n2,Z5,λl2 JH=>?_}}};have t2:=(Sub.new (c:=.lst [.str "every"]) RO).trans<|Sub.new (c:=.lst [.ao,.tup [],.tup [.str "any"],.tup [.str "is",.str "nosuch",.int 1],.ref a1,.str "every",.tup [.str "every",.int 1],.tup [.str "not"],.tup [.str "or",.ref a2]]) JH;have t1:=(Sub.new (c:=.lst [.str "every"]) RN).trans t2;have d1:=t2 _ _<|aa (S:=S1) (a:=a1) (c:=.lst [.str "every"]);have d2:=(Sub.new (c:=.lst [.ao,.tup [],.tup [.str "any"],.tup [.str "is",.str "nosuch",.int 1],.ref a1,.str "every",.tup [.str "every",.int 1],.tup [.str "not"],.tup [.str "or",.ref a2]]) JH) _ _<|aa (S:=S1.set a1<|.lst [.str "every"]) (a:=a2) (c:=.lst [.str "every"]);have d3:(((S1.set a1<|.lst [.str "every"]).set a2<|.lst [.str "every"]).set l2<|.lst [.ao,.tup [],.tup [.str "any"],.tup [.str "is",.str "nosuch",.int 1],.ref a1,.str "every",.tup [.str "every",.int 1],.tup [.str "not"],.tup [.str "or",.ref a2]]) l2=some (.lst [.ao,.tup [],.tup [.str "any"],.tup [.str "is",.str "nosuch",.int 1],.ref a1,.str "every",.tup [.str "every",.int 1],.tup [.str "not"],.tup [.str "or",.ref a2]]):=aa;have s2:=s1.trans t1;have c0:=t1 _ _ c0;have c1:=t1 _ _ c1;clear t1 t2;generalize ((S1.set a1<|.lst [.str "every"]).set a2<|.lst [.str "every"]).set l2 (.lst [.ao,.tup [],.tup [.str "any"],.tup [.str "is",.str "nosuch",.int 1],.ref a1,.str "every",.tup [.str "every",.int 1],.tup [.str "not"],.tup [.str "or",.ref a2]])=S2 at s2 c0 c1 d1 d2 d3⊢;refine !{n1,{by decide,by decide,by decide},n1,λa3 ha3=>{Vy,λl3 RA=>?_}};have t1:=(Sub.new (c:=.lst [.int 1]) ha3).trans<|Sub.new (c:=.lst [.int 0,.int (-1),.int 1001,.bl true,.ao,.str "3",.tup [.int 2],.int<|10^(59:Int).toNat,.bl false,.ref a3]) RA;have f1:=(Sub.new (c:=.lst [.int 0,.int (-1),.int 1001,.bl true,.ao,.str "3",.tup [.int 2],.int<|10^(59:Int).toNat,.bl false,.ref a3]) RA) _ _<|aa (S:=S2) (a:=a3) (c:=.lst [.int 1]);have f2:((S2.set a3<|.lst [.int 1]).set l3<|.lst [.int 0,.int (-1),.int 1001,.bl true,.ao,.str "3",.tup [.int 2],.int<|10^(59:Int).toNat,.bl false,.ref a3]) l3=some (.lst [.int 0,.int (-1),.int 1001,.bl true,.ao,.str "3",.tup [.int 2],.int<|10^(59:Int).toNat,.bl false,.ref a3]):=aa;have s3:=s2.trans t1;have c0:=t1 _ _ c0;have c1:=t1 _ _ c1;have d1:=t1 _ _ d1;have d2:=t1 _ _ d2;have d3:=t1 _ _ d3;clear t1;generalize (S2.set a3<|.lst [.int 1]).set l3 (.lst [.int 0,.int (-1),.int 1001,.bl true,.ao,.str "3",.tup [.int 2],.int<|10^(59:Int).toNat,.bl false,.ref a3])=S3 at s3 c0 c1 d1 d2 d3 f1 f2⊢;refine !!{rfl,λpf Xn=>{_,_,(Sub.new Xn) _ _ d3,aa,Np,λpc hpc=>?_}};have t1:=(Sub.new (c:=.lst [dw 8,wM 3,dw 2008]) Xn).trans<|Sub.new (c:=.lst<|[.ao,.tup [],.tup [.str "any"],.tup [.str "is",.str "nosuch",.int 1],.ref a1,.str "every",.tup [.str "every",.int 1],.tup [.str "not"],.tup [.str "or",.ref a2]]++[dw 8,wM 3,dw 2008]) hpc;have g1:((S3.set pf<|.lst [dw 8,wM 3,dw 2008]).set pc<|.lst<|[.ao,.tup [],.tup [.str "any"],.tup [.str "is",.str "nosuch",.int 1],.ref a1,.str "every",.tup [.str "every",.int 1],.tup [.str "not"],.tup [.str "or",.ref a2]]++[dw 8,wM 3,dw 2008]) pc=some (.lst<|[.ao,.tup [],.tup [.str "any"],.tup [.str "is",.str "nosuch",.int 1],.ref a1,.str "every",.tup [.str "every",.int 1],.tup [.str "not"],.tup [.str "or",.ref a2]]++[dw 8,wM 3,dw 2008]):=aa;have s4:=s3.trans t1;have c0:=t1 _ _ c0;have c1:=t1 _ _ c1;have d1:=t1 _ _ d1;have d2:=t1 _ _ d2;have f1:=t1 _ _ f1;have f2:=t1 _ _ f2;clear t1 d3;generalize (S3.set pf<|.lst [dw 8,wM 3,dw 2008]).set pc (.lst<|[.ao,.tup [],.tup [.str "any"],.tup [.str "is",.str "nosuch",.int 1],.ref a1,.str "every",.tup [.str "every",.int 1],.tup [.str "not"],.tup [.str "or",.ref a2]]++[dw 8,wM 3,dw 2008])=S4 at s4 c0 c1 d1 d2 f1 f2 g1⊢;refine !{n3,λpm Xd=>!⟨?_⟩};have last:∀(l:Addr) (L:List D),S4 l=some (.lst L)->0<L.length->(∀d∈L,Bd S4 cs k d)->WH l (x%((L.length:Nat):Int)) S4 λd S'=>Fo S' (R d):=λl L hl hL hb=>by obtain⟨d,e1,e2⟩:=uZ (l:=L) (i:=x%((L.length:Nat):Int)) (yd _<|by lia)<|yb _ (by lia);exact{_,_,hl,e1,fo<|q d S4 s4<|hb d<|zI e2}
 rcases k with _|_|_|k;refine{_,_,aa,(show kJ _ 0=some _ from rfl),S4,.new Xd,?_};exact !!!!⟨.inl {_,c1,(show(0:Int)<((7:Nat):Int) by decide),last l1 _ c1 (Nat.succ_pos _)<|Q6 R_.2 ho c0}⟩;refine{_,_,aa,(show kJ _ 1=some _ from rfl),S4,.new Xd,?_};exact !!!!⟨.inl {_,g1,(show(0:Int)<((12:Nat):Int) by decide),last pc _ g1 (Nat.succ_pos _)<|Jv R_.2 d1 d2}⟩;refine{_,_,aa,(show kJ _ 2=some _ from rfl),S4,.new Xd,?_};exact !!!!⟨.inl {_,f2,(show(0:Int)<((10:Nat):Int) by decide),last l3 _ f2 (Nat.succ_pos _)<|Mh f1}⟩;lia
structure Xk(K:Frag)(t:eZ)(C:Addr)(b0 b1 b2:Bool):Prop where
 xc:XC K C
 xa:XA K C
 m:mroIn K C (.ref t.dA)=some true
 k0:kitOne K (.ref C) (.ref t.aK)=some b0
 k1:kitOne K (.ref C) (.ref t.aL)=some b1
 k2:kitOne K (.ref C) (.ref t.aS)=some b2
 k3:kitOne K (.ref C) (.ref t.ee)=some false
noncomputable def nmL(b0 b1 b2:Bool):List D:=(if b0=true then[D.str "BadOrder"] else[])++(if b1=true then[D.str "BadSieve"] else[])++(if b2=true then[D.str "BadSize"] else[])
noncomputable def Cp(b0 b1 b2:Bool):List D:=if b0=false then[.str "BadOrder"] else if b1=false then[.str "BadSieve"] else if b2=false then[.str "BadSize"] else[]
theorem V0(T:Txt w K mg t):Xk K t t.aK true false false:={⟨T.cy⟩,T.jx,T.cz,T.k_BadOrder_BadOrder,T.k_BadOrder_BadSieve,T.k_BadOrder_BadSize,T.k_BadOrder_BadPlace}
theorem Mi(T:Txt w K mg t):Xk K t t.aL false true false:={⟨T.fO⟩,T.jy,T.cA,T.k_BadSieve_BadOrder,T.k_BadSieve_BadSieve,T.k_BadSieve_BadSize,T.k_BadSieve_BadPlace}
theorem Mj(T:Txt w K mg t):Xk K t t.aS false false true:={⟨T.j7⟩,T.lE,T.cQ,T.k_BadSize_BadOrder,T.k_BadSize_BadSieve,T.k_BadSize_BadSize,T.k_BadSize_BadPlace}
inductive oh (K:Frag) (t:eZ) (ds:List D) (S:aw) (R:KD) (Z:KX):Prop where
 |mk (x C:Addr) (b0 b1 b2:Bool) (h0:ds=[.ref x]) (h1:S x=some (.exc C)) (h2:Xk K t C b0 b1 b2) (h3:∀p,S p=none->R (.ref p) (S.set p<|.lst<|nmL b0 b1 b2))
theorem Jw(T:Txt w K mg t):WS P w K mg base 1 (t.f 94) (t.d 94) (pB<|top 94) (oh K t):=by
 refine T.p_.F.okH rA (by rintro ds S R Z ⟨_,_,_,_,_,e,_,_,_⟩;exact by rw[e];rfl) λeL A outer s H ds S R Z hr ⟨x,C,b0,b1,b2,e,he,X,q⟩=>?_;subst e;refine{_,(sc (ck (i:=1) rA.nd<|bR an)<|sc (pA<|si (tv<|WQ CZ T.ay au<|al 0<|ac (dg (v:=.ref t.aK) T.dD rfl λ_=>d9 _) an) (s1<|se<|bm zK zO zP ba (dv 1)<|ac ds an) s0)<|sc (pA<|si (tv<|WQ CZ T.ay au<|al 0<|ac (dg (v:=.ref t.aL) T.jw rfl λ_=>d9 _) an) (s1<|se<|bm zK zO zP ba (dv 1)<|ac ds an) s0)<|sc (pA<|si (tv<|WQ CZ T.ay au<|al 0<|ac (dg (v:=.ref t.aS) T.q_ rfl λ_=>d9 _) an) (s1<|se<|bm zK zO zP ba (dv 1)<|ac ds an) s0)<|sc (pA<|si (tv<|WQ CZ T.ay au<|al 0<|ac (dg (v:=.ref t.ee) T.xR rfl λ_=>d9 _) an) (s1<|se<|bm zK zO zP ba (dv 1)<|ac ds an) s0)<|s1<|sr<|dv 1),?_};refine{rC,λp hp=>?_};have len:∀(b:Bool)(z:Str),((if b=true then[D.str z] else[]):List D).length<=1:=λb z=>by cases b<;>simp
 refine{λav S'=>av=[some<|.ref x,some<|.ref p]/\S'=S.set p (.lst<|(if b0=true then[D.str "BadOrder"] else[])),?_,?_};refine !{x,C,_,b0,rfl,(Sub.new hp) _ _ he,X.xc,X.xa,.inl !⟨X.k0⟩,_,rfl,?_};cases b0 with|true=>refine cw !⟨{rfl,_,aa},p,_,_,rfl,rfl,aa,bg ?_,fo {rfl,?_}⟩;exact zZ _;rw[aR];rfl|false=>exact bY<|fo ⟨rfl,rfl⟩
 rintro av S' ⟨rfl,rfl⟩;refine{λav S'=>av=[some<|.ref x,some<|.ref p]/\S'=S.set p (.lst<|(if b0=true then[D.str "BadOrder"] else[])++(if b1=true then[D.str "BadSieve"] else[])),?_,?_};refine !{x,C,_,b1,rfl,(Sub.new hp) _ _ he,X.xc,X.xa,.inl !⟨X.k1⟩,_,rfl,?_};cases b1 with|true=>(refine cw !⟨{rfl,_,aa},p,_,_,rfl,rfl,aa,bg ?_,fo {rfl,?_}⟩;have:=len b0 "BadOrder";show((if b0=true then[D.str "BadOrder"] else[])).length<=100000;lia;rw[aR];rfl)|false=>exact bY<|fo {rfl,by rw[show(if false=true then[D.str "BadSieve"] else[])=[] from rfl,ym]}
 rintro av S' ⟨rfl,rfl⟩;refine{λav S'=>av=[some<|.ref x,some<|.ref p]/\S'=S.set p (.lst<|(if b0=true then[D.str "BadOrder"] else[])++(if b1=true then[D.str "BadSieve"] else[])++(if b2=true then[D.str "BadSize"] else[])),?_,?_};refine !{x,C,_,b2,rfl,(Sub.new hp) _ _ he,X.xc,X.xa,.inl !⟨X.k2⟩,_,rfl,?_};cases b2 with|true=>(refine cw !⟨{rfl,_,aa},p,_,_,rfl,rfl,aa,bg ?_,fo {rfl,?_}⟩;have:=len b0 "BadOrder";have:=len b1 "BadSieve";show((if b0=true then[D.str "BadOrder"] else[])++(if b1=true then[D.str "BadSieve"] else[])).length<=100000;rw[zA];lia;rw[aR];rfl)|false=>exact bY<|fo {rfl,by rw[show(if false=true then[D.str "BadSize"] else[])=[] from rfl,ym]}
 rintro av S' ⟨rfl,rfl⟩;refine{λav S'=>av=[some<|.ref x,some<|.ref p]/\S'=S.set p (.lst<|(if b0=true then[D.str "BadOrder"] else[])++(if b1=true then[D.str "BadSieve"] else[])++(if b2=true then[D.str "BadSize"] else[])),?_,?_};exact !{x,C,_,false,rfl,(Sub.new hp) _ _ he,X.xc,X.xa,.inl !⟨X.k3⟩,_,rfl,bY<|fo ⟨rfl,rfl⟩};rintro av S' ⟨rfl,rfl⟩;exact{_,rfl,fo<|q p hp}
inductive Ae (t:eZ) (ds:List D) (S:aw) (R:KD) (Z:KX):Prop where
 |mk (q:Wk) (la:Addr) (way:Nat) (o d n:D) (cs:List<|Str×Str) (F:List Addr) (dl:List D) (rs:kQ) (L:List D) (h0:ds=[.ref q.a,.ref q.w,.int (way:Nat),.ref la]) (h1:S la=some (.lst [o,d,n])) (h2:S q.w=some (Ab t.aF q)) (h3:Gd cs) (h4:QA S o) (h5:QA S d) (h6:Gt S n) (h7:bI t.aj S q.a F cs dl rs)
  (h8:(way=0/\L=Cp (f_ cs o) (n8 cs 8 0 [d]) (L9 n))\/(way=1/\n8 cs 8 0 [d]=false/\L=[.str "BadSieve"])\/(way=2/\L9 n=false/\L=[.str "BadSize"])) (h9:∀p S',Sub S S'->S' p=some (.lst L)->R (.ref p) S'):Ae t ds S R Z
theorem DZ(T:Txt w K mg t):Ok P w base T.vO 9 (Ae t):=by have FJ:WS P w K mg base 1 (t.f 94) (t.d 94) (pB<|top 94) (oh K t):=Jw T;refine T.vO.F.cP j_ ?_;obtain⟨k,la,way,o,d,n,cs,F,dl,rs,L,e,Ml,hk,hg,ho,hd,hn,hS,h8,q⟩;refine{_,(sc (ck (i:=4) j_.nd<|bR an)<|sc (pA<|Zl (i:=5) j_.nd T.vA ⟨T.jv⟩ (s1<|si (bL bG hr.u (dv 2) di) (s1<|se<|mk T.Di (Ac T) (hr.mono<|by decide) T.Dh T.eP.b d0<|al 0<|ac (ix hr.u (dv 3) di)<|ac (ix hr.u (dv 3) di)<|ac (ix hr.u (dv 3) di) an)<|s1<|si (bL bG hr.u (dv 2) di) (s1<|se<|pC (dv 1) T.aA T.gI (FH T) hr<|ac (ix hr.u (dv 3) di) an)<|s1<|se<|pC (dv 1) T.aA T.iF (Jn T) hr<|ac (ix hr.u (dv 3) di) an) λ_=>(s1<|ck (i:=4) j_.nd<|cfh FJ (bf.h hr<|by decide) T.p_.m T.p_.k T.p_.b<|al 5 an))<|s1<|sr<|dv 4),?_};refine{rC,λp0 hp0=>?_};have s0:=Sub.new (c:=.lst []) hp0;have Dx:(S.set p0<|.lst []) p0=some (.lst []):=aa;generalize S.set p0 (.lst [])=S1 at s0 Dx⊢;have Ml:=s0 _ _ Ml;have hk:=s0 _ _ hk;have hS:=hS.sub s0;refine{λav S'=>∃(pf:Addr)(o5:Option D),av=[some<|.ref k.a,some<|.ref k.w,some<|.int (way:Nat),some<|.ref la,some<|.ref pf,o5]/\Sub S1 S'/\S' pf=some (.lst L),?_,?_};refine !!⟨?_⟩;rcases h8 with⟨e,hL⟩|⟨e,hb,hL⟩|⟨e,hb,hL⟩;refine sJ (by rw[e];decide) ?_;refine !!{_,_,Ml,rfl,_,rfl,_,_,Ml,rfl,_,rfl,_,_,Ml,rfl,λk2 b8=>?_};have s2:=Sub.new (c:=.ins t.aF []) b8;have s02:=s0.trans s2;refine{k2,k.a,cs,o,d,n,F,dl,rs,rfl,hg,ho.sub s02,hd.sub s02,hn.sub s02,hS.sub s2,aa,λb0=>{(V0 T).m,λx hx=>!{x,_,_,_,_,rfl,aa,V0 T,λp hp=>fo {p,_,rfl,(s2.trans<|.new hx).trans<|.new hp,by rw[hL,b0];exact aa}}},λb0 b1=>{(Mi T).m,λx hx=>!{x,_,_,_,_,rfl,aa,Mi T,λp hp=>fo {p,_,rfl,(s2.trans<|.new hx).trans<|.new hp,by rw[hL,b0,b1];exact aa}}},λb0 b1 b2=>{(Mj T).m,λx hx=>!{x,_,_,_,_,rfl,aa,Mj T,λp hp=>fo {p,_,rfl,(s2.trans<|.new hx).trans<|.new hp,by rw[hL,b0,b1,b2];exact aa}}},λb0 b1 b2=>{rfl,?_}};rw[aR];exact fo {p0,_,rfl,.new b8,by rw[hL,b0,b1,b2];exact(Sub.new b8) _ _ Dx};refine dW (by rw[e];decide) !!⟨sJ (by rw[e];decide) ?_⟩;exact !{k.w,_,rfl,hk,rfl,_,rfl,_,_,Ml,rfl,k,d,cs,F,dl,rs,rfl,hk,hg,hd.sub s0,hS,hb,{(Mi T).m,λx hx=>!{x,_,_,_,_,rfl,aa,Mi T,λp hp=>fo {p,_,rfl,((Sub.refl _).trans<|.new hx).trans<|.new hp,by rw[hL];exact aa}}}};refine dW (by rw[e];decide) !!⟨dW (by rw[e];decide) ?_⟩;exact !{k.w,_,rfl,hk,rfl,_,rfl,_,_,Ml,rfl,k.w,n,rfl,hn.sub s0,hb,{(Mj T).m,λx hx=>!{x,_,_,_,_,rfl,aa,Mj T,λp hp=>fo {p,_,rfl,((Sub.refl _).trans<|.new hx).trans<|.new hp,by rw[hL];exact aa}}}};rintro av S' ⟨pf,o5,rfl,sb,Xn⟩;exact{_,rfl,fo<|q pf S' (s0.trans sb) Xn}
section
variable{t:eZ}{S0:aw}{a lk lm:Addr}{cs:List (Str×Str)}{kn:Kn}{ce:VR}{F:List Addr}{dl:List D}{rs:kQ}{S:aw}
theorem Bt.len(h:Bt t S0 a lk lm cs kn ce F dl rs S):ce.length=dl.length+1:=by have:=h.hi.1;rwa [zc]at this
theorem Bt.snap(h:Bt t S0 a lk lm cs kn ce F dl rs S)(e:ce[k]?=some x):Snap rs cs k x.2:=h.hi.2 k x.2<|by rw[zr,e];rfl
theorem Bt.at(h:Bt t S0 a lk lm cs kn ce F dl rs S)(hk:k<ce.length):∃x,ce[k]?=some x:={_,ze hk}
end
theorem V1(hg:Gd cs)(hp:Pin cs ps)(hw:∀r∈rows,Wg cs r.2)(hk:VW rows)(hs:FG cs ps s):FG cs ps (DU cs ps rows s).1/\FG cs ps (DU cs ps rows s).2:=by unfold DU;split;rename_i r0 r1 e0 e1;have m0:=zI e0;have m1:=zI e1;exact{Jg hg hp (hw r0 m0) (hk r0 m0)<|by trivial,Jg hg hp (hw r1 m1) (hk r1 m1)<|by trivial};exact⟨hs,hs⟩
theorem Af(A:List Row)(lo hi:Option Int):cq (A.map ak) lo hi=(cq A lo hi).map ak:=by unfold cq;rw[zc,List.map_take,List.map_drop]
theorem Mm(h:r∈cq A lo hi):r∈A:=List.mem_of_mem_drop<|List.mem_of_mem_take h
def Da(n:Nat)(d:D):Prop:=∃p:PyData,(∀S,Dr S d p)/\p.canLay0=true/\p.depth<=n
theorem Da.str{z:Str}(h:PyData.strOk z=true):Da 0 (.str z):={.str z,λ_=>.str z,by simp only[PyData.canLay0];exact h,by simp only[PyData.depth];lia}
theorem Da.int(i:Int):Da 0 (.int i):={.int i,λ_=>.int i,by simp only[PyData.canLay0],by simp only[PyData.depth];lia}
theorem Da.le(h:Da n d)(l:n<=m):Da m d:=by obtain⟨p,a,b,c⟩:=h;exact{p,a,b,zL c l}
theorem Da.plain(h:cT d=true):Da 0 d:=by cases d with|ao=>exact{.none,λ_=>.ao,by simp only[PyData.canLay0],by simp only[PyData.depth];lia}|int i=>exact .int i|str z=>have h:(decide (z.cps.size<=40)&&PyData.strOk z)=true:=h;rw[zQ]at h;exact .str h.2|_=>cases h
theorem Da.all:∀{ds:List D},(∀d∈ds,Da n d)->∃ps:List PyData,(∀S,EW S ds ps)/\PyData.canLayAll0 ps=true/\PyData.depthAll ps<=n|[],_=>{[],λ_=>.nil,rfl,zZ _}|d::ds,h=>by obtain⟨p,h1,h2,h3⟩:=h d zp;obtain⟨ps,k1,k2,k3⟩:=Da.all λx hx=>h x<|zh _ hx;exact{p::ps,λS=>.cons (h1 S)<|k1 S,by simp only[PyData.canLayAll0,h2,k2,Bool.and_self],by simp only[PyData.depthAll];lia}
theorem Da.tup{n:Nat}{ds:List D}(h:∀d∈ds,Da n d):Da (n+1) (.tup ds):=by obtain⟨ps,k1,k2,k3⟩:=Da.all h;exact{.tuple ps,λS=>.tup<|k1 S,by simp only[PyData.canLay0];exact k2,by simp only[PyData.depth];lia}
theorem Q8{cs:List<|Str×Str}(hN:∀c∈cs,c.1∈tI){ps:List Part}{wy:Str}(ho:Og cs ps wy):Da 3 (cu ps wy):=by
 have way:∀z:Str,eJ z=true->PyData.strOk z=true:=λz h=>by unfold eJ at h;rw[yH]at h;rcases h with q|q<;>rw[zi q]<;>decide +kernel
 have hb:=ho.ok;unfold Io at hb;simp only[zQ,ye]at hb;refine Da.tup λd hd=>?_;simp only[zf,zD,or_false]at hd;rcases hd with rfl|rfl;refine Da.tup λd hd=>?_;obtain⟨p,hp,rfl⟩:=zj.mp hd;obtain⟨c,hc,ec⟩:=ho.pin p hp;have hb:=hb.2.1 p hp;unfold yU at hb;simp only[zQ]at hb;have he:PyData.strOk p.2.2=true:=by have h:=hb.2.2;unfold tJ at h;rw[yH]at h;rcases h with q|q<;>rw[zi q]<;>decide +kernel
 refine Da.tup λd hd=>?_;simp only[zf,zD,or_false]at hd;rcases hd with rfl|rfl|rfl;exact .str (by rw[<-ec];exact(Ig _<|hN c hc).2);exact .str<|way _ hb.2.1;exact .str he;exact(Da.str<|way _ ho.way).le<|by decide
theorem Q9{cs:List<|Str×Str}{ps:List Part}{g:NI}(h:Gp cs ps g):Da 3 (wo g):=by
 have hs:PyData.strOk g.2.2=true:=by have:=h.side;unfold y6 at this;rw[yH]at this;rcases this with q|q<;>rw[zi q]<;>decide +kernel
 refine Da.tup λx hx=>?_;simp only[zf,zD,or_false]at hx;rcases hx with rfl|rfl;refine Da.tup λx hx=>?_;simp only[zf,zD,or_false]at hx;rcases hx with rfl|rfl;refine Da.tup λx hx=>?_;obtain⟨i,ei⟩:=List.getElem?_of_mem hx;obtain⟨k,_,hv⟩:=dE h.pv ei;exact Da.plain hv.2;exact(Da.str (jQ _ h.key).2.2).le (by decide);exact(Da.str hs).le<|by decide
theorem NN{cs:List<|Str×Str}{ps:List Part} : ∀{s:Sd},FG cs ps s->Da 3 (Jm s)|.s,_=>(Da.str<|by trivial).le (by decide)|.e,_=>(Da.str<|by trivial).le (by decide)|.g _,h=>Q9 h
noncomputable def ev:D:=.tup [.str "every"]
theorem V2:Da 1 ev:=Da.tup λd hd=>by rw[zu.mp hd];exact .str<|by trivial
theorem V3{cs:List<|Str×Str}(hN:∀c∈cs,c.1∈tI){q:Wk}(ho:Og cs q.ps q.wy)(he:q.d=ev)(hf:FG cs q.ps q.f)(hh:FG cs q.ps q.h):Da 4 (Jo q):=Da.tup λd hd=>by simp only[zf,zD,or_false]at hd;rcases hd with rfl|rfl|rfl|rfl|rfl;exact Q8 hN ho;rw[he];exact V2.le (by decide);exact(Da.int _).le (by decide);exact NN hf;exact NN hh
noncomputable def wd:Nat->Str|0=>"BadOrder"|1=>"BadSieve"|_=>"BadSize"
noncomputable def sL(wf:Nat->Bool)(n:Nat):List D:=((List.range n).filter wf).map λj=>.int ((j:Nat):Int)
theorem Q_(wf:Nat->Bool):(((List.range 3).filter wf).map λj=>D.str<|wd j).take 1=Cp (!wf 0) (!wf 1) (!wf 2):=by rw[show List.range 3=[0,1,2] from rfl];cases h0:wf 0<;>cases h1:wf 1<;>cases h2:wf 2<;>simp[List.filter,h0,h1,h2,Cp,wd]
theorem V4(wf:Nat->Bool)(hk:k=1\/k=2):Ar (kz<|.int ((k:Nat):Int)) ((sL wf 3).map kz)=wf k:=by unfold sL;rw[show List.range 3=[0,1,2] from rfl];rcases hk with rfl|rfl<;>cases h0:wf 0<;>cases h1:wf 1<;>cases h2:wf 2<;>simp[List.filter,h0,h1,h2,Ar,kz,eqV]
theorem Mn(wf:Nat->Bool)(n:Nat):(sL wf n).all jl=true:=by unfold sL;rw[List.all_map];exact ye.mpr λ_ _=>rfl
theorem Jx(wf:Nat->Bool)(n:Nat):(sL wf n).length<=n:=by unfold sL;rw[zc];exact zL (List.length_filter_le _ _)<|by rw[List.length_range];exact zo _
theorem V5(h:wf n=false):sL wf (n+1)=sL wf n:=by unfold sL;rw[List.range_succ,List.filter_append,List.filter_cons_of_neg<|by rw[h];decide,List.filter_nil,ym]
theorem Rb:sL (λj=>if j=n then true else wf j) (n+1)=sL wf n++[.int ((n:Nat):Int)]:=by unfold sL;rw[List.range_succ,List.filter_append,zH];congr 1;congr 1;exact List.filter_congr λj hj=>if_neg (by have:=zT.mp hj;lia);rw[List.filter_cons_of_pos<|by simp];rfl
theorem Mp(b0 b1 b2:Bool):∀d∈Cp b0 b1 b2,Ly S 60 d:=λd hd=>by
 have:∃z:Str,d=.str z/\PyData.strOk z=true:=by unfold Cp at hd;split at hd;rw[zu.mp hd];exact{_,rfl,by trivial};split at hd;rw[zu.mp hd];exact{_,rfl,by trivial};split at hd;rw[zu.mp hd];exact{_,rfl,by trivial};cases hd
 obtain⟨z,rfl,h⟩:=this;exact(Ly.str h).le<|by decide
structure Aq(S:aw)(cs:List (Str×Str))(ps:List Part)(wy:Str)(wf:Nat->Bool)(af:Nat->D):Prop where
 bad:∀j,wf j=true->Bd S cs j (af j)
 g0:wf 0=false->af 0=cu ps wy
 g1:wf 1=false->af 1=ev
 g2:wf 2=false->af 2=.int 3
theorem Aq.sub{S S':aw}{cs:List<|Str×Str}{ps:List Part}{wy:Str}{wf:Nat->Bool}{af:Nat->D}(h:Aq S cs ps wy wf af)(b:Sub S S'):Aq S' cs ps wy wf af:={λj e=>(h.bad j e).sub b,h.g0,h.g1,h.g2}
theorem NO(cs:List<|Str×Str):n8 cs 8 0 [ev]=true:=by unfold ev;rw[Ck,rV];rfl
theorem Aq.of{S:aw}{cs:List<|Str×Str}(hg:Gd cs){ps:List Part}{wy:Str}(ho:Og cs ps wy){wf:Nat->Bool}{af:Nat->D}(h:Aq S cs ps wy wf af):(QA S (af 0)/\f_ cs (af 0)=!wf 0)/\(QA S (af 1)/\n8 cs 8 0 [af 1]=!wf 1)/\(Gt S (af 2)/\L9 (af 2)=!wf 2):=by
 refine{?_,?_,?_};cases e:wf 0 with|true=>exact h.bad 0 e|false=>rw[h.g0 e];exact{(Co ho).2.2,(uF hg ps wy).trans ho.ok}
 cases e:wf 1 with|true=>exact h.bad 1 e|false=>rw[h.g1 e];exact{sC<|cX<|by decide,NO cs}
 cases e:wf 2 with|true=>exact h.bad 2 e|false=>rw[h.g2 e];exact{gt_int,by trivial}
theorem Aq.put{S:aw}{cs:List<|Str×Str}{ps:List Part}{wy:Str}{wf:Nat->Bool}{af:Nat->D}(h:Aq S cs ps wy wf af){k:Nat}{d:D}(hd:Bd S cs k d):Aq S cs ps wy (λj=>if j=k then true else wf j) λj=>if j=k then d else af j:=by refine{λj e=>?_,λe=>?_,λe=>?_,λe=>?_};by_cases q:j=k;subst q;rw[if_pos rfl];exact hd;rw[if_neg q]at e⊢;exact h.bad j e;by_cases q:0=k;rw[if_pos q]at e;cases e;rw[if_neg q]at e⊢;exact h.g0 e;by_cases q:1=k;rw[if_pos q]at e;cases e;rw[if_neg q]at e⊢;exact h.g1 e;by_cases q:2=k;rw[if_pos q]at e;cases e;rw[if_neg q]at e⊢;exact h.g2 e
theorem aaF(ns:List Int):(cq ns (some 23)<|some 31).length<=30:=by unfold cq;rw[show HT.sIx ns.length 0 (some 23)=min 23 ns.length from HT.sIx_nat ..,show HT.sIx ns.length ns.length (some 31)=min 31 ns.length from HT.sIx_nat ..];exact zL (List.length_take_le _ _)<|by lia
theorem aaG{p G:Prop}(k:p->G)(h:p):G:=k h
theorem Cq(h:S la=some (.lst X))(g:Gt S d):Gt (S.set la<|.lst Y) d:=by obtain⟨⟨k,hk⟩,g2⟩:=g;refine{{k,?_},g2};cases d with|ref a=>(by_cases e:a=la;subst e;rcases hk with⟨rfl,ds,e⟩|⟨rfl,ds,e⟩;exact .inl ⟨rfl,Y,aa⟩;rw[h]at e;cases e;rcases hk with⟨rfl,ds,e1⟩|⟨rfl,ds,e1⟩;exact .inl {rfl,ds,(ag e).trans e1};exact .inr {rfl,ds,(ag e).trans e1})|_=>exact hk
theorem Cr(h:S la=some (.lst X)):∀{n:Nat}{d:D},Qd S n d->Qd (S.set la<|.lst Y) n d|0,_,g=>Cq h g|n+1,_,g=>{Cq h g.1,λws e=>{(g.2 ws e).1,λv hv=>Cr h<|(g.2 ws e).2 v hv}}
theorem Rf(h:S la=some (.lst X)):∀{k:Nat}{d:D},Bd S cs k d->Bd (S.set la<|.lst Y) cs k d|0,_,g=>{λn=>Cr h<|g.1 n,g.2}|1,_,g=>{λn=>Cr h<|g.1 n,g.2}|_+2,_,g=>{Cq h g.1,g.2}
theorem Aq.cell{S:aw}{la:Addr}{X Y:List D}(h:S la=some (.lst X)){cs:List<|Str×Str}{ps:List Part}{wy:Str}{wf:Nat->Bool}{af:Nat->D}(g:Aq S cs ps wy wf af):Aq (S.set la<|.lst Y) cs ps wy wf af:={λj e=>Rf h<|g.bad j e,g.g0,g.g1,g.g2}
theorem V6(af:Nat->D)(d:D):∀i,i<3->[af 0,af 1,af 2].set i d=[if 0=i then d else af 0,if 1=i then d else af 1,if 2=i then d else af 2]/\FN 3 ((i:Nat):Int)=some i|0,_=>⟨rfl,rfl⟩|1,_=>⟨rfl,rfl⟩|2,_=>⟨rfl,rfl⟩|_+3,h=>absurd h<|by lia
theorem aaH(l:List α):cq l none (some 1)=l.take 1:=by unfold cq;rw[show HT.sIx l.length l.length (some 1)=min 1 l.length from HT.sIx_nat ..,show HT.sIx l.length 0 none=0 from rfl,List.drop_zero,Nat.sub_zero];cases l<;>rfl
noncomputable def wdD:D->D|.int j=>.str (wd j.toNat)|_=>.ao
theorem Rh(wf:Nat->Bool):(sL wf 3).map wdD=((List.range 3).filter wf).map λj=>D.str (wd j):=by unfold sL;rw[zB];rfl
theorem NP:∀{j:Nat},j<3->kJ [D.str "BadOrder",.str "BadSieve",.str "BadSize"] ((j:Nat):Int)=some (.str<|wd j)|0,_=>rfl|1,_=>rfl|2,_=>rfl|_+3,h=>absurd h<|by lia
theorem V7:∀j,PyData.strOk (wd j)=true|0=>by trivial|1=>by trivial|_+2=>by show PyData.strOk "BadSize"= true;decide +kernel
noncomputable def Fl(lk k pa pb tM:Addr)(kn:Kn)(t:eZ)(q:Wk)(C:List Row):List (Addr×Ce):=[(lk,.cY<|ib kn),(k,Ab t.aF q),(pa,.lst<|C.map ak),(pb,.lst [Jo q,.ref pa]),(tM,.lst [D.str "BadOrder",.str "BadSieve",.str "BadSize"])]
inductive Jy (t:eZ) (ds:List D) (S:aw) (R:KD) (Z:KX):Prop where
 |mk (ns:List Int) (h0:ds=[.iU<|ns.map D.int]) (h1:ns.length<=63) (h2:Tb t S) (h3:R (.bl true) S)
structure Alw(t:eZ)(ds:List D)(S:aw)(R:KD)(Z:KX):Prop where
 of:Nt t.aj t.eB ds S R Z
theorem Mq(T:Txt w K mg t)(B:Bm mg base):Ok P w base T.Z1 20 (Jy t):=by
 have sE:oE P w mg base T.dI 3 (Alw t):=(uB T).US λds S R Z h=>h.of;refine T.Z1.F.cP du ?_;obtain⟨ns,e,PR,htb,q⟩;refine{_,(sc (ck (i:=1) du.nd<|bC T.nQ (BX T) hr<|ac (bC T.g8 (lJ T) hr<|al 0<|ac di an) an)<|sc (ck (i:=2) du.nd<|bC T.vK (IX T) hr<|al 1<|ac (bC T.g8 (lJ T) hr<|al 0<|ac di an) an)<|sc (sa (bC T.vN (Jj T) hr<|al 1<|ac (Ni (dv 0) (o1 di)<|o1 di) an)<|gt (n:=3)<|gc (gn (i:=3) du.nd)<|gc (gn (i:=4) du.nd)<|gc (gn (i:=5) du.nd) g0)<|sc (ck (i:=6) du.nd<|mk T.Di (Ac T) (hr.mono<|by decide) T.Dh T.eP.b d0<|al 3<|al 2<|ac (bw<|ac ds an)<|ac di an)<|sc (pA<|si (bL sZ hr.u (bo bZ hr.u (bC T.g8 (lJ T) hr<|al 0<|ac di an) di) di) (s1<|se<|iy (dv 6) T.aA T.vP (Q1 T B) hr) s0)<|sc (ck (i:=7) du.nd<|bR<|ac (iy (dv 6) T.aA T.eR (lN T) hr)<|ac (iy (dv 6) T.aA T.iE (uN T B) hr) an)<|sc (ck (i:=8) du.nd<|bR<|ac ds<|ac ds<|ac ds an)<|sc (pA<|Bw (il<|Ni (dv 0) (o1 di)<|o1 di) (gn (i:=9) du.nd)<|sc (ck (i:=10) du.nd<|bC T.j9 (mJ T) hr<|al 9<|ac di an)<|sc (ck (i:=11) du.nd<|bR<|al 2<|ac (bw<|ac ds an)<|ac di an)<|sc (ck (i:=12) du.nd<|bR an)<|sc (pA<|Bw (Ld T.ft<|ac di an) (gn (i:=13) du.nd)<|s1<|si (twd<|twor (bL bG hr.u (bo bZ hr.u (ix hr.u (dv 10) di) di)<|dv 13)<|tw1<|bL bG hr.u (bo bZ hr.u (bo e_ hr.u (ix hr.u (dv 10) di)<|EM<|ix hr.u (bR<|ac di<|ac di<|ac di an)<|dv 13) di) di) (sc (sls (dv 11) (dv 13)<|bC T.HY (Q7 T) hr<|al 2<|al 13<|ac (ix hr.u (dv 10)<|bo bj hr.u di<|dv 13) an)<|s1<|se<|bm zK zO zP ba (dv 12)<|al 13 an) s0)<|sc (si (bL px hr.u (bC T.vO (DZ T) hr<|al 3<|al 6<|ac di<|al 11 an)<|Ni (Ax (N:=["_law_k","_law_words"]) (src:=[none,some 8]) (oy (ae Vt) ["_law_script","_law_columns_here","_law_order_here","_law_shelf","_law_moments","_law_standing","_law_walk","_law_before","_law_words","_law_cell","_law_xs","_law_asked","_law_wrong","_law_k","_law_way"] rfl rfl<|by trivial) (il<|dv 12) (ur<|show(["_law_k","_law_words"]:List Str).Nodup by trivial) (aY rfl) aZ (λ_ _ _ _ _=>wK) λ_ _ _ _ _=>(ix hr.u (dv 1)<|dv 0)) o0<|o1 di) (s1<|sr db) s0)<|sc (pA<|Bw (Lb<|bw<|ac di<|ac di an) (gn (i:=14) du.nd)<|s1<|si (twd<|twand (bL xq hr.u (dv 14)<|dv 12)<|tw1<|bL px hr.u (bC T.vO (DZ T) hr<|al 3<|al 6<|al 14<|al 11 an)<|bR<|ac (ix hr.u (dv 8)<|dv 14) an) (s1<|sr db) s0)<|s1<|si (bL Vo hr.u (bR<|ac (iy (dv 6) T.aA T.eR (lN T) hr)<|ac (iy (dv 6) T.aA T.iE (uN T B) hr) an)<|dv 7) (s1<|sr db) s0)<|s1<|sr<|sY (cm bG hr.u (UC (dv 3) T.ai T.dI.e (sE.mono<|by decide) hr T.nJ d1)<|bC T.vM (z_ T) hr<|al 5 an)<|JJ<|cm Vn hr.u (iy (dv 6) T.aA T.eR (lN T) hr)<|ix hr.u (dv 7) di),?_};refine !{ns,0,rfl,λc0=>{c0,rfl,λcs R_=>?_}};have hg:=R_.1;refine !!{ns,1,rfl,λc1=>{cs,c1,rfl,hg,λps wy ho=>?_}};refine !!!!⟨λp1 Dx=>{cs,p1,cq ns (some 23)<|some 31,rfl,hg,by rw[mR];exact aa,aaF ns,λS3 a lk lm kn ce F dl rs hb=>?_}⟩;have s2:=Sub.new (c:=.lst<|cq (ns.map D.int) (some 23)<|some 31) Dx;generalize S.set p1 (.lst<|cq (ns.map D.int) (some 23)<|some 31)=S2 at s2 hb;have tb2:=htb.sub s2;have hle:=hb.le;have A5:=hb.len;obtain⟨y,ey⟩:=hb.at (show dl.length<ce.length by lia);have sn:=hb.snap ey;obtain⟨hrg,h60⟩:=sn.rg;have hky:VW y.2:=sn.key;have Vf:Sq cs ev:={.inl<|.inl rfl,by trivial};have Xl:St t S2 a [(lk,.cY<|ib kn)] F cs dl rs S3:=hb.st.less (by simp) λx hx=>by rw[zu.mp hx];exact zp
 have qs:∀{fs:List (Addr×Ce)}{S':aw},St t S2 a fs F cs dl rs S'->Qs t S' a cs ps wy ev .ao y.2:=λst=>{hg,ho,Vf,sn.vw st.sh hb.ri rfl lI,hky,tb2.sub st.FW.sub};refine !{rfl,_,_,rfl,_,_,rfl,_,_,rfl,rfl,?_};refine !!{gJ,λk hk=>{k,a,cs,_,_,_,F,dl,rs,rfl,hg,(Co ho).2.2,sC<|cX<|by decide,gt_int,Xl.sh.sub<|.new hk,aa,λz=>tf ((uF hg ps wy).trans ho.ok) z,λ_ z=>tf (NO cs) z,λ_ _ z=>(nomatch z),λ_ _ _=>{rfl,?_}}};rw[aR];have Md:St t S2 a [(lk,.cY<|ib kn),(k,Ab t.aF {k,a,ps,wy,ev,2,.s,.s})] F cs dl rs _:=Xl.new hk _;change St t S2 a [(lk,.cY<|ib kn),(k,Ab t.aF {k,a,ps,wy,ev,2,.s,.s})] F cs dl rs (S3.set k<|.ins t.aF [("shelf",.ref a),("order",cu ps wy),("sieve",.tup [.str "every"]),("size",.int 2),("fore",.str "start"),("hinder",.str "start")]) at Md;generalize S3.set k (.ins t.aF [("shelf",.ref a),("order",cu ps wy),("sieve",.tup [.str "every"]),("size",.int 2),("fore",.str "start"),("hinder",.str "start")])=S4 at Md⊢;refine{λav S'=>∃f h:Sd,FG cs ps f/\FG cs ps h/\av=[some<|.iU<|ns.map D.int,some<|.tup<|cs.map aD,some<|cu ps wy,some<|.ref a,some<|.ref lm,some<|.ref lk,some<|.ref k,none,none,none,none,none,none,none,none]/\St t S2 a [(lk,.cY<|ib kn),(k,Ab t.aF {k,a,ps,wy,ev,2,f,h})] F cs dl rs S',?_,?_};refine !{ns,2,rfl,λc2=>{by decide,_,rfl,bB (λ_=>?_) λ_=>fo {.s,.s,trivial,trivial,rfl,Md}}};have By:=Md.at 1 rfl;refine !{k,_,rfl,By,rfl,{k,a,ps,wy,ev,2,.s,.s},cs,y.2,rfl,By,qs Md,trivial,λA p b e hA hp _=>?_};have hsd:=V1 hg ho.pin (rows:=seg A b e) (λr hr=>hA.an.rg.1 r<|wu hr) (λr hr=>hA.an.ky r<|wu hr) (s:=.s) trivial;have AM:=(Md.new hp<|.lst<|(seg A b e).map ak).put 1 rfl<|Ab t.aF {k,a,ps,wy,ev,2,(DU cs ps (seg A b e) .s).1,(DU cs ps (seg A b e) .s).2};exact fo {_,_,hsd.1,hsd.2,rfl,AM.less (AM.nd.sublist<|.cons₂ _<|.cons₂ _<|List.nil_sublist _) λx hx=>by simp only[zf,zD,or_false]at hx;rcases hx with rfl|rfl;exact zp;exact zh _ zp};rintro av S5 ⟨f,h,hf,hh,rfl,AM⟩;have b8:=AM.at 1 rfl;refine !{k,_,rfl,b8,rfl,{k,a,ps,wy,ev,2,f,h},rfl,b8,_,rfl,k,_,rfl,b8,rfl,{k,a,ps,wy,ev,2,f,h},cs,y.2,rfl,b8,qs AM,hf,hh,λA pa hA hpa=>?_};dsimp only;rw[Af];generalize hC:cq A (some ((NM cs ps wy A f:Nat):Int)) (some ((NM cs ps wy A h:Nat):Int))=C;have mC:∀r∈C,r∈A:=λr hr=>Mm (by rw[hC];exact hr);have Gf:=AM.new hpa<|.lst<|C.map ak;generalize S5.set pa (.lst<|C.map ak)=S6 at Gf⊢;refine{fz,λpb hpb=>?_};have Xm:=Gf.new hpb<|.lst [Jo {k,a,ps,wy,ev,2,f,h},.ref pa];generalize S6.set pb (.lst [Jo {k,a,ps,wy,ev,2,f,h},.ref pa])=S7 at Xm⊢;refine{mD,λtM aaI=>?_};have D_:St t S2 a (Fl lk k pa pb tM kn t {k,a,ps,wy,ev,2,f,h} C) F cs dl rs _:=Xm.new aaI<|.lst [D.str "BadOrder",.str "BadSieve",.str "BadSize"];generalize S7.set tM (.lst [D.str "BadOrder",.str "BadSieve",.str "BadSize"])=S8 at D_⊢;obtain⟨pS,dS,cS,eS⟩:=V3 (q:={k,a,ps,wy,ev,2,f,h}) R_.2 ho rfl hf hh;have rl:=y8 (rows:=C) (λr hr=>hA.an.rg.1 r<|mC r hr) λr hr=>hA.an.ky r<|mC r hr;have same:∀{S':aw}{p1 p2:Addr}{neg:Bool}{R':KD},St t S2 a (Fl lk k pa pb tM kn t {k,a,ps,wy,ev,2,f,h} C) F cs dl rs S'->S' p2=some (.lst<|C.map ak)->S' p1=some (.lst [Jo {k,a,ps,wy,ev,2,f,h},.ref p2])->R' (.bl<|!neg) S'->W9 neg (.ref p1) (.ref pb) S' R':=λ{S' p1 p2 neg R'} st h2 h1 q=>by have rd:EW S' (C.map ak) (C.map Mb):=DR λr hr=>hA.an.rg.1 r<|mC r hr;refine xJ (p:=.list [pS,.list<|C.map Mb]) (.ref h1<|.cons (dS _)<|.cons (.ref h2 rd) .nil) (.ref (st.at 3 rfl)<|.cons (dS _)<|.cons (.ref (st.at 2 rfl) rd) .nil) ?_ ?_ q;simp only[PyData.canLay0,PyData.canLayAll0,cS,rl.1,Bool.and_self];simp only[PyData.depth,PyData.depthAll];lia
 refine{λav S'=>∃o9 Sa Sb Se Ag Ah:Option D,av=[some<|.iU<|ns.map D.int,some<|.tup<|cs.map aD,some<|cu ps wy,some<|.ref a,some<|.ref lm,some<|.ref lk,some<|.ref k,some<|.ref pb,some<|.ref tM,o9,Sa,Sb,Se,Ag,Ah]/\St t S2 a (Fl lk k pa pb tM kn t {k,a,ps,wy,ev,2,f,h} C) F cs dl rs S',?_,?_};{refine !!!⟨λp2 lP=>{_,aa,?_}⟩;rw[mR];generalize cq ns (some 3) (some 23)=ls;have R8:St t S2 a (Fl lk k pa pb tM kn t {k,a,ps,wy,ev,2,f,h} C++[(p2,.lst<|ls.map D.int)]) F cs dl rs _:=D_.new lP<|.lst<|ls.map D.int;generalize S8.set p2 (.lst<|ls.map D.int)=S9 at R8⊢;refine{λi av S'=>∃o9 Sa Sb Se Ag Ah:Option D,av=[some<|.iU<|ns.map D.int,some<|.tup<|cs.map aD,some<|cu ps wy,some<|.ref a,some<|.ref lm,some<|.ref lk,some<|.ref k,some<|.ref pb,some<|.ref tM,o9,Sa,Sb,Se,Ag,Ah]/\St t S2 a (Fl lk k pa pb tM kn t {k,a,ps,wy,ev,2,f,h} C++[(p2,.lst<|ls.map D.int)]) F cs dl rs S',{_,_,_,_,_,_,rfl,R8},λi av S' ⟨_,_,_,_,_,_,_,st⟩=>st.at 5 rfl,?_,?_};{rintro i x av SA hx ⟨o9,Sa,Sb,Se,Ag,Ah,rfl,JP⟩;have hx:(ls.map D.int)[i]?=some x:=hx;obtain⟨c,_,rfl⟩:=zj.mp<|zI hx;refine !{c,6,rfl,by decide,λxs lx Qz hx Es=>?_};have QY:=JP.new Es<|.lst<|xs.map D.int;generalize SA.set lx (.lst<|xs.map D.int)=SB at QY⊢;have at_:∀j:Nat,j<6->∃x:Int,kJ (xs.map D.int) ((j:Nat):Int)=some (.int x)/\0<=x:=λj hj=>rM (by lia) (by rw[zc];lia) hx;obtain⟨x0,e0,_⟩:=at_ 0 (by decide);obtain⟨x1,e1,_⟩:=at_ 1 (by decide);refine !{gJ,mD,λla Ml=>?_};have NQ:=QY.new Ml<|.lst [cu ps wy,ev,.int 3];change St t S2 a _ F cs dl rs (SB.set la<|.lst [cu ps wy,.tup [.str "every"],.int 3]) at NQ;generalize SB.set la (.lst [cu ps wy,.tup [.str "every"],.int 3])=SC at NQ⊢;refine{rC,λlw hlw=>?_};have stA:=NQ.new hlw<|.lst [];generalize SC.set lw (.lst [])=SD at stA⊢;refine{λav S'=>∃(wf:Nat->Bool) (af:Nat->D) (Ag:Option D),av=[some<|.iU<|ns.map D.int,some<|.tup<|cs.map aD,some<|cu ps wy,some<|.ref a,some<|.ref lm,some<|.ref lk,some<|.ref k,some<|.ref pb,some<|.ref tM,some<|.int c,some<|.ref lx,some<|.ref la,some<|.ref lw,Ag,Ah]/\St t S2 a (Fl lk k pa pb tM kn t {k,a,ps,wy,ev,2,f,h} C++[(p2,.lst<|ls.map D.int)]++[(lx,.lst<|xs.map D.int)]++[(la,.lst [af 0,af 1,af 2])]++[(lw,.lst<|sL wf 3)]) F cs dl rs S'/\Aq S' cs ps wy wf af,?_,?_};{refine{3,rfl,by decide,by decide,?_};refine{λi av S'=>∃(wf:Nat->Bool) (af:Nat->D) (Ag:Option D),av=[some<|.iU<|ns.map D.int,some<|.tup<|cs.map aD,some<|cu ps wy,some<|.ref a,some<|.ref lm,some<|.ref lk,some<|.ref k,some<|.ref pb,some<|.ref tM,some<|.int c,some<|.ref lx,some<|.ref la,some<|.ref lw,Ag,Ah]/\St t S2 a (Fl lk k pa pb tM kn t {k,a,ps,wy,ev,2,f,h} C++[(p2,.lst<|ls.map D.int)]++[(lx,.lst<|xs.map D.int)]++[(la,.lst [af 0,af 1,af 2])]++[(lw,.lst<|sL wf i)]) F cs dl rs S'/\Aq S' cs ps wy wf af/\∀j,i<=j->wf j=false,?_,λ_ _ _ _=>trivial,?_,?_};exact{λ_=>false,λj=>if j=0 then cu ps wy else if j=1 then ev else .int 3,_,rfl,stA,{λj z=>(nomatch z),λ_=>rfl,λ_=>rfl,λ_=>rfl},λ_ _=>rfl};{rintro i x av SE hy ⟨wf,af,Ag,rfl,JQ,hq,hw⟩;have hy:(gD 0 (3:Int).toNat)[i]?=some x:=hy;obtain⟨hi,rfl⟩:=eQ hy;have hi:i<3:=hi;have hX:=JQ.at 6 rfl;obtain⟨xj,ej,_⟩:=at_ (2+i) (by lia);rw[Int.zero_add];have next:∀{S'},Sub SE S'->∃(wf:Nat->Bool) (af:Nat->D) (Ag:Option D),[some<|.iU<|ns.map D.int,some<|.tup<|cs.map aD,some<|cu ps wy,some<|.ref a,some<|.ref lm,some<|.ref lk,some<|.ref k,some<|.ref pb,some<|.ref tM,some<|.int c,some<|.ref lx,some<|.ref la,some<|.ref lw,some<|.int ((i:Nat):Int),Ah]=[some<|.iU<|ns.map D.int,some<|.tup<|cs.map aD,some<|cu ps wy,some<|.ref a,some<|.ref lm,some<|.ref lk,some<|.ref k,some<|.ref pb,some<|.ref tM,some<|.int c,some<|.ref lx,some<|.ref la,some<|.ref lw,Ag,Ah]/\St t S2 a (Fl lk k pa pb tM kn t {k,a,ps,wy,ev,2,f,h} C++[(p2,.lst<|ls.map D.int)]++[(lx,.lst<|xs.map D.int)]++[(la,.lst [af 0,af 1,af 2])]++[(lw,.lst<|sL wf<|i+1)]) F cs dl rs S'/\Aq S' cs ps wy wf af/\∀j,i+1<=j->wf j=false:=λsb=>{wf,af,_,rfl,by rw[V5<|hw i<|zo _];exact JQ.sub sb,hq.sub sb,λj hj=>hw j<|by lia};have cb:∀d∈[D.int 1,.int 2,.int 4],∃m:Int,d=.int m/\GK x1 m:=λd hd=>(by simp only[zf,zD,or_false]at hd;rcases hd with h|h|h;exact{1,h,by decide,by trivial};exact{2,h,by decide,by trivial};exact{4,h,by decide,by trivial});refine' aaG (λbody=>?_) ?_;rotate_left;{refine !{_,_,hX,e0,by decide,_,rfl,_,rfl,bB (λ_=>body) λ_=>?_};refine !{_,_,hX,e1,mD,λpz hpz=>!⟨dR (by lia) (by show((i:Nat):Int)<3;lia) hpz λd hd=>?_⟩};obtain⟨m,rfl,hm⟩:=cb d hd;exact{hm,by decide,_,rfl,bB (λ_=>body) λ_=>next (.refl _)}};refine !!!!{_,_,hX,by rw[show(2:Int)+((i:Nat):Int)=((2+i:Nat):Int) by lia];exact ej,cs,ps,wy,i,xj,rfl,R_,ho,hi,λd SF sb hbd=>?_};have stC:=JQ.sub sb;have hLa:=stC.at 7 rfl;refine !!{la,_,_,i,rfl,rfl,hLa,(V6 af d i hi).2,?_};rw[(V6 af d i hi).1];have Sf:=stC.put 7 rfl<|.lst [if 0=i then d else af 0,if 1=i then d else af 1,if 2=i then d else af 2];have hLw:=Sf.at 8 rfl;refine{_,rfl,{rfl,_,hLw},_,rfl,lw,_,_,rfl,rfl,hLw,bg<|zL (Jx wf i)<|by lia,?_};refine{λj=>if j=i then true else wf j,λj=>if j=i then d else af j,_,rfl,?_,Aq.cell hLw<|Aq.cell hLa<|(hq.sub sb).put hbd,λj hj=>?_};rw[Rb];exact Sf.put 8 rfl<|.lst<|sL wf i++[.int ((i:Nat):Int)];show(if j=i then true else wf j)=false;rw[if_neg<|by lia];exact hw j<|by lia};rintro av S' ⟨wf,af,Ag,rfl,JQ,hq,_⟩;exact fo {wf,af,_,rfl,JQ,hq}};rintro av SE ⟨wf,af,Ag,rfl,JQ,hq⟩;obtain⟨⟨qa0,o0⟩,⟨qa1,o1⟩,⟨gt2,o2⟩⟩:=hq.of hg ho;refine !!!⟨{k,a,ps,wy,ev,2,f,h},la,0,af 0,af 1,af 2,cs,F,dl,rs,_,rfl,JQ.at 7 rfl,JQ.at 1 rfl,hg,qa0,qa1,gt2,JQ.sh,.inl ⟨rfl,rfl⟩,λp SF sb hp=>?_⟩;rw[o0,o1,o2]at hp;have stC:=JQ.sub sb;refine !{_,stC.at 8 rfl,?_};refine comp_map wdD (stC.at 8 rfl) (by show(sL wf 3).length<=_;exact zL (Jx wf 3)<|by decide) (λd hd Q hQ=>?_) λpc hpc=>?_;obtain⟨j,hj,rfl⟩:=zj.mp hd;have hj:=zT.mp (yi.mp hj).1;exact !!{_,_,stC.at 4 rfl,NP hj,hQ};rw[show({sL wf 3,λS=>ug S (.ref lw)<|sL wf 3}:vg).xs=sL wf 3 from rfl,Rh];refine !{_,aa,λpz hpz=>?_};rw[aaH,Q_];have s1':=(Sub.new (c:=.lst<|((List.range 3).filter wf).map λj=>D.str<|wd j) hpc).trans<|Sub.new (c:=.lst<|Cp (!wf 0) (!wf 1)<|!wf 2) hpz;refine rQ (s1' _ _ hp) aa (Mp _ _ _) !⟨bY ?_⟩;have Sf:=stC.sub s1';have sEG:=sb.trans s1';generalize (SF.set pc<|.lst<|((List.range 3).filter wf).map λj=>D.str<|wd j).set pz (.lst<|Cp (!wf 0) (!wf 1)<|!wf 2)=SG at Sf sEG⊢;refine{λav S'=>∃Ah:Option D,av=[some<|.iU<|ns.map D.int,some<|.tup<|cs.map aD,some<|cu ps wy,some<|.ref a,some<|.ref lm,some<|.ref lk,some<|.ref k,some<|.ref pb,some<|.ref tM,some<|.int c,some<|.ref lx,some<|.ref la,some<|.ref lw,Ag,Ah]/\Sub SG S',?_,?_};refine{fz,_,.inl rfl,?_};refine{λi av S'=>∃Ah:Option D,av=[some<|.iU<|ns.map D.int,some<|.tup<|cs.map aD,some<|cu ps wy,some<|.ref a,some<|.ref lm,some<|.ref lk,some<|.ref k,some<|.ref pb,some<|.ref tM,some<|.int c,some<|.ref lx,some<|.ref la,some<|.ref lw,Ag,Ah]/\Sub SG S',!⟨.refl _⟩,λ_ _ _ _=>trivial,?_,?_};rintro i x av SH hy ⟨Ah,rfl,AB⟩;obtain⟨m,hm,rfl⟩:∃m:Nat,(m=1\/m=2)/\x=.int ((m:Nat):Int):=(by have:=zI hy;simp only[zf,zD,or_false]at this;rcases this with rfl|rfl;exact{1,.inl rfl,rfl};exact{2,.inr rfl,rfl});have Mr:=Sf.sub AB;have sEH:=sEG.trans AB;refine !!⟨.inl {_,Mr.at 8 rfl,rfl,Mn wf 3,?_}⟩;rw[V4 wf hm];refine{_,rfl,bB (λXo=>?_) λ_=>bY !⟨AB⟩};have Xo:wf m=true:=Xo;refine !!!!⟨{k,a,ps,wy,ev,2,f,h},la,m,af 0,af 1,af 2,cs,F,dl,rs,[.str<|wd m],rfl,Mr.at 7 rfl,Mr.at 1 rfl,hg,qa0.sub sEH,qa1.sub sEH,gt2.sub sEH,Mr.sh,.inr ?_,λp SI Et hp=>?_⟩;rcases hm with rfl|rfl;exact .inl {rfl,by rw[o1,Xo];rfl,rfl};exact .inr {rfl,by rw[o2,Xo];rfl,rfl};refine !!{_,_,(Mr.sub Et).at 4 rfl,NP<|by lia,gJ,λpq hpq=>rQ ((Sub.new hpq) _ _ hp) aa (λd hd=>?_) !⟨bY !⟨(AB.trans Et).trans<|.new hpq⟩⟩};rw[zu.mp hd];exact(Ly.str<|V7 m).le (by decide);rintro av S' ⟨Ah,rfl,AB⟩;exact fo !⟨AB⟩;rintro av SH ⟨Ah,rfl,AB⟩;have Mr:=Sf.sub AB;have Xp:=Mr.at 1 rfl;refine !{k,_,rfl,Xp,rfl,{k,a,ps,wy,ev,2,f,h},rfl,Xp,_,rfl,k,_,rfl,Xp,rfl,{k,a,ps,wy,ev,2,f,h},cs,y.2,rfl,Xp,qs Mr,hf,hh,λA' NR hA' aaN=>?_};obtain rfl:=hA.one hg ho.pin hA';dsimp only;rw[Af,hC];have stF:=Mr.sub<|Sub.new (c:=.lst<|C.map ak) aaN;have h2:(SH.set NR<|.lst<|C.map ak) NR=some (.lst<|C.map ak):=aa;generalize SH.set NR (.lst<|C.map ak)=SJ at stF h2⊢;refine{fz,λpb' V8=>!⟨?_⟩};have stG:=stF.sub<|Sub.new (c:=.lst [Jo {k,a,ps,wy,ev,2,f,h},.ref NR]) V8;have h2:=(Sub.new (c:=.lst [Jo {k,a,ps,wy,ev,2,f,h},.ref NR]) V8) _ _ h2;have h1:(SJ.set pb'<|.lst [Jo {k,a,ps,wy,ev,2,f,h},.ref NR]) pb'=some (.lst [Jo {k,a,ps,wy,ev,2,f,h},.ref NR]):=aa;generalize SJ.set pb' (.lst [Jo {k,a,ps,wy,ev,2,f,h},.ref NR])=SK at stG h2 h1⊢;have stH:St t S2 a (Fl lk k pa pb tM kn t {k,a,ps,wy,ev,2,f,h} C++[(p2,.lst<|ls.map D.int)]) F cs dl rs SK:=stG.less (stG.nd.sublist<|((List.sublist_append_left _ _).trans<|(List.sublist_append_left _ _).trans<|List.sublist_append_left _ _).map _) λx hx=>zS _<|zS _<|zS _ hx;have stI:St t S2 a (Fl lk k pa pb tM kn t {k,a,ps,wy,ev,2,f,h} C) F cs dl rs SK:=stH.less (stH.nd.sublist<|(List.sublist_append_left _ _).map _) λx hx=>zS _ hx;exact same stI h2 h1 !⟨bY {_,_,_,_,_,_,rfl,stH}⟩};rintro av S' ⟨o9,Sa,Sb,Se,Ag,Ah,rfl,st⟩;exact fo {_,_,_,_,_,_,rfl,st.less (st.nd.sublist<|(List.sublist_append_left _ _).map _) λx hx=>zS _ hx}};rintro av S9 ⟨o9,Sa,Sb,Se,Ag,Ah,rfl,JP⟩;obtain⟨ld,lr,ra,hhh,_,_⟩:=id JP.sh;have hrl:=hb.ri.len JP.sh;refine !{a,_,rfl,hhh.ins,rfl,{a,F,cs,dl,rs,.ao,rfl,JP.sh,by lia,lI,λi ss hi hp hs p6 hp6=>?_,λh=>by cases h}};cases hi;have sb8:=Sub.new (c:=.lst<|eI rs ((dl.length:Nat):Int) ss) hp6;have hp8:(S9.set p6<|.lst<|eI rs ((dl.length:Nat):Int) ss) p6=some (.lst<|eI rs ((dl.length:Nat):Int) ss):=aa;generalize S9.set p6 (.lst<|eI rs ((dl.length:Nat):Int) ss)=SA at sb8 hp8⊢;have QY:=JP.sub sb8;refine !{cs,lk,kn,rfl,QY.at 0 rfl,hb.ki,λs2' p9 lP uQ hp9=>?_};rw[I_ hb.ri hb.st.sh hb.ki hp hs lP uQ,<-ko lP]at hp8;refine rQ ((Sub.new hp9) _ _ hp8) aa (by rw[ko lP];exact QR hb.ki lP) !⟨cw ?_⟩;have NQ:=QY.sub<|Sub.new (c:=.lst<|(gu kn s2').map ak) hp9;generalize SA.set p9 (.lst<|(gu kn s2').map ak)=SB at NQ⊢;have hkB:=NQ.at 1 rfl;exact !{k,_,rfl,hkB,rfl,{k,a,ps,wy,ev,2,f,h},rfl,hkB,_,rfl,_,_,NQ.at 3 rfl,rfl,xJ (dS _) (dS _) cS (zL eS<|by decide) {S,s2.trans NQ.FW.sub,q}}
def Jz(t:eZ)(K:Frag):Sp:=λvs H Q _=>qL K (Jy t) vs H Q E0
theorem Ri(T:Txt w K mg t)(B:Bm mg base):bD P w K mg base Wy 20 t.Nj t.HP ["_law_script"] (Jz t K):=bD.calm<|Mq T B
theorem JA{w:World}{K:Frag}{mg:Str->Option Value}{t:eZ}(T:Txt w K mg t){H:Hp}{a:Addr}{ns:List Int}(hl:ns.length<=63)(hO:xG t.ts H)(hS:jd K H a<|ns.map V.int):Jz t K [.ref a] H (λv _=>v=.bl true) λ_ _ _=>False:=by
 have hR:MS K H a (ns.map V.int):=by rcases hS with (h|h)|h;rcases hO.all a with q|⟨o,xs,q⟩|⟨_,q⟩;rw[q]at h;cases h;rw[q]at h;cases h;rw[q]at h;cases h;exact .inl h;exact .inr h
 have LI:t.aI≠t.aO:=λe=>by have:=T.np;rw[e]at this;simp at this
 have tok:∀q,CT H q #[]:=λq=>{trivial,λ_ _ e=>by cases e};refine{[.iU<|ns.map D.int],λb=>if b=t.aO then some (.tab qK) else if b=t.aI then some (.tab qV) else none,λd _=>d=.bl true,λ_ _=>False,aT (G_ hR<|CQ ns) bh,λb c e=>?_,{ns,rfl,hl,{if_pos rfl,(if_neg LI).trans<|if_pos rfl},rfl},λd S v H' e r _ _=>by subst e;exact r.bl,λ_ _ _ z=>z.elim};by_cases h1:b=t.aO;have e:=(if_pos h1).symm.trans e;cases e;rw[h1];exact{#[],hO.tab _ T.mq,tok _};by_cases h2:b=t.aI;have e:=(if_neg h1).symm.trans e;have e:=(if_pos h2).symm.trans e;cases e;rw[h2];exact{#[],hO.tab _ T.kE,tok _};have e:=(if_neg h1).symm.trans e;have e:=(if_neg h2).symm.trans e;cases e
theorem Rj{P:Program}{w:World}{K:Frag}{mg:Str->Option Value}{fa:Addr}{ts:List Addr}(OX:mg "law"= some (.ref fa))(T:∃t:eZ,t.ts=ts/\Txt w K mg t):∃(fd:FuncData) (sp:Sp),(∀b∈ts,∃c,codeHdIn K c b=true)/\(∀(s:Shared) (u:Value),BindsTo s fd {[u],[]} [("_law_script",u)])/\(∀base:Heap,Bm mg base->K.In base->base.Ns mainGlobals mg->bD P w K mg base Wy 20 fa fd ["_law_script"] sp)/\∀(H:Hp) (a:Addr) (ns:List Int),ns.length<=63->xG ts H->jd K H a (ns.map V.int)->sp [.ref a] H (λv _=>v=.bl true) λ_ _ _=>False:=by obtain⟨t,et,T⟩:=T;have e0:=OX.symm.trans T.Z1.m;cases e0;subst et;exact{_,_,λb hb=>(T.ta b<|hb).elim (λe=>{_,e ▸ T.dM}) λe=>{_,e ▸ T.cR},T.bl,λbase B kb nb=>Ri T B,λH a ns hl hO hS=>JA T hl hO hS}
end My
end Tactic
open Tactic
local macro_rules|`(command|universe $xs*)=>do return Lean.mkNullNode (← (xs[0]!.getId.toString.foldl (fun (h,n,k,l) c=>let n:=n*62+(if c.isDigit then c.toNat-48 else if c.isUpper then c.toNat-55 else c.toNat-61);if k=9 then (h+n-10*62^9,0,0,l.push (h+n-10*62^9)) else (h,n,k+1,l)) (0,0,0,(#[]:Array Nat))).2.2.2.mapM fun v=>`(command|theorem $(Lean.mkIdent (.mkSimple s!"tw{v}")):ident : True:=trivial))
namespace PySem.W.Fast
universe DJGFYsHT9CDRAe8uHzC8Aiq4ndmD8jBmmgyOoPnOCKR0NO7TXDCyYKLXeVCVFAkbPGhSHTElqlxdz8mwAqA7AN1m3uBkwaTgNeHuG0pmrAx5lwCTG9Rdj1OyAnbTTWBR9aA900UamaFjALGVXrCuN1BLUxnnY6fWA435wKN7qtAD3ll4NRK0BGmSRBDdgeA5WWzZ6mLdBLe0WvEZdrAtEvQ4fFiEEP0V81fHmzAI7buDtA0uCHgoeEjGQQAfqCYdo544A6iUbhlQX6ANqoWZz1LMB8scdyP1isDDN0u8R1zVEvKfGtmxsDGSX9nmidKmBi3x4sWKCGCw0HmX83vdA8HeVXW1gXA2VpG7GmqyCt9KQM0GDkBSxpCmM5T5ACA5jwznx5BwuBTJUABvDo160ivDMeAA1pteZjWaBzma3sBga1BwNR3sWSWwARWQfxkUPUDjp86BPTWpCM7lslMmzoBWajYKyLebBuSGR0ZX6nC9ZF4Wk420EX76qet6qmDVIWZqyOaTBXEeBEOUB5C7FrRgfvnnALgxN01uySB15Yzeql8tA8hr01eMCFBuLDgC7aSDADHvlFrsx6CdINYlaqKICtecGExRmeBD3yOHvUwPA4HIHPTuyRAWx4Ed5MHbBWeIVx1D0qA7GUYjWf0bBf0RK30EkoAzIQqwdwwdBoGyocIqTiA9MC6sDRVFAAwwOMDHcDC6D1eEMKJVDkTa2EBpf6A6Si90rTpHCmRcBRLwy3AWfR5ekIOzAMyIW6Xn3zCo96Ph7TEUAUZEw2Mp1MA6u5q8mkDXC2MgvWq6aAAChknWbQhaA3tpKOXSx8APYEvbqZWkAIp20VpZifB57a1WTveAAHNj82Hqc3Aw7dYSvm4KCV2LSXeGsiAwohn80QDmCidZYkXxf6BFQQc4aOtMCwCVfMMu3CA9UC3X8KZbDITodV4aAaCBXcbozp9UDH1FEDbZ2QALJ7VRDwWJBzxTXpfumtBm2sYhm1JIAp9ZGeESVABCVPbMQOr6Bp8yOXucpLAZY61XBgG6BKA0D0HRMJBAyz4jRSUzDB0dD2LhsMCgAlFBCTHKAwE3BtiZwWB4TDITbbCyA1OscEZ8fTDcmuGb2l7KCL591wpNfwCp9P3YLDtkCwQ5cG6TRbCmhpQi0ZVGBIjF2pSMWBB3pfk8dEWSDqhancFV4HCJXnRz1ldxBReatWkhBcAaHpC2AvX7CjiggwLkU0AoDfuRVup6Av7zSYRYxnAhlvlN5TCGAhQOvwOWeOAGfcjpk9uaHNCSb8YUCXAVE1inNugvAA4Fcy56u3BiBxxYuKcDAKy3GuVMaOBy5PiG9a2NCegPQ1sMG8BdNTd23LbkA84v6LUYpJA32nmayQyyAnr6XtCUrIATzQofTbqmCqLqI86KdJB1AgIrJZiLEt1LnhFhpODqLwhSrOxBBWTHlAWpzABfWtOe5DQYCUuH9qfXPCAc7EtRHk18BSYMxvQa7tABgbjSvdUWA4xx5TG43gB5d63gzkX2IplNUVsGL2DpAjN82nVBAqPAzhdrhnAq0ynyolnOAvQNBx9w7PDZmnXXknDNCJWArK7PU8BUXWcLsIkHAP6St66S7pDM8qPDV248DVLddfBBpQCM5yFMX4fuAnhJ5QhdwcE9erYwsJDgAbOW9uhkAOAdPKrC9wvbA7H8YsacZdBrWHf0TXphBIVisw88YRA8yMNzcBBLAPZctfbYLIBSilnNu1HBBJsAIWvp3GAVNawowQUJAufaRzhbrpA3VKEy289kDzJ9qUaGopBEMpxiRen9BAn5KEV2MaAjKEOXqfhbBTDsH6CZB0AjyttCRcShAL8B7DT2XHCrAfn6s1RXC8z3L4sz3JAEhPAvYJxCDf9HLN1kgiBJYnusmZGQAJd1uVy0aHAp1PuSXsBnAkei915njACzYceFsCd2BuBh0lro0fApQVR4buASELyYGEZ13tAjnsrrrJdfAKpXhVfzr5BVJXQo65wQAl4jLO4calBBZbQMdssCAl25PtqAilAID0jxxNPmASuSrDazPIBTk3gBsx7XAVZmrqYakTEJ7UEt379IA2oCcSsVMaAUFGdlsTltBFnemE3SHUAcxRZ2YtXsAvxInBLwKNApIpk2u3K8A3czvrg5WNB0euKFc4PyAxfBiF18J5ANWyvTjGkLDWrGYD4ALHAiTnsw3RDsB1sM5yTSICAdvoxw6SrNBwKpmDIykIAmztOFLm1WAikSgqVN2eAV38S0CDgUB0Q4AmTRcrDXaDykxMOOB4n3nnQw3DAPtA2tuFCPBKjzObRuvWBOOyui2TrUAvgaKak6m1CzJ3xmM61sCVzzjyiQLbBcjwdBwUqxCgwuhhHnvvCVfiHqE9P9ABdteDqaqjApfKlBHOfdBb1XIL1yb6BNVuWbsxb2A3wr9GXJCkB7eulL1cJLAuyeViY3XmAsaHm60pg4AFU4ZKWt3qBw4fqDLK0AAGGxlAqDuGAaaUHHoKhMBZWSAssB9MBQSicoElpFDaegKWA0aAAcG2jJRXmaA2Kp9TCCHhDQSiH7rfVSACvDnJV7cVCHZejwqiW9Ajnk7Q8nqlB1wznKsMrlByV0EYVUSBBcDQpUtjU3ADVNUhT1mOADKSnxWX4NDSGGLnufixCR9xzCtainA7Fqh9MuaYAJs38qwYvtANpuqN6AIfHIOM1qAcBIA3wv1EzxDiCFxKuSEddZB753rN5Qt3Aabwt4n2EgAKTRjctazHB8T0CHJROYHCzz0vtLbDBH474kRy2oCAn8sAGB4sBVBVm6QGUpAZSPiU9owTCQGPJJxOyzAV43RtgNSPC1jDQrJwvvCh42jzc0PDEqKBaZHKDjAGZ8ThEc06AHRBCN8LVDB3ejXjSTJfB0xSPIX8rUAKEmgHlMT3AeJi5VdUHHA0w0oI6xuICeoI0JfUrQA3uGIAPFEGD5i0HJMT3LBb2v92i2MjDsfnPGisUjDh3t9sUx8eAYt8ayeFrPBuRszfiQbhAoO77KJTWxA73Lgdg19iAgvt1PJIjlFZAY6QZs8sBDNwVWmSsLAd2CX0iCi2BTHwM41pfNFl6WDmBBdQA3xCVpagSPAruNpVTWvxA3rPyGNdtZAaeXFy25dnDmvSgU8oh5BhbDqvYiCXAKpawJ7ACmAMR4cDxWkCAlAWECUVHfEAfkomIAiNA5iYRt0TAQA8l1Xmik5ABR6YKzjN0wATTTrU3dbvBDZAZd1gcbDZZAq368w2APhTJot2sPAtNBNkN841CMDdPNiufRAEf7f2GDBpAbCHDLnpSlBcQFAIetDYCZ5yiP1o7rBncRRZdiJ2AVH31ROqffCdh8Pszx3zBD0gJibQT8BLbjLwa7DtBRpU5FJvIaAL0b3YmrDLAZ4HO14BDdB0t7SpIkRAHf9iToesb9ACMhGwfdzdBDHGOf6yRxA1bOSu3koyBfNACOXAudDAifn2XylWBW0tC95qbtAR2gfzQaMfBVVbilZV7YB3x2VOaIpMA7dQYh46dVBWxyIXCC1sA1ta12PuIoAUYWrDVtMXDdYDIA3MD9BcCnWctoPjA7dyMBd9UPCTjrG7eIgyB7jaC3bcy4Cev7PCaesVCRONakODj6GLNwTqQXnPEJKfydgeCEBweAuUYxLHA1eeyqITEOAWRSC6xgo9A03rwgXlZPALdFIZGSiNCLL90N73DyAkbccaQX3WBooy6kt7PAASSbEFFncICuXpHpa4hoCbsczz2LisBUAjmJVIkaAEtKpaG9GhAjXsQlh7P7C9JZL6BHBTAWVEzt9ki8AMM33lCSAxA960HmVMGUAoTO6eSFqVB9NSgqrSHfBDgLpmenpCBD5XjHRjrdCcS9qYusMsD333HBQghYAC1rwCde4LAM02Kwbp2cBJxvGvThDTCtrqW8auzxC26bCBwd6OAf3r8NgWu9Affe5IqqtRAxjdoyx76RBTI7KFjA7yB3Xqp3ap4TBIRUXPrVbXAUjxZo8q8aAkP6sbrvn0Bz3B3a1uizAW45pu7UZWBENiZMRnJpEHO5eyQDIxBmfdNMga1TATEKqK8Lo6Ath3uYsmTMAuIH0ebwf3AaPAYh39XCC0TRg32AeKADlonYZS0fA7nOJVFuK0Ccne7bjNMJAR2HXdgDaHCYZX63IkcGGJBodCSS3OCRWpgvab6VB2L50oLe9NB9xuJmj20dAp3m8eoM5QEI9LDtoX0EAahwfFwoJXCTYXHHvW0RBUCEVPW4yHA4lFIYH9DyG8vYGabtC7Ar1LRkf7itAnFfAMkhJ3E7nzSBLEVFCuGZVh3IcxCPHCWaqiYCA5zQPVrTbvCDsJk69HZAAW0Z3UsJEeATdtdXnGQyAvxup34faHAErwSoLYEqB34Zxtde0TAw6UCItDFsBqg0B4ZO5UAktQxJC8LOAuA2P7uWrqAQUOQs7nmGANxDCYov2rAC3EoPQYZBASQgbq5l5KCSa30svfgRAKA1YXILu0B3ttKLfmb0ApiwZJIvPIAZaT2FAHMjAKixmXsialA6bwilowJ3EL8v9Y3x6SABjGklawQNA07ebWNahBDULk9wiPKkGTdDqbB7cmAFYZXuG8SNBQv7E1hxtcBeon1rBn4gAbD48g5bklBIIoj4PFVaB2EhdCMNa3CNaHiCNBZxArvJkioo7NBAjBchb1e9AOU8ib99RcAFk39zNCryAymfyXUQXzBNoUOrF3nHCQdB0vbeqSAYiBWFaa7LBj3n8ZZkQ8ANQorTuElqA1oNWmPBbdAxxlrdjTm2ArlLAEVkJdBI7Ja6cYTVAoQ5pNgmIBBoQrVKgdgLCBh1DfWhYoDgnT6XCIxGBXVKWlMM4jBSqeFJTkqOGkZNqxnf4LBkIu86mVZIBedmA06CjjBuuVX0NXanC1LwOmvkqUAvZqca78VBBfaOl5EnHdAIp3szLQIDCIOOPVqZ9tA4YrV8zzkdA6hJ54BIGFAYtd2LO7gABaP5zWWvSHAGYVUxb2sbAie1tRCsBsCKA6VfKEQMAPxL7TbIq3CpJztTG5nMAPwtFlfRC6AZyzNQ5vdMAQenHeCNNsE6FCaxVnpwCF3IWHhm5LBpeqEZYKlvAxOM0NXvAaBra6gvXvrVC81J253KuPAGjSYXa9I0A00P7f4nyUAHThMXMjcuAvE1vJvogkFeUxwXK80QCwUDG2HaYRAiNLYhuWxmDCg8MpzEwyAKpoYV7aYLA0Hmk6gsOJCzcr6pUFzYC2reHqhNuLATI6GEWthKAN2wY9vYz0GRtXYw0bx8C35EeTAT8XAzK3c7pVAvCC1KhSTmcbAuynbiK8z5AkqEmGuwhtCNLsg23IdvAwbIAcI9R0BEa4CmIDrAAemccCdwi1A62ctDu7DFAiQWwoDtbPA9Lv9008GxCAbrlcVwM0AIoaRByOYcDPkVGPffJgA4Mg2FJS9GBUGceTxLOdGdbPEDUbUJAHv0jNYUFdB1Bj2SORoUABXU2zCM9lBV33OD4tblA6Nx3J9hVqA4FL78oCtzA0Ff6jU0WhAlK692sfMlAyktXu6QhBCQxIjHDRwVAUrkSn3e5RC1dQySPh4gAuJNJcLPnnCAzuwBsyKzB4GqghNKGbAIpwSvpikYAaNpasr0BJBIUdzSIYJuAeEgRpBOFyCPdaK7w5YNAiisfCYNPICDWoHuDBzfA88Mwiu3uxB26PvK3m1kAM60EfSAqkAu72ZmM9WvAC6FQeNlpLEiBL9Gm3eZDUXBRZ6ir2Ab6mTJQyD3ClSHrpnDiZCNprNC1eJ5B6KMFCvisaBE7F16Ju3jCWzdbjI7HsAdu061UlbGCZK5gfXXDaB534JUSHc2AybttlkmUrBuoCeVNYDYE8zJ1ZEXpIASeagKskvFCFH1AELvciBsUMzxpVNEBBZA7gtwH1A4msMI0aQSB1SClIGiD5BHef6MRLrUAvtqKOU6zqBA9l4zJNMLAkrcPZ7BwaFluzHooY2XA45q0rhLVuCEgDoK4uUTB01GDxDEkUAJKJv7rsJFD6e7IqmcIEBZSp9L7SqeBA0FnYXi4iBzZfMSzRKaC6HLQsKTviH26PuoPAzWAhD6N9W9h7CaIuMxL4plA9eC2uAkeZEegWOMf0FmAoiutv4VkzCviK3GzMPVEWqIBANAFBCEc92mlO5KATYvSABALJB1fGsBmktyA5F1jdKRr8AJo6ts7gpSAB0r3iG95RBhfEioKXS7Afih7ym2SUA5fWZFmRy6A0IKNn5IvMBdA2rYVRRUCuaAI91qrcCScOYfH6yyAMhdVr2HhbB1FNbD5HgIB3ieJTikJ7CoGE6aXzsnAhYos1GuNkAsbcDciKiYAzTmJc3G61C9Mh86icPPFOkaHO8JKGB74mgfnJrpBLDk4H9tQ8AN4O7SGI46B9wtm9TnSHH61Y7FLSfqFpSd0PdtwmAFFiJa5mK0DEgzLHnqU2ABNj6t8FPRDur4vtnUvyC2eFbE6nklAmAINvoyldC6MyuC0GHfBB2brNOu82DHDXXJerZYBN8pLHpWyzEKijvrL1HkBkqIeZfDBpBTPLjqjX3jBHdoplLh76AgUZJVwZBGE8cuvlRMDvASTY7tdO2UDx7jDUZ3IBCHamh8rbSnBpxBGt2IM3CAEsHbp13cDDh70H6M6fAiddzZpdjSH2LZeDjwklDjKV0y2FJhAtNpH7FJ0XD3RzkWl2HBA5PSY2PeR9B4WgJzF2YQAldqCrZW8rCMyyXR8dWXA530tTbEbJBph9qO314EAZMB3mz5DRDoGiokWNwsAnN0nroHeVEaJ3jYC3MWAXnRBAe680AgM1P4AHfsAEPIl3nS4dA6YEc3Bh3hALgosd8LnUA6DpunrrcpAQkFHzkiyxALO7DSmjnUEQHTRp7nLMAhHI0t8IwRA10VQ907rHBHLB7rFOJ6AG4Weimj60A38IdOzuGzCQwQbFe4Z6BmgCgPpZzEApKaM6zf12ASN0tfGVSUAkMGU805WkBVDHKSpfsYAqi2lwNjP5BzWSBdlU8qAvK4gxWsJjCJEpi5KNcTAVdLrZaoOhDWvMt0RrhGEMcng3TqGbBA2hpXjMoeAdhW4vfEcJAs7M8E1kJvEty8jsxiGRBR3X7GMUIyA6RiXW1rLLC8Oot6v420AOCqAKzyzxBD8JU2bZsTBCc8KaosfmAC6eLYVR0jCk0hCiVitLAyJ0OM0RJhAL2ifxuuBcBFMap8IqjdB6aqbHlc04AHvBbB6ssPAMeYVrMXmJAYxZuqYL6nBmNBdlShy8AjJxOxdKlSAKSkgroQXpA3wgSHTkIeAz8WVFMBVZAY8nKcKykeARLS51y7WkAThUf1GvumChLIna4j8hAWvev1lsuHAJ7h31nAGJBRqdUN2U2CBtDtfxD28TDPpPnvyEn8ATHFMNfVGcCijKYTAcVcA6m91WeBsVAzLkuDI9CVBCWVSI0dpQAyPHkYIkhAAveCA4omlhANfEeZuaOzA9HXIrhmSOAA3uArdfCLBj3PWRxunEJ166uuHe5aCSZ40kIXDdCDnc72fJhSA3DbXHiHfJATaDERDIx7ApbkDnl7cQDlFPPDx8LtAqNMO5R6h7B8XSLsnxuGD7EDGoqDwfAropf5s0STAu4ekJzPSJASaD1CnlevByVfGILL0RAIWHtyPhqLA8lmoK4xziAfsStVQvEQAEN0JST3zgBr5hHKI53ZAfM5ncubJUA6YwKPTvkkCL48LnPsi3AcBPrKDMsABqtFNQrCSJALAKuxp99WA5fOL4yGzSBXXg2F664CADEHOU9DnzAtO4m7ZMwuC8Ty263OTlIhHojL54yqADGlnSk1XXBZ7DBJQCprAJAdMMhX3MB3hptPO31cCovwZKBmDACGv9vp6jkRBirGcjnoCuDAxtVpbboWDjXHPxjU3CERyZQ43iotBKuStsX6FiBAmy7VETKmAL7du8ElUuA9ZgHpuWYCARlrmpb47MA8OFGO4EMKAUGBoLwQ8uBxFTG75pqlDCnGx8Oh31Bi116NN7KtAVKudByrEoDmUzIBYzMRDoxMGv1AYmEdlmVUpGKdAg4OT3zBVGABhaSb8kcEAftqV1EyN6BO2kIhum4gAL8IAZtVcwBFuYBMLTJVA3gunEyVN1Cyh5KP5QyyAkuHAmqBFUADLBiojmrSADbLfZPif6Cc683HkLumCWZOomgvXrBUwo5nqF2cAzYpL2mtOYC7lb136o24AJokrdxN3VAQi8qIhLX7C3EVXDrwb6AGj28xpZBuAfVwKhRqZ5GNN7GFFMFLAnJfco1IIIAgEPHPHdQAArgcF1MsZqB4JpJrTaBIB6MNvvTaAxClSmBln1CWAi5xIvnU99AN7VuNouYhDQBycixSnHAtSYzuUjlmAEXhnr3XUaDInsDPKLrwAtisLDQFjcAPC1znAZU5C54ARdqvgmHpj3tUKbJpBjneOehYshAYroNTqh71A2x7dukuhQGLCMCCyju6BWbrzlFSUaE4Bfdxi7gvAmRqTGc7CgCURwWIG9WWAEHFc55VOQBtMWcGGWV1CGhsEgfE7DADAicOQEU2CVlFvaPiWpAlG0a6gjjlBfrJnFNoO1Ab95pGeizXBoqoJnj7l5CrOKxYmaSVBSqTagNw8YB905LSgmweB98IaoCs20BRdf2zD32zCOkf7vv4RUBzSkmmX8fOACiht9gXe5BUg16JhPQ8BVqh2llnl7AyP8EJ3GHcCabyW7c8C4BGvR1gWY1AB44g0uuMsZAzoBVcpIJaB5y985szd3C0EBnet2NKAbx7aNSHdb
end PySem.W.Fast
open PySem PySem.W PyProof.Rows
set_option maxRecDepth 100000 in
set_option maxHeartbeats 0 in
theorem PySem.Challenge.cw_pageturns_k42_walks_refused_holds : PySem.Challenge.rw_pageturns_k42_walks_refused.Holds := by
 w_on;o_law;k_head;(case hw=>w_witness2)
 k_fill
 refine L2.HH (l:=PySem.Challenge.rw_pageturns_k42_walks_refused) (n:=63) (k:=20) (x := "_law_script") (CX:=L2.Wy) rfl (by decide) rfl ⟨rfl,by decide,by decide⟩ (fun w h Y=>PySem.W.km_in_of Y) (fun w h Y=>PySem.W.km_tabs_of Y) (fun w h Y=>L2.Lo Y (by trivial)) ?tF fun _ _ _ _ z=>z
 intro w mg fa h KX G OX
 refine My.Rj OX ?_
 refine' L2.gvc KX G "Walk" ?a1 ?b1 ?c1 ?d1 ?e1 ?f1 ?g1 fun Rk aF Rl k_Walk=>?z1
 (case a1|b1|c1|d1|e1|f1|g1=>k_is)
 refine' L2.gvc KX G "Shelf" ?a2 ?b2 ?c2 ?d2 ?e2 ?f2 ?g2 fun Ms aj Mt k_Shelf=>?z2
 (case a2|b2|c2|d2|e2|f2|g2=>k_is)
 refine' L2.afx KX G (l:=[17,18,19,20,21,22,23,24,25,26,29,30,31,32,33,34,35,40,41,42,43,44,45,46,52,53,54,55,56,57,58,60,61,62,64,68,69,70,71,72,73,74,81,83,84,85,86,87,88,89,90,91,92,93,94,95,96,97]) (top:=My.top) ?xF fun f0 g0 A0=>?zF
 case xF =>
  repeat' (refine' L2.af KX G _ (by decide) ?a ?b ?c ?d ?e ?_;(case a|b|c|d=>k_is);(case e=>first|exact L2.RV fun _=>rfl|exact L2.ln2 fun _ _=>rfl|exact L2.RW fun _ _ _=>rfl|exact L2.W7 fun _ _ _ _=>rfl|exact L2.W8 fun _ _ _ _ _=>rfl|exact L2.ZP fun _ _ _ _ _ _=>rfl|exact L2.W6 rfl))
  exact L2.af0
 refine' L2.amx aF (l:=[0,1,5,7,8,9,10,11,12,13,14]) (q := "Walk.") (cl:=My.fb) ?xMWalk fun HQ acv JB=>?zMWalk
 case xMWalk =>
  repeat' (refine' L2.am aF _ (by decide) ?a ?b ?c ?d ?f ?e ?_;(case a|b|c|d|f=>k_is);(case e=>first|exact L2.RV fun _=>rfl|exact L2.ln2 fun _ _=>rfl|exact L2.RW fun _ _ _=>rfl|exact L2.W7 fun _ _ _ _=>rfl|exact L2.W8 fun _ _ _ _ _=>rfl|exact L2.ZP fun _ _ _ _ _ _=>rfl|exact L2.W6 rfl))
  exact L2.am0
 refine' L2.amx aj (l:=[0,1,2,3,4,5,6,7,8,13]) (q := "Shelf.") (cl:=My.a_) ?xMShelf fun BH aaR Cs=>?zMShelf
 case xMShelf =>
  repeat' (refine' L2.am aj _ (by decide) ?a ?b ?c ?d ?f ?e ?_;(case a|b|c|d|f=>k_is);(case e=>first|exact L2.RV fun _=>rfl|exact L2.ln2 fun _ _=>rfl|exact L2.RW fun _ _ _=>rfl|exact L2.W7 fun _ _ _ _=>rfl|exact L2.W8 fun _ _ _ _ _=>rfl|exact L2.ZP fun _ _ _ _ _ _=>rfl|exact L2.W6 rfl))
  exact L2.am0
 refine' L2.ZO KX G "sorted_by_keys" (My.top 63) ["rows","way"] ?a3 ?b3 ?c3 ?d3 ?e3 fun d0 e0 B0 F0=>?z3
 (case a3|b3|c3|d3=>k_is)
 (case e3=>exact L2.ln2 fun _ _=>rfl)
 refine' L2.ZO KX G "sorted_by_values" (My.top 65) ["columns","part","rows"] ?a4 ?b4 ?c4 ?d4 ?e4 fun d1 e1 B1 F1=>?z4
 (case a4|b4|c4|d4=>k_is)
 (case e4=>exact L2.RW fun _ _ _=>rfl)
 refine' L2.ZO KX G "law" (My.top 98) ["_law_script"] ?a5 ?b5 ?c5 ?d5 ?e5 fun d2 e2 B2 F2=>?z5
 (case a5|b5|c5|d5=>k_is)
 (case e5=>exact L2.RV fun _=>rfl)
 refine' L2.fmd aj "worths_at" "Shelf.worths_at" ((L2.inClass My.a_ 9)) ["self","key","moment"] ?a6 ?b6 ?c6 ?d6 ?e6 ?f6 ?g6 ?h6 fun d3 F3 D3=>?z6
 (case a6|b6|c6|d6|e6|f6=>k_is)
 (case g6=>intro s us t;revert us;exact L2.RW fun _ _ _=>.of_defaults rfl t rfl rfl rfl)
 (case h6=>intro s us t;revert us;exact L2.ZR fun _ _=>.of_defaults rfl t rfl rfl rfl)
 refine' L2.fmd aj "all_at" "Shelf.all_at" ((L2.inClass My.a_ 10)) ["self","moment"] ?a7 ?b7 ?c7 ?d7 ?e7 ?f7 ?g7 ?h7 fun d4 F4 D4=>?z7
 (case a7|b7|c7|d7|e7|f7=>k_is)
 (case g7=>intro s us t;revert us;exact L2.ln2 fun _ _=>.of_defaults rfl t rfl rfl rfl)
 (case h7=>intro s us t;revert us;exact L2.ZQ fun _=>.of_defaults rfl t rfl rfl rfl)
 refine' L2.Lz KX G "MOST_NAME_SIGNS" 8 ?a8 fun mV=>?z8
 (case a8=>k_is)
 refine' L2.Lz KX G "MOST_KEY_SIGNS" 12 ?a9 fun oi=>?z9
 (case a9=>k_is)
 refine' L2.Lz KX G "MOST_WORD_SIGNS" 40 ?a10 fun mW=>?z10
 (case a10=>k_is)
 refine' L2.Lz KX G "MOST_COLUMNS" 8 ?a11 fun sF=>?z11
 (case a11=>k_is)
 refine' L2.Lz KX G "MOST_PARTS_orders" 8 ?a12 fun kH=>?z12
 (case a12=>k_is)
 refine' L2.Lz KX G "MOST_DEEP" 8 ?a13 fun Ai=>?z13
 (case a13=>k_is)
 refine' L2.Lz KX G "MOST_PARTS_sieves" 200 ?a14 fun kI=>?z14
 (case a14=>k_is)
 refine' L2.Lz KX G "MOST_IN_A_TUPLE" 8 ?a15 fun mX=>?z15
 (case a15=>k_is)
 refine' L2.Lz KX G "MOST_ROWS" 1000 ?a16 fun Aj=>?z16
 (case a16=>k_is)
 refine' L2.gvs KX G "START" "start" ?a17 fun Mu=>?z17
 (case a17=>k_is)
 refine' L2.gvs KX G "END" "end" ?a18 fun V9=>?z18
 (case a18=>k_is)
 refine' L2.W5 KX G "KINDS" ?a19 ?b19 fun Mv w_KINDS=>?z19
 (case a19|b19=>k_is)
 refine' L2.W5 KX G "OTHER_WAY" ?a20 ?b20 fun Al w_OTHER_WAY=>?z20
 (case a20|b20=>k_is)
 refine' L2.W5 KX G "OTHER_END" ?a21 ?b21 fun Am w_OTHER_END=>?z21
 (case a21|b21=>k_is)
 refine' L2.W5 KX G "LENGTHS" ?a22 ?b22 fun FK w_LENGTHS=>?z22
 (case a22|b22=>k_is)
 refine' L2.xI KX G "len" ?a23 fun V_=>?z23
 (case a23=>k_is)
 refine' L2.xI KX G "all" ?a24 fun Wa=>?z24
 (case a24=>k_is)
 refine' L2.xI KX G "any" ?a25 fun Wb=>?z25
 (case a25=>k_is)
 refine' L2.xI KX G "isinstance" ?a26 fun wB=>?z26
 (case a26=>k_is)
 refine' L2.xI KX G "range" ?a27 fun Mw=>?z27
 (case a27=>k_is)
 refine' L2.xI KX G "int" ?a28 fun Wc=>?z28
 (case a28=>k_is)
 refine' L2.xI KX G "str" ?a29 fun Wd=>?z29
 (case a29=>k_is)
 refine' L2.xI KX G "bool" ?a30 fun Rm=>?z30
 (case a30=>k_is)
 refine' L2.xI KX G "tuple" ?a31 fun Mx=>?z31
 (case a31=>k_is)
 refine' L2.xI KX G "list" ?a32 fun Rn=>?z32
 (case a32=>k_is)
 refine' L2.xI KX G "dict" ?a33 fun Ro=>?z33
 (case a33=>k_is)
 refine' L2.xI KX G "set" ?a34 fun We=>?z34
 (case a34=>k_is)
 refine' L2.xI KX G "zip" ?a35 fun Wf=>?z35
 (case a35=>k_is)
 refine' L2.xI KX G "sorted" ?a36 fun JC=>?z36
 (case a36=>k_is)
 refine' L2.xI KX G "min" ?a37 fun Wh=>?z37
 (case a37=>k_is)
 refine' L2.xI KX G "max" ?a38 fun Wi=>?z38
 (case a38=>k_is)
 refine' L2.xI KX G "reversed" ?a39 fun Ct=>?z39
 (case a39=>k_is)
 refine' L2.LA KX G "PageError" ?a40 ?b40 fun gw jv=>?z40
 (case a40=>k_is)
 (case b40=>k_exc)
 refine' L2.LA KX G "BadColumns" ?a41 ?b41 fun wC dJ=>?z41
 (case a41=>k_is)
 (case b41=>k_exc)
 refine' L2.LA KX G "BadRow" ?a42 ?b42 fun JD gY=>?z42
 (case a42=>k_is)
 (case b42=>k_exc)
 refine' L2.LA KX G "BadOrder" ?a43 ?b43 fun bJ cy=>?z43
 (case a43=>k_is)
 (case b43=>k_exc)
 refine' L2.LA KX G "BadSieve" ?a44 ?b44 fun bK fO=>?z44
 (case a44=>k_is)
 (case b44=>k_exc)
 refine' L2.gvg KX G "BadPlace" ?a45 fun iO=>?z45
 (case a45=>k_is)
 refine' L2.LA KX G "BadSize" ?a46 ?b46 fun cj j7=>?z46
 (case a46=>k_is)
 (case b46=>k_exc)
 refine' L2.LA KX G "HasKey" ?a47 ?b47 fun JE rf=>?z47
 (case a47=>k_is)
 (case b47=>k_exc)
 refine' L2.LA KX G "NoKey" ?a48 ?b48 fun Mz vB=>?z48
 (case a48=>k_is)
 (case b48=>k_exc)
 refine' L2.LA KX G "NoMoment" ?a49 ?b49 fun Cu lC=>?z49
 (case a49=>k_is)
 (case b49=>k_exc)
 refine' L2.ZT KX bJ ?a50 ?b50 ?c50 fun jx=>?z50
 (case a50|b50|c50=>k_is)
 refine' L2.ZT KX bK ?a51 ?b51 ?c51 fun jy=>?z51
 (case a51|b51|c51=>k_is)
 refine' L2.ZT KX cj ?a52 ?b52 ?c52 fun lE=>?z52
 (case a52|b52|c52=>k_is)
 refine' L2.ZS KX bJ gw ?a53 fun cz=>?z53
 (case a53=>k_is)
 refine' L2.ZS KX bK gw ?a54 fun cA=>?z54
 (case a54=>k_is)
 refine' L2.ZS KX cj gw ?a55 fun cQ=>?z55
 (case a55=>k_is)
 refine' L2.FV KX bJ bJ true ?a56 fun k_BadOrder_BadOrder=>?z56
 (case a56=>kit_is)
 refine' L2.FV KX bJ bK false ?a57 fun k_BadOrder_BadSieve=>?z57
 (case a57=>kit_is)
 refine' L2.FV KX bJ iO false ?a58 fun k_BadOrder_BadPlace=>?z58
 (case a58=>kit_is)
 refine' L2.FV KX bJ cj false ?a59 fun k_BadOrder_BadSize=>?z59
 (case a59=>kit_is)
 refine' L2.FV KX bK bJ false ?a60 fun k_BadSieve_BadOrder=>?z60
 (case a60=>kit_is)
 refine' L2.FV KX bK bK true ?a61 fun k_BadSieve_BadSieve=>?z61
 (case a61=>kit_is)
 refine' L2.FV KX bK iO false ?a62 fun k_BadSieve_BadPlace=>?z62
 (case a62=>kit_is)
 refine' L2.FV KX bK cj false ?a63 fun k_BadSieve_BadSize=>?z63
 (case a63=>kit_is)
 refine' L2.FV KX cj bJ false ?a64 fun k_BadSize_BadOrder=>?z64
 (case a64=>kit_is)
 refine' L2.FV KX cj bK false ?a65 fun k_BadSize_BadSieve=>?z65
 (case a65=>kit_is)
 refine' L2.FV KX cj iO false ?a66 fun k_BadSize_BadPlace=>?z66
 (case a66=>kit_is)
 refine' L2.FV KX cj cj true ?a67 fun k_BadSize_BadSize=>?z67
 (case a67=>kit_is)
 refine' L2.LB aF "shelf" ?a68 fun wD=>?z68
 (case a68=>k_is)
 refine' L2.LB aF "order" ?a69 fun wF=>?z69
 (case a69=>k_is)
 refine' L2.LB aF "sieve" ?a70 fun wG=>?z70
 (case a70=>k_is)
 refine' L2.LB aF "size" ?a71 fun Ao=>?z71
 (case a71=>k_is)
 refine' L2.LB aF "fore" ?a72 fun Ap=>?z72
 (case a72=>k_is)
 refine' L2.LB aF "hinder" ?a73 fun tN=>?z73
 (case a73=>k_is)
 refine' L2.LB aj "columns" ?a74 fun pP=>?z74
 (case a74=>k_is)
 refine' L2.LB aj "deeds" ?a75 fun tO=>?z75
 (case a75=>k_is)
 refine' L2.LB aj "runs" ?a76 fun wH=>?z76
 (case a76=>k_is)
 refine' L2.gvm KX e0 ?a77 ?b77 ?c77 fun oj=>?z77
 (case a77=>k_is)
 (case b77=>rfl)
 (case c77=>first|rfl|decide|simp [codeHdIn])
 refine' L2.gvm KX e1 ?a78 ?b78 ?c78 fun lO=>?z78
 (case a78=>k_is)
 (case b78=>rfl)
 (case c78=>first|rfl|decide|simp [codeHdIn])
 exact⟨⟨_,_,_,_,_,_,_,_,_,_,_,_,_,_,_,_,_,_,_,_,_,_,_,_,_,_,_,_,_,_,_,_,_,_,_,_,_,_,_,_,_,_,_,_,_,_,_,_⟩,rfl,⟨A0,JB,Cs,F0,F1,F2,F3,D3,F4,D4,mV,oi,mW,sF,kH,Ai,kI,mX,Aj,Mu,V9,Mv,fun H=>L2.MT (xs:=[.str "number",.str "word"]) ⟨_,_,_,w_KINDS,rfl,rfl,(by rw[zY];show 2≤16777216;decide),.cons ⟨_,rfl⟩ (.cons ⟨_,rfl⟩ (.nil))⟩ (L2.vd ["number","word"]),Al,⟨by first|rfl|decide,_,_,_,w_OTHER_WAY,⟨rfl,rfl,rfl⟩,rfl,.cons ⟨rfl,⟨_,rfl⟩,⟨_,rfl⟩⟩ (.cons ⟨rfl,⟨_,rfl⟩,⟨_,rfl⟩⟩ (.nil)),by trivial⟩,Am,⟨by first|rfl|decide,_,_,_,w_OTHER_END,⟨rfl,rfl,rfl⟩,rfl,.cons ⟨rfl,⟨_,rfl⟩,⟨_,rfl⟩⟩ (.cons ⟨rfl,⟨_,rfl⟩,⟨_,rfl⟩⟩ (.nil)),by trivial⟩,FK,⟨by first|rfl|decide,_,_,_,w_LENGTHS,⟨rfl,rfl,rfl⟩,rfl,.cons ⟨rfl,⟨_,rfl⟩,⟨_,rfl⟩⟩ (.cons ⟨rfl,⟨_,rfl⟩,⟨_,rfl⟩⟩ (.cons ⟨rfl,⟨_,rfl⟩,⟨_,rfl⟩⟩ (.cons ⟨rfl,⟨_,rfl⟩,⟨_,rfl⟩⟩ (.cons ⟨rfl,⟨_,rfl⟩,⟨_,rfl⟩⟩ (.cons ⟨rfl,⟨_,rfl⟩,⟨_,rfl⟩⟩ (.cons ⟨rfl,⟨_,rfl⟩,⟨_,rfl⟩⟩ (.cons ⟨rfl,⟨_,rfl⟩,⟨_,rfl⟩⟩ (.cons ⟨rfl,⟨_,rfl⟩,⟨_,rfl⟩⟩ (.nil))))))))),by trivial⟩,V_,Wa,Wb,wB,Mw,Wc,Wd,Rm,Mx,Rn,Ro,We,Wf,JC,Wh,Wi,Ct,gw,jv,wC,dJ,JD,gY,bJ,cy,bK,fO,iO,cj,j7,JE,rf,Mz,vB,Cu,lC,jx,jy,lE,cz,cA,cQ,k_BadOrder_BadOrder,k_BadOrder_BadSieve,k_BadOrder_BadPlace,k_BadOrder_BadSize,k_BadSieve_BadOrder,k_BadSieve_BadSieve,k_BadSieve_BadPlace,k_BadSieve_BadSize,k_BadSize_BadOrder,k_BadSize_BadSieve,k_BadSize_BadPlace,k_BadSize_BadSize,Rk,aF,⟨Rl,(JB 0 (by decide)).e.at_,(JB 0 (by decide)).e.fn,k_Walk⟩,wD,wF,wG,Ao,Ap,tN,Ms,aj,⟨Mt,(Cs 0 (by decide)).e.at_,(Cs 0 (by decide)).e.fn,k_Shelf⟩,pP,tO,wH,e0,oj,by simp,e1,lO,by simp,by simp,by simp,fun s v=>B2 s [v] rfl⟩⟩
