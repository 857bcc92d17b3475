import PyProof.Rows.All
import Wide.All
import OpenK.AllK
import Wide.FinOn
import Lean
import PyProof.EqAt
import PyProof.EqKinds
import PyProof.TupleCall
import PyProof.NsDelKeeps
import KE.KIsBytes
import PyProof.Rows.SetFrom
import KE.KDictOf
import PyProof.AttrMissSeq
import PyProof.WalksMore
import PyProof.ZipIter
import PyProof.StrBlock2
import PyProof.StrBlockI
import PyProof.Rows.StrJoin2
import PyProof.Rows.CountFlat
import PyProof.Rows.Range3
import PyProof.SumWalkG
import PyProof.Rows.ListMulArg
import PyProof.FactsAll.tuple
import PyProof.EnumFor
import PyProof.EnumMake
import KE.KDictLaws
import KE.KDictSum
import KE.KRevIter
import PyProof.Rows.SortStr
import PyProof.Rows.SortWalk
import PyProof.AutoListH
import PyProof.StrLawsReplace
import PyProof.Rows.SortShellK
import KE.KLam
import KE.KSortKey
import KE.KNestM
import PyProof.EnumStmt
import PyProof.ListMulRoad
import PySem.Challenge.RW_pageturns_k48_whole_keepers_pages
set_option compiler.extract_closed false
local macro_rules|`(tactic| trivial)=>`(tactic| decide +kernel)
set_option Elab.async false
set_option linter.all false
set_option maxRecDepth 100000
set_option genInjectivity false
set_option genSizeOfSpec false
namespace Tactic
theorem qQQ(h:True:=by rfl):True:=h
def qQJ:Lean.Syntax:=qQQ._auto_1
theorem qQX(h:True:=by decide):True:=h
def qQZ:Lean.Syntax:=qQX._auto_1
theorem qQK(h:True:=by intro _;rfl):True:=h
def qQ0:Lean.Syntax:=qQK._auto_1
theorem qQ1(h:True:=by with_unfolding_all rfl):True:=h
def qQ2:Lean.Syntax:=qQ1._auto_1
theorem qQ3(h:True:=by exact⟨rfl,rfl,rfl,rfl⟩):True:=h
def qQ4:Lean.Syntax:=qQ3._auto_1
theorem qQ5(h:True:=by first|exact .inl rfl|exact .inr rfl|assumption):True:=h
def qQ6:Lean.Syntax:=qQ5._auto_1
theorem qQ7(h:True:=by first|exact .inl rfl|exact .inr rfl):True:=h
def qQ8:Lean.Syntax:=qQ7._auto_1
theorem qQ9(h:True:=by intro _ _ _ _ _;exact{Or.inl rfl,rfl}):True:=h
def qJQ:Lean.Syntax:=qQ9._auto_1
theorem qJJ(h:True:=by first|decide|omega):True:=h
def qJX:Lean.Syntax:=qJJ._auto_1
theorem qJZ(h:True:=by first|exact Or.inl rfl|exact Or.inr rfl):True:=h
def qJK:Lean.Syntax:=qJZ._auto_1
theorem qJ0(h:True:=by intro _ _ _ _ _;rfl):True:=h
def qJ1:Lean.Syntax:=qJ0._auto_1
theorem qJ2(h:True:=by trivial):True:=h
def qJ3:Lean.Syntax:=qJ2._auto_1
local macro_rules|`({$a:term})=>`(⟨$a⟩)|`({$a:term,$b:term,*})=>`(⟨$a,$b,*⟩)
local macro_rules|`(!$t)=>do{let mut t:=t;let mut n:=1;for _ in [0:20] do{if let `(!$u):=t then{t:=u;n:=n+1}};let xs←(match t with|`(⟨$x,*⟩)=>pure x.getElems|`({$x:term,$y:term,*})=>pure (#[x]++y.getElems)|_=>Lean.Macro.throwUnsupported);let mut a:=xs;for _ in [0:n] do{a:=#[←`(_),←`(rfl)]++a};`(⟨$a,*⟩)}
open PySem.W (instObj methodObj hideAll hideAll_get of_hideAll Frag lookIn plainGet hasDictIn findIn handedIn plainGet_of isFn plainOver takerIn makesIn emptyDict specialIn keepIn mroIn kitOne kia_one kitx_list fnOf codeIn excIn callWith_K methodCall_KW envX kla_fn codeHdIn tabObj codeHd_of_K nsIn mg_of)
theorem za:type_of%@PySem.Heap.get?_push_of_some:=@PySem.Heap.get?_push_of_some
theorem zb:type_of%@List.length_map:=@List.length_map
theorem zc:type_of%@PySem.wpAny_bind:=@PySem.wpAny_bind
theorem zd:type_of%@Bool.false_ne_true:=@Bool.false_ne_true
theorem ze:type_of%@List.mem_map:=@List.mem_map
theorem zf:type_of%@List.getElem?_eq_some_iff:=@List.getElem?_eq_some_iff
theorem zg:type_of%@List.mem_cons_of_mem:=@List.mem_cons_of_mem
theorem zh:type_of%@List.getElem?_eq_getElem:=@List.getElem?_eq_getElem
theorem zj:type_of%@List.mem_cons:=@List.mem_cons
theorem zk:type_of%@PySem.Heap.get?_push_size:=@PySem.Heap.get?_push_size
theorem zl:type_of%@List.size_toArray:=@List.size_toArray
theorem zm:type_of%@PySem.wpAny_pure:=@PySem.wpAny_pure
theorem zo:type_of%@Nat.le_refl:=@Nat.le_refl
theorem zp:type_of%@List.getElem?_map:=@List.getElem?_map
theorem zq:type_of%@Nat.lt_of_lt_of_le:=@Nat.lt_of_lt_of_le
theorem zr:type_of%@List.mem_cons_self:=@List.mem_cons_self
theorem zt:type_of%@List.map_map:=@List.map_map
theorem zu:type_of%@decide_eq_false:=@decide_eq_false
theorem zw:type_of%@decide_eq_true:=@decide_eq_true
theorem zx:type_of%@PySem.Heap.lt_size:=@PySem.Heap.lt_size
theorem zy:type_of%@List.map_cons:=@List.map_cons
theorem zA:type_of%@Nat.ne_of_lt:=@Nat.ne_of_lt
theorem zB:type_of%@of_decide_eq_true:=@of_decide_eq_true
theorem zC:type_of%@List.mem_append_right:=@List.mem_append_right
theorem zD:type_of%@List.getD_eq_getElem?_getD:=@List.getD_eq_getElem?_getD
theorem zE:type_of%@List.mem_singleton:=@List.mem_singleton
theorem zG:type_of%@Nat.le_trans:=@Nat.le_trans
theorem zH:type_of%@List.length_append:=@List.length_append
theorem zI:type_of%@List.not_mem_nil:=@List.not_mem_nil
theorem zJ:type_of%@List.map_append:=@List.map_append
theorem zK:type_of%@List.mem_of_getElem?:=@List.mem_of_getElem?
theorem zL:type_of%@Bool.and_eq_true:=@Bool.and_eq_true
theorem zM:type_of%@List.mem_append:=@List.mem_append
theorem zN:type_of%@List.length_cons:=@List.length_cons
theorem zO:type_of%@of_decide_eq_false:=@of_decide_eq_false
theorem zP:type_of%@Option.some.inj:=@Option.some.inj
theorem zQ:type_of%@List.mem_range:=@List.mem_range
theorem zR:type_of%@PySem.F.plainAttrs_list:=@PySem.F.plainAttrs_list
theorem zS:type_of%@Bool.false_and:=@Bool.false_and
theorem zT:type_of%@Array.length_toList:=@Array.length_toList
theorem zU:type_of%@PySem.wpAny_field:=@PySem.wpAny_field
theorem zV:type_of%@List.length_take:=@List.length_take
theorem zW:type_of%@List.find?_cons:=@List.find?_cons
theorem zX:type_of%@PySem.sizeLine_eq:=@PySem.sizeLine_eq
theorem zY:type_of%@Nat.zero_le:=@Nat.zero_le
theorem zZ:type_of%@PySem.Heap.size_push:=@PySem.Heap.size_push
theorem z0:type_of%@List.map_congr_left:=@List.map_congr_left
theorem ya:type_of%@Bool.true_and:=@Bool.true_and
theorem yb:type_of%@List.lookup_cons:=@List.lookup_cons
theorem yc:type_of%@List.all_eq_true:=@List.all_eq_true
theorem yd:type_of%@List.drop_eq_getElem_cons:=@List.drop_eq_getElem_cons
theorem ye:type_of%@List.mem_append_left:=@List.mem_append_left
theorem yf:type_of%@PySem.F.slot_list_append:=@PySem.F.slot_list_append
theorem yg:type_of%@PySem.F.type_list_append:=@PySem.F.type_list_append
theorem yh:type_of%@PySem.mem_of_lookup:=@PySem.mem_of_lookup
theorem yi:type_of%@PySem.wpAny_newObj_type:=@PySem.wpAny_newObj_type
theorem yj:type_of%@decide_eq_true_eq:=@decide_eq_true_eq
theorem yk:type_of%@List.nodup_cons:=@List.nodup_cons
theorem ym:type_of%@Nat.ne_of_gt:=@Nat.ne_of_gt
theorem yn:type_of%@List.mem_filter:=@List.mem_filter
theorem yo:type_of%@PySem.Heap.get?_update_other:=@PySem.Heap.get?_update_other
theorem yp:type_of%@List.filter_cons:=@List.filter_cons
theorem yq:type_of%@List.filter_sublist:=@List.filter_sublist
theorem yr:type_of%@PySem.wpAny_truthy_bool:=@PySem.wpAny_truthy_bool
theorem yt:type_of%@PySem.Heap.get?_update_self:=@PySem.Heap.get?_update_self
theorem yu:type_of%@PySem.F.slot_dict_get:=@PySem.F.slot_dict_get
theorem yw:type_of%@Bool.eq_iff_iff:=@Bool.eq_iff_iff
theorem yx:type_of%@PySem.Obj.data_mapFields:=@PySem.Obj.data_mapFields
theorem yy:type_of%@Nat.lt_irrefl:=@Nat.lt_irrefl
theorem yz:type_of%@PySem.Heap.SameBut.update:=@PySem.Heap.SameBut.update
theorem yA:type_of%@List.length_reverse:=@List.length_reverse
theorem yB:type_of%@PySem.Calls.spliced_cons:=@PySem.Calls.spliced_cons
theorem yC:type_of%@List.length_drop:=@List.length_drop
theorem yD:type_of%@PySem.wpAny_call_entry:=@PySem.wpAny_call_entry
theorem yE:type_of%@PySem.wpAny_holding:=@PySem.wpAny_holding
theorem yF:type_of%@PySem.wpAny_mono:=@PySem.wpAny_mono
theorem yG:type_of%@PySem.Paired.length:=@PySem.Paired.length
theorem yH:type_of%@Nat.lt_succ_self:=@Nat.lt_succ_self
theorem yI:type_of%@decide_eq_decide:=@decide_eq_decide
theorem yJ:type_of%@Sum.inr.inj:=@Sum.inr.inj
theorem yK:type_of%@Nat.le_of_lt:=@Nat.le_of_lt
theorem yL:type_of%@List.foldl_cons:=@List.foldl_cons
theorem yM:type_of%@PySem.codeAny_builtin:=@PySem.codeAny_builtin
theorem yN:type_of%@List.any_cons:=@List.any_cons
theorem yO:type_of%@Bool.false_or:=@Bool.false_or
theorem yP:type_of%@PySem.wpAny_setField:=@PySem.wpAny_setField
theorem yQ:type_of%@PySem.codeAny_mono:=@PySem.codeAny_mono
theorem yR:type_of%@Nat.le_succ:=@Nat.le_succ
theorem yS:type_of%@PySem.wpAny_of_eq:=@PySem.wpAny_of_eq
theorem yT:type_of%@Nat.succ.inj:=@Nat.succ.inj
namespace L2
open PySem PySem.Spec PyProof.Rows
abbrev Key:=Sum Int Str
def keyIs:Key->Value->Bool|.inl k,v=>Value.isInt k v|.inr x,v=>Value.isStrOf x v
def W9(w:World):Key->Int|.inl k=>hashInt k|.inr x=>hashStr w x
theorem bE:∀{k:Key}{v:Value},keyIs k v=true->(∃i t,k=Sum.inl i/\v=Value.int i t)\/(∃x t,k=Sum.inr x/\v=Value.str x t)|.inl i,v,h=>(by obtain⟨t,e⟩:=Value.isInt_shape (k:=i) (v:=v) h;exact .inl ⟨i,t,rfl,e⟩)|.inr x,v,h=>by obtain⟨t,e⟩:=Value.isStrOf_shape (x:=x) (v:=v) h;exact .inr ⟨x,t,rfl,e⟩
theorem EZ(i:Int)(t:Tok):keyIs (.inl i) (.int i t)=true:=by simp[keyIs,Value.isInt]
theorem E1(x:Str)(t:Tok):keyIs (.inr x) (.str x t)=true:=by simp[keyIs,Value.isStrOf]
theorem N6(a b:Int):decide ((Sum.inl a:Key)=Sum.inl b)=(a==b):=by by_cases e:a=b;subst e;simp;have h:¬(Sum.inl a:Key)=Sum.inl b:=λq=>e<|Sum.inl.inj q;rw[zu h];exact(beq_eq_false_iff_ne.mpr e).symm
theorem N7(a b:Str):decide ((Sum.inr a:Key)=Sum.inr b)=decide (a=b):=by by_cases e:a=b;subst e;simp;have h:¬(Sum.inr a:Key)=Sum.inr b:=λq=>e<|yJ q;rw[zu h,zu e]
theorem N8(a:Int)(b:Str):decide ((Sum.inl a:Key)=Sum.inr b)=false:=zu λq=>nomatch q
theorem N9(a:Str)(b:Int):decide ((Sum.inr a:Key)=Sum.inl b)=false:=zu λq=>nomatch q
def aH(prog:Program)(w:World):PySem.KeyKind prog w Key where
 is:=keyIs
 hash:=W9 w
 inj:=λv a b ha hb=>by
  rcases bE ha with⟨i,t,rfl,rfl⟩|⟨x,t,rfl,rfl⟩
  ·rcases bE hb with⟨j,u,rfl,e⟩|⟨y,u,rfl,e⟩
   ·injection e with e1 _;rw[e1]
   ·exact nomatch e
  ·rcases bE hb with⟨j,u,rfl,e⟩|⟨y,u,rfl,e⟩
   ·exact nomatch e
   ·injection e with e1 _;rw[e1]
 byValue:=λk v h=>by
  rcases bE h with⟨i,t,rfl,rfl⟩|⟨x,t,rfl,rfl⟩<;>rfl
 pyHash:=λhv h=>by
  rcases bE hv with⟨i,t,rfl,rfl⟩|⟨x,t,rfl,rfl⟩
  ·exact wpAny_pyHash_int h
  ·exact wpAny_pyHash_str h
 eqBool:=λhu hv h=>by
  rcases bE hu with⟨i,t,rfl,rfl⟩|⟨x,t,rfl,rfl⟩
  ·rcases bE hv with⟨j,u,rfl,rfl⟩|⟨y,u,rfl,rfl⟩
   ·rw[N6]at h;exact wpAny_eqBool_int h
   ·rw[N8]at h;exact SeqAt.EqAt.int_str i t y u _ _ _ _ h
  ·rcases bE hv with⟨j,u,rfl,rfl⟩|⟨y,u,rfl,rfl⟩
   ·rw[N9]at h;exact SeqAt.EqAt.str_int x t j u _ _ _ _ h
   ·rw[N7]at h;exact wpAny_eqBool_str h
 «strs»:=λk x t v h=>by
  rcases bE h with⟨i,u,rfl,e⟩|⟨y,u,rfl,e⟩
  ·exact nomatch e
  ·injection e with e1 _
   subst e1
   cases v<;>rfl
theorem xq(prog:Program)(w:World)(i:Int)(t:Tok):(aH prog w).is (.inl i) (.int i t)=true:=EZ i t
theorem jq(prog:Program)(w:World)(x:Str)(t:Tok):(aH prog w).is (.inr x) (.str x t)=true:=E1 x t
set_option genInjectivity true in
set_option genSizeOfSpec true in
inductive V where
 |av|bl (b:Bool)|int (i:Int)|str (x:Str)|Dn (b:Array UInt8)|N_ (b:UInt64)|ref (a:Addr)|ty (n:String)
 deriving DecidableEq
def RelV:V->Value->Prop|.av,u=>u=Value.none|.bl b,u=>u=Value.bool b|.int i,u=>∃t,u=Value.int i t|.str x,u=>∃t,u=Value.str x t|.Dn b,u=>∃t,u=Value.bytes b t|.N_ b,u=>∃t,u=Value.float b t|.ref a,u=>u=Value.ref a|.ty n,u=>u=Value.type n
abbrev Vals:List V->List Value->Prop:=Paired RelV
theorem Vals.length{xs:List V}{us:List Value}(r:Vals xs us):xs.length=us.length:=yG r
theorem Vals.get:∀{xs:List V}{us:List Value}{i:Nat}{x:V},Vals xs us->xs[i]?=some x->∃u,us[i]?=some u/\RelV x u|_,_,_,_,.nil,e=>by simp at e|_,_,0,_,.cons r _,e=>by simp at e;subst e;exact{_,rfl,r}|_,_,i+1,x,.cons _ t,e=>by obtain⟨u,h1,h2⟩:=Vals.get (i:=i) (x:=x) t (by simpa using e);exact{u,by simpa using h1,h2}
theorem Vals.set(r:RelV x u):∀{xs:List V}{us:List Value}(i:Nat),Vals xs us->Vals (xs.set i x) (us.set i u)|_,_,_,.nil=>.nil|_,_,0,.cons _ t=>.cons r t|_,_,i+1,.cons q t=>.cons q<|Vals.set r i t
theorem Vals.append:∀{xs ys:List V}{us ws:List Value},Vals xs us->Vals ys ws->Vals (xs++ys) (us++ws)|_,_,_,_,.nil,s=>s|_,_,_,_,.cons r t,s=>.cons r<|Vals.append t s
theorem Vals.take:∀{xs:List V}{us:List Value}(n:Nat),Vals xs us->Vals (xs.take n) (us.take n)|_,_,0,_=>.nil|_,_,_+1,.nil=>.nil|_,_,n+1,.cons r t=>.cons r<|Vals.take n t
theorem Vals.drop:∀{xs:List V}{us:List Value}(n:Nat),Vals xs us->Vals (xs.drop n) (us.drop n)|_,_,0,r=>r|_,_,_+1,.nil=>.nil|_,_,n+1,.cons _ t=>Vals.drop n t
def fN:Option V->Option Value->Prop|some v,some u=>RelV v u|none,none=>True|_,_=>False
def KV{κ:Type} : List (κ×V)->List (κ×Value)->Prop:=Paired λ(p:κ×V)(q:κ×Value)=>p.1=q.1/\RelV p.2 q.2
def kV:Key->V|.inl i=>.int i|.inr x=>.str x
set_option genInjectivity true in
set_option genSizeOfSpec true in
inductive HO where
  |lst (xs:List V)
  |tup (xs:List V)
  |dK (kvs:List<|Key×V)|dT (kvs:List<|List Key×V)
  |set (S:Int->Bool) (n:Nat)
  |ins (C dx:Addr) (fs:List<|Str×V)
  |own (x:Addr)
  |xd (fs:List<|Str×V)
  |met (f x:Addr)
  |VW (lo hi:Int)
  |lI (o:Obj) (u:HO)
  |qv (ps:Array Value)
  |ext (φ:Heap->Prop)
abbrev Hp:=Addr->Option HO
noncomputable def upd(H:Hp)(a:Addr)(o:HO):Hp:=λb=>if b=a then some o else H b
theorem aE{H:Hp}{a:Addr}{o:HO} : upd H a o a=some o:=by unfold upd;rw[if_pos rfl]
theorem ax{H:Hp}{a b:Addr}{o:HO}(h:b≠a):upd H a o b=H b:=by unfold upd;rw[if_neg h]
theorem aD{H:Hp}{a b:Addr}{o:HO}(h:H a=some o)(h':H b=none):a≠b:=by intro e;subst e;rw[h]at h';cases h'
def gx(h:Heap)(a:Addr)(items:Array Value):Prop:=∃o,h.get? a=some o/\o.cls=.type "tuple"/\o.dict=none/\∃n,o.data=.seq items n
theorem gx.tup(x:gx h a items):IsTup h a items:=by obtain⟨o,e,c,_,n,d⟩:=x;exact⟨o,e,c,n,d⟩
theorem gx.lt(x:gx h a items):a<h.objs.size:=x.tup.lt
theorem gx.new(h:Heap)(items:Array Value):gx (h.push {cls:=.type "tuple",data:=.seq items}) h.objs.size items:={_,zk _ rfl,rfl,rfl,_,rfl}
section
variable(P:Program)(w:World)
def bx(H:Hp)(h:Heap)(a:Addr):HO->Prop|.lst xs=>xs.length<=sizeLine/\∃(az:List Value) (n:Nat),Vals xs az/\h.get? a=some {cls:=.type "list",data:=.seq az.toArray n}|.tup xs=>xs.length<=sizeLine/\∃az:List Value,Vals xs az/\gx h a az.toArray|.dK kvs=>kvs.length<=sizeLine/\(a==sysModules)=false/\∃vs,KV kvs vs/\h.DictOf (aH P w) a vs|.dT _=>False|.set S n=>h.SetOf (intKind P w) a S n|.ins C dx fs=>H dx=some (.own a)/\fs.length<=1000/\dx≠a/\h.get? a=some (instObj C dx)/\∃mA,h.Ns1 dx mA/\(∀f,fN (fs.lookup f)<|mA f)/\PySem.Within mA (fs.map (·.1))|.own _=>∃o,h.get? a=some o|.xd fs=>∃mA,h.Ns1 a mA/\∀f,fN (fs.lookup f) (mA f)|.VW lo hi=>∃t u v,h.get? a=some {cls:=.type "range",data:=.fields #[.int lo t,.int hi u,.int 1 v]}|.lI o u=>h.get? a=some o/\bx H h a u|.qv ps=>h.get? a=some {cls:=.none,data:=.fields ps}|.met f x=>h.get? a=some (methodObj (.ref f)<|.ref x)|.ext φ=>φ h/\(∃o,h.get? a=some o)/\∀h1 h2:Heap,φ h1->(∀o,h1.get? a=some o->h2.get? a=some o)->φ h2
def lJ(H:Hp)(h:Heap):Prop:=∀a o,H a=some o->bx P w H h a o
end
section
variable{P:Program}{w:World}{H H':Hp}{h h':Heap}{a:Addr}{o:HO}
theorem bx.lt(x:bx P w H h a o):a<h.objs.size:=by cases o with|lst xs=>(obtain⟨_,_,_,_,e⟩:=x;exact zx e)|tup xs=>(obtain⟨_,_,_,p⟩:=x;exact p.lt)|dK kvs=>(obtain⟨_,_,_,_,o,_,_,e,_⟩:=x;exact zx e)|dT kvs=>exact False.elim x|set S n=>(obtain⟨o,_,_,_,e,_⟩:=x;exact zx e)|ins C dx fs=>(obtain⟨_,_,_,e,_⟩:=x;exact zx e)|own y=>(obtain⟨_,e⟩:=x;exact zx e)|xd fs=>(obtain⟨_,⟨_,_,_,e,_⟩,_⟩:=x;exact zx e)|VW lo hi=>(obtain⟨_,_,_,e⟩:=x;exact zx e)|lI ob u=>(obtain⟨e,_⟩:=x;exact zx e)|qv ps=>exact zx (show h.get? a=some _ from x)|met f y=>exact zx (show h.get? a=some _ from x)|ext φ=>obtain⟨_,⟨_,e⟩,_⟩:=x;exact zx e
theorem bx.pV(x:bx P w H h a o)(k:∀b u,(b=a\/H b=some (.own a))->h.get? b=some u->h'.get? b=some u) (ho:∀b,H b=some (.own a)->H' b=some (.own a)) (ht:∀b xs,H b=some (.tup xs)->H' b=some (.tup xs)):bx P w H' h' a o:=by induction o with|lst xs=>(obtain⟨z,az,n,r,e⟩:=x;exact{z,az,n,r,k _ _ (.inl rfl) e})|tup xs=>(obtain⟨z,az,r,ob,e,c⟩:=x;exact{z,az,r,ob,k _ _ (.inl rfl) e,c})|dK kvs=>(obtain⟨z,y,vs,r,ob,es,ep,e,c⟩:=x;exact{z,y,vs,r,ob,es,ep,k _ _ (.inl rfl) e,c})|dT kvs=>exact False.elim x|set S n=>(obtain⟨ob,es,ep,t,e,c⟩:=x;exact{ob,es,ep,t,k _ _ (.inl rfl) e,c})|ins C dx fs=>(obtain⟨d,z,ne,e,mA,⟨od,es,ep,e2,c⟩,r⟩:=x;exact{ho _ d,z,ne,k _ _ (.inl rfl) e,mA,{od,es,ep,k _ _ (.inr d) e2,c},r})|own y=>(obtain⟨ob,e⟩:=x;exact{ob,k _ _ (.inl rfl) e})|xd fs=>(obtain⟨mA,⟨od,es,ep,e,c⟩,r⟩:=x;exact{mA,{od,es,ep,k _ _ (.inl rfl) e,c},r})|VW lo hi=>(obtain⟨t,u,v,e⟩:=x;exact{t,u,v,k _ _ (.inl rfl) e})|lI ob u ih=>(obtain⟨e,q⟩:=x;exact{k _ _ (.inl rfl) e,ih q})|qv ps=>have e:h.get? a=some {cls:=.none,data:=.fields ps}:=x;show h'.get? a=some {cls:=.none,data:=.fields ps};exact k a _ (.inl rfl) e|met f y=>have e:h.get? a=some (methodObj (.ref f)<|.ref y):=x;show h'.get? a=some (methodObj (.ref f)<|.ref y);exact k a _ (.inl rfl) e|ext φ=>obtain⟨p,⟨o,e⟩,st⟩:=x;exact{st _ _ p λo q=>k _ _ (.inl rfl) q,{o,k _ _ (.inl rfl) e},st}
theorem lJ.lt(x:lJ P w H h)(e:H a=some o):a<h.objs.size:=(x a o e).lt
theorem lJ.fresh(x:lJ P w H h)(e:h.objs.size<=a):H a=none:=by cases q:H a with|none=>rfl|some u=>exact absurd (zq (x.lt q) e)<|yy _
theorem lJ.kept(x:lJ P w H h)(k:∀b u,h.get? b=some u->h'.get? b=some u):lJ P w H h':=λa o e=>(x a o e).pV (λb u _ q=>k b u q) (λ_ q=>q) λ_ _ q=>q
theorem lJ.laid(x:lJ P w H h)(k:∀b u,h.get? b=some u->h'.get? b=some u)(hp:h.objs.size<=a)(new:bx P w (upd H a o) h' a o):lJ P w (upd H a o) h':=λb u e=>by have hn:=x.fresh hp;by_cases hb:b=a;subst hb;rw[aE]at e;cases e;exact new;rw[ax hb]at e;exact(x b u e).pV (λc v _ q=>k c v q) (λc q=>by rw[ax<|aD q hn];exact q) λc xs q=>by rw[ax<|aD q hn];exact q
end
def Rd(H:Hp)(a:Addr)(u:HO):Prop:=H a=some u\/∃o,H a=some (.lI o u)
theorem Rd.of(h:H a=some u):Rd H a u:=.inl h
theorem Rd.ok{P:Program}{w:World}{H:Hp}{h:Heap}{a:Addr}{u:HO}(r:Rd H a u)(x:lJ P w H h):bx P w H h a u:=by rcases r with r|⟨o,r⟩;exact x a u r;obtain⟨_,q⟩:=x a _ r;exact q
def RZ:Option HO->Prop|some (.lst _)=>True|some (.dK _)=>True|some (.dT _)=>True|some (.set _ _)=>True|some (.ins _ _ _)=>True|some (.ext _)=>True|_=>False
section
variable{P:Program}{w:World}{H:Hp}{h h':Heap}{x e:Addr}{o':HO}
theorem lJ.write(ok:lJ P w H h)(mu:RZ<|H x)(he:e=x\/H e=some (.own x))(k:∀b u,b≠e->h.get? b=some u->h'.get? b=some u)(Q8:∃u,h'.get? e=some u) (new:bx P w (upd H x o') h' x o'):lJ P w (upd H x o') h':=λb u q=>by
 have R1:∀c y,H c=some (.own y)->c≠x:=λc y r z=>by subst z;rw[r]at mu;exact mu
 have W_:∀c xs,H c=some (.tup xs)->c≠x:=λc xs r z=>by subst z;rw[r]at mu;exact mu
 by_cases hb:b=x;subst hb;rw[aE]at q;cases q;exact new;rw[ax hb]at q;by_cases Oa:b=e;have q':H b=some (.own x):=by rcases he with z|z;exact absurd (Oa.trans z) hb;rw[Oa];exact z
 rw[q]at q';cases q';obtain⟨v,hv⟩:=Q8;exact{v,by rw[Oa];exact hv};refine(ok b u q).pV (λc v hc r=>k c v ?_ r) (λc r=>by rw[ax<|R1 c b r];exact r) λc xs r=>by rw[ax<|W_ c xs r];exact r
 rcases hc with rfl|hc;exact Oa;rintro rfl;rcases he with z|z;exact R1 c b hc z;rw[hc]at z;cases z;exact hb rfl
end
structure Un(fs ex:List Addr)(H H':Hp)(h h':Heap):Prop where
 keep:∀b o,h.get? b=some o->H b=none->b∉fs->b∉ex->h'.get? b=some o
 slot:∀b o,h.get? b=some o->H b=none->b∈fs->b∉ex->∃sl,h'.get? b=some {o with slots:=sl}
 free:∀b o,h.get? b=some o->H b=none->b∉ex->H' b=none
 there:∀b o,h.get? b=some o->b∉ex->∃o',h'.get? b=some o'
 mr:∀b xs,H b=some (.tup xs)->H' b=some (.tup xs)
 lK:∀b o u,H b=some (.lI o u)->H' b=some (.lI o u)
 lL:∀b ps,H b=some (.qv ps)->∃more,H' b=some (.qv<|ps++more)
section
variable{fs ex:List Addr}{H H1:Hp}{h h1 h':Heap}{a x e:Addr}{o:HO}
theorem Un.any(u:Un fs ex H H1 h h1){b:Addr}{ob:Obj}(q:h.get? b=some ob)(n:H b=none)(hx:b∉ex):∃sl,h1.get? b=some {ob with slots:=sl}:=by by_cases hb:b∈fs;exact u.slot b ob q n hb hx;exact{ob.slots,u.keep b ob q n hb hx}
theorem Un.kept(k:∀b u,h.get? b=some u->h'.get? b=some u):Un fs ex H H h h':={λb ob q _ _ _=>k b ob q,λb ob q _ _ _=>{ob.slots,k b ob q},λ_ _ _ n _=>n,λb ob q _=>{ob,k b ob q},λ_ _ q=>q,λ_ _ _ q=>q,λ_ ps q=>{#[],by rw[q];simp}}
theorem Un.refl:Un fs ex H H h h:=Un.kept λ_ _ q=>q
theorem Un.laid(k:∀b u,h.get? b=some u->h'.get? b=some u)(hp:h.objs.size<=a)(hn:H a=none):Un fs ex H (upd H a o) h h' where
 keep:=λb u q _ _ _=>k b u q
 slot:=λb u q _ _ _=>{u.slots,k b u q}
 free:=λb u q n _=>by rw[ax<|zA<|zq (zx q) hp];exact n
 there:=λb u q _=>{u,k b u q}
 mr:=λb xs q=>by rw[ax<|aD q hn];exact q
 lK:=λb u xs q=>by rw[ax<|aD q hn];exact q
 lL:=λb ps q=>{#[],by rw[ax<|aD q hn,q];simp}
theorem Un.write(mu:RZ<|H x)(he:e=x\/H e=some (.own x))(k:∀b u,b≠e->h.get? b=some u->h'.get? b=some u)(Q8:∃u,h'.get? e=some u):Un fs ex H (upd H x o) h h':=by
 have hx:∀b,H b=none->b≠x:=λb n z=>by subst z;rw[n]at mu;exact mu
 have hb:∀b,H b=none->b≠e:=λb n z=>by subst z;rcases he with r|r;exact hx b n r;rw[n]at r;cases r
 have hm:∀b u,H b=some u->¬RZ (some u)->b≠x:=λb u q nm z=>by subst z;rw[q]at mu;exact nm mu
 refine⟨λb u q n _ _=>k b u (hb b n) q,λb u q n _ _=>{u.slots,k b u (hb b n) q},λb u q n _=>by rw[ax<|hx b n];exact n,λb u q _=>?_,
  λb xs q=>by rw[ax<|hm b _ q λz=>z];exact q,λb u xs q=>by rw[ax<|hm b _ q λz=>z];exact q,λb ps q=>{#[],by rw[ax<|hm b _ q λz=>z,q];simp}⟩
 by_cases Oa:b=e;subst Oa;exact Q8;exact{u,k b u Oa q}
end
noncomputable def VX(h:Heap)(H:Hp):List Addr:=(List.range h.objs.size).filter λa=>(H a).isSome
noncomputable def tP(h:Heap)(H:Hp):Heap:=hideAll h<|VX h H
theorem E3(h:Heap)(H:Hp):(tP h H).objs.size=h.objs.size:=PySem.W.hideAll_size _ _
theorem G_(e:h.get? b=some o)(n:H b=none):(tP h H).get? b=some o:=hideAll_get _ e λhm=>by have q:(H b).isSome=true:=(yn.mp hm).2;rw[n]at q;simp at q
theorem Ki(e:(tP h H).get? b=some o):h.get? b=some o/\H b=none:=by have e':h.get? b=some o:=of_hideAll (VX h H) e;refine{e',?_};cases q:H b with|none=>rfl|some x=>have hm:b∈VX h H:=yn.mpr {zQ.mpr<|zx e',by simp[q]};have z:(tP h H).get? b=none:=PySem.W.hideAll_none (VX h H) hm;rw[z]at e;cases e
noncomputable def Kj(g h:Heap)(L:Addr):List (Addr×Obj):=(List.range h.objs.size).filterMap λa=>if a=L\/(g.get? a).isSome=true then none else (h.get? a).map λo=>(a,o)
noncomputable def rest(g h:Heap)(L d:Addr):List (Addr×Obj):=(Kj g h L).filter λp=>decide<|p.1≠d
structure Mod(K:Frag)(mg:Str->Option Value)(base:Heap):Prop where
 Q9:K.In base
 glob:base.Ns mainGlobals mg
 blt:∃mb,base.Ns builtinsNs mb/\∀x:Str,x≠"__name__"->mb x=bootBuiltins x
 nolimit:base.NoLimit
structure Cx where
 prog:Program
 w:World
 K:Frag
 mg:Str->Option Value
 base:Heap
 A:Around
 N:List Str
 cX:Shared
 vE:Hp
 env:Env
 outer:List Env
 stack:List Env
 ex:List Addr
 fn:Str->Bool
 calm:Bool
 pn:List (Addr×Obj)
 xe:Value->Shared->Prop
def nR(l:List Env):List Addr:=l.filterMap (·.frame)
noncomputable abbrev Cx.fs(X:Cx):List Addr:=nR X.outer
def Q_(sc:Scope)(x:Str):Prop:=sc.names.lookup x=some .local\/sc.names.lookup x=some .cell\/sc.names.lookup x=some .free
def Loc(sc:Scope)(x:Str):Prop:=sc.names.lookup x=some .local\/sc.names.lookup x=some .cell
def Look(env:Env)(h:Heap)(m:Str->Option Value)(x:Str)(u:Value):Prop:=(env.kindOf x=some .local/\m x=some u)\/((env.kindOf x=some .cell\/env.kindOf x=some .free)/\∃c,env.cells.lookup x=some c/\h.IsCell c (some u))
structure Cx.Ok(X:Cx):Prop where
 mod:Mod X.K X.mg X.base
 kind:X.env.scope.kind=.function
 glob:X.env.globals=mainGlobals
 blt:X.env.builtins=builtinsNs
 above:X.cX.heap.objs.size<=X.env.locals
 inj:∀x y c,X.env.cells.lookup x=some c->X.env.cells.lookup y=some c->x=y
 has:∀x,(X.env.kindOf x=some .cell\/X.env.kindOf x=some .free)->∃c,X.env.cells.lookup x=some c
 Xa:∀x c,X.fn x=true->X.env.cells.lookup x=some c->X.cX.heap.objs.size<=c
 hd:X.calm=true->X.A.handled=none
 frames:X.A.frames=some X.stack
 stk:X.stack=X.outer\/(X.stack=X.env::X.outer/\X.env.frame=some X.env.locals)
 exf:∀b∈X.ex,b≠X.env.locals/\∀x c,X.env.cells.lookup x=some c->c≠b
 bs:∀b o,X.base.get? b=some o->X.cX.heap.get? b=some o/\X.vE b=none
 Kk:X.base.objs.size<=X.cX.heap.objs.size
 Ob:∀b o,X.base.get? b=some o->b∉X.ex
 R3:∀b∈X.ex,b∉X.fs
 pW:X.cX.heap.FunFrames X.base X.outer
 Oc:∀b∈X.fs,X.vE b=none
structure Inv(X:Cx)(pins:List (Addr×Obj))(σ:List (Option V))(H:Hp)(s:Shared):Prop where
 ok:X.Ok
 os:s.os=X.cX.os
 bare:AllBare s.gens
 base:Un X.fs X.ex X.vE H X.cX.heap s.heap
 loc:∃m,s.heap.Ns X.env.locals m/\∀(i:Nat)(x:Str)(v:V),X.N[i]?=some x->σ[i]?=some (some v)->Q_ X.env.scope x->∃u,RelV v u/\Look X.env s.heap m x u
 cell:∀x c,X.env.cells.lookup x=some c->∃v,s.heap.IsCell c v
 free:H X.env.locals=none
 fR:∀x c,X.env.cells.lookup x=some c->H c=none
 pin:∀p∈X.pn++pins,s.heap.get? p.1=some p.2/\H p.1=none/\p.1≠X.env.locals/\p.1∉X.fs/\∀v,p.2.data≠.cell v
 aQ:lJ X.prog X.w H s.heap
 len:σ.length=X.N.length
section
variable{X:Cx}{pins:List (Addr×Obj)}{σ:List (Option V)}{H H':Hp}{s:Shared}{h':Heap}
theorem Cx.Ok.E6(ok:X.Ok)(e:X.base.get? b=some o):b∉X.fs:=λhb=>by have:=(ok.pW.mem hb).1;rw[e]at this;cases this
theorem Inv.bs(I:Inv X pins σ H s):∀b o,X.base.get? b=some o->s.heap.get? b=some o/\H b=none:=λb o e=>{I.base.keep b o (I.ok.bs b o e).1 (I.ok.bs b o e).2 (I.ok.E6 e)<|I.ok.Ob b o e,I.base.free b o (I.ok.bs b o e).1 (I.ok.bs b o e).2<|I.ok.Ob b o e}
theorem Inv.bk(I:Inv X pins σ H s):∀b o,X.base.get? b=some o->s.heap.get? b=some o:=λb o e=>(I.bs b o e).1
theorem Inv.mod(I:Inv X pins σ H s):Mod X.K X.mg X.base:=I.ok.mod
theorem Inv.oY(I:Inv X pins σ H s):X.K.In s.heap:=I.ok.mod.Q9.keeps I.bk
theorem Inv.nolimit(I:Inv X pins σ H s):s.heap.NoLimit:=I.ok.mod.nolimit.keeps I.bk
theorem Inv.fr(I:Inv X pins σ H s):∃m,Fr X.base X.env.locals s.heap m :=
 let ⟨m,hn,_⟩:=I.loc
 ⟨m,hn,I.bk,zG I.ok.Kk I.ok.above⟩
theorem Inv.lt(I:Inv X pins σ H s):X.env.locals<s.heap.objs.size:=by obtain⟨_,hn,_⟩:=I.loc;exact hn.lt
theorem Inv.sz(I:Inv X pins σ H s):X.cX.heap.objs.size<=s.heap.objs.size:=zG I.ok.above<|yK I.lt
theorem Inv.R4(I:Inv X pins σ H s)(h:s.heap.objs.size<=a):a∉X.fs:=λhb=>by obtain⟨_,o,ho,_⟩:=I.ok.pW.mem hb;exact absurd (zq (zx ho)<|zG I.sz h)<|yy _
theorem Inv.Od(I:Inv X pins σ H s):∀x c,X.env.cells.lookup x=some c->c≠X.env.locals:=λx c e z=>by obtain⟨v,o,ho,hd⟩:=I.cell x c e;obtain⟨m,⟨o',es,ep,Bf,Bh,_⟩,_⟩:=I.loc;rw[z,Bf]at ho;cases ho;rw[Bh]at hd;cases hd
theorem Inv.pW(I:Inv X pins σ H s):s.heap.FunFrames X.base X.outer:=by
 have all:∀(l:List Env),(∀b∈nR l,b∈X.fs)->X.cX.heap.FunFrames X.base l->s.heap.FunFrames X.base l:=by intro l;induction l with|nil=>intro _ _;trivial|cons env r ih=>intro hs hl;obtain⟨hk,⟨L,o,hf,hn,ho,hd⟩,hr⟩:=hl;have hL:L∈X.fs:=hs L (by unfold nR;rw[List.filterMap_cons,hf];exact zr);obtain⟨sl,e⟩:=I.base.slot L o ho (I.ok.Oc L hL) hL λz=>I.ok.R3 L z hL;exact{hk,{L,_,hf,hn,e,hd},ih (λb hb=>hs b<|by unfold nR;rw[List.filterMap_cons,hf];exact zg _ hb) hr}
 exact all X.outer (λ_ hb=>hb) I.ok.pW
theorem Inv.stack(I:Inv X pins σ H s):s.heap.FunFrames X.base X.stack:=by rcases I.ok.stk with e|⟨e,hf⟩;rw[e];exact I.pW;rw[e];obtain⟨m,hn,_⟩:=I.loc;refine .cons (by rw[I.ok.kind];decide) hf hn ?_ I.pW;exact Heap.get?_none_of_le<|zG I.ok.Kk I.ok.above
theorem Inv.nS(I:Inv X pins σ H s):∀b∈nR X.stack,b∈X.env.locals::X.fs:=λb hb=>by rcases I.ok.stk with e|⟨e,hf⟩;rw[e]at hb;exact zg _ hb;rw[e]at hb;unfold nR at hb;rw[List.filterMap_cons,hf]at hb;exact hb
theorem Inv.qw(I:Inv X pins σ H s):∀b∈nR X.stack,H b=none:=λb hb=>by rcases zj.mp (I.nS b hb) with e|hb;rw[e];exact I.free;obtain⟨_,o,ho,_⟩:=I.ok.pW.mem hb;exact I.base.free b o ho (I.ok.Oc b hb) λz=>I.ok.R3 b z hb
theorem Inv.step{g':Array GenState}{t':Nat}{d':Drawn}{ch:List Addr}(I:Inv X pins σ H s) (JX:∀b∈ch,(b∈X.ex\/X.cX.heap.objs.size<=b)/\b≠X.env.locals/\(∀x c,X.env.cells.lookup x=some c->c≠b)/\∀p∈X.pn++pins,p.1≠b) (keep:∀b o,b≠X.env.locals->b∉X.fs->b∉ch->s.heap.get? b=some o->H b=none->h'.get? b=some o) (slot:∀b o,b≠X.env.locals->b∈X.fs->b∉ch->s.heap.get? b=some o->H b=none->∃sl,h'.get? b=some {o with slots:=sl}) (free:∀b o,b∉ch->s.heap.get? b=some o->H b=none->H' b=none) (there:∀b o,b∉ch->s.heap.get? b=some o->∃o',h'.get? b=some o') (mr:∀b xs,H b=some (.tup xs)->H' b=some (.tup xs)) (lK:∀b o u,H b=some (.lI o u)->H' b=some (.lI o u)) (lL:∀b ps,H b=some (.qv ps)->∃more,H' b=some (.qv<|ps++more)) (ns:∀m,s.heap.Ns X.env.locals m->h'.Ns X.env.locals m) (aQ:lJ X.prog X.w H' h') (hg:AllBare g'): Inv X pins σ H' {s with heap:=h',gens:=g',drawn:=d',toks:=t'}:=by
 have neL:∀b o,X.cX.heap.get? b=some o->b≠X.env.locals:=λb o e=>zA<|zq (zx e) I.ok.above;have VY:∀b o,X.cX.heap.get? b=some o->b∉X.ex->b∉ch:=λb o e hx hb=>by rcases (JX b hb).1 with z|z;exact hx z;exact absurd (zq (zx e) z)<|yy _
 have cellK:∀x c,X.env.cells.lookup x=some c->∀v,s.heap.IsCell c v->h'.IsCell c v:=by rintro x c e v ⟨o,ho,hd⟩;have R5:c∉ch:=λz=>(JX c z).2.2.1 x c e rfl;by_cases hc:c∈X.fs;obtain⟨sl,q⟩:=slot c o (I.Od x c e) hc R5 ho<|I.fR x c e;exact{_,q,hd};exact{o,keep c o (I.Od x c e) hc R5 ho<|I.fR x c e,hd}
 refine{I.ok,I.os,hg,{λb o e n hb hx=>?_,λb o e n hb hx=>?_,λb o e n hx=>?_,λb o e hx=>?_,λb xs e=>mr b xs<|I.base.mr b xs e,λb o xs e=>lK b o xs<|I.base.lK b o xs e,λb ps e=>?_},?_,λx c e=>?_,?_,λx c e=>?_,λp hp=>?_,aQ,I.len};exact keep b o (neL b o e) hb (VY b o e hx) (I.base.keep b o e n hb hx)<|I.base.free b o e n hx;obtain⟨sl,e1⟩:=I.base.slot b o e n hb hx;obtain⟨sl',e2⟩:=slot b _ (neL b o e) hb (VY b o e hx) e1<|I.base.free b o e n hx;exact⟨sl',e2⟩;obtain⟨o',e1⟩:=I.base.there b o e hx;exact free b o' (VY b o e hx) e1<|I.base.free b o e n hx;obtain⟨o',e1⟩:=I.base.there b o e hx;exact there b o' (VY b o e hx) e1;obtain⟨m1,e1⟩:=I.base.lL b ps e;obtain⟨m2,e2⟩:=lL b _ e1;exact{m1++m2,by rw[e2,Array.append_assoc]};obtain⟨m,hn,hl⟩:=I.loc;refine{m,ns m hn,λi x v e1 e2 e3=>?_};obtain⟨u,r,l⟩:=hl i x v e1 e2 e3;refine{u,r,?_};rcases l with l|⟨k,c,e,z⟩;exact .inl l;exact .inr {k,c,e,cellK x c e _ z};obtain⟨v,z⟩:=I.cell x c e;exact{v,cellK x c e v z};obtain⟨m,⟨o,_,_,ho,_⟩,_⟩:=I.loc;exact free _ o (λz=>(JX _ z).2.1 rfl) ho I.free;obtain⟨v,o,ho,hd⟩:=I.cell x c e;exact free c o (λz=>(JX c z).2.2.1 x c e rfl) ho<|I.fR x c e;obtain⟨e,n,ne,nf,d⟩:=I.pin p hp;have R5:p.1∉ch:=λz=>(JX p.1 z).2.2.2 p hp rfl;exact{keep p.1 p.2 ne nf R5 e n,free p.1 p.2 R5 e n,ne,nf,d}
theorem Inv.un{t':Nat}(I:Inv X pins σ H s)(u:Un X.fs [] H H' s.heap h')(aQ:lJ X.prog X.w H' h'):Inv X pins σ H' {s with heap:=h',toks:=t'}:=by obtain⟨m,⟨o,es,ep,ho,r⟩,_⟩:=id I.loc;obtain⟨sl,hL⟩:=u.any ho I.free (by simp);exact I.step (g':=s.gens) (d':=s.drawn) (ch:=[]) (λ_ z=>nomatch z) (λb o _ hb _ e n=>u.keep b o e n hb<|by simp) (λb o _ hb _ e n=>u.slot b o e n hb<|by simp) (λb o _ e n=>u.free b o e n<|by simp) (λb o _ e=>u.there b o e<|by simp) u.mr u.lK u.lL (λm' hm=>by obtain⟨o',VZ,Xb,Bf,r'⟩:=hm;rw[ho]at Bf;cases Bf;exact{_,VZ,Xb,hL,r'}) aQ I.bare
theorem Inv.call{g':Array GenState}{t':Nat}{d':Drawn}{ch:List Addr}(I:Inv X pins σ H s)(u:Un (nR X.stack) ch H H' s.heap h')(aQ:lJ X.prog X.w H' h')(hg:AllBare g') (JX:∀b∈ch,(b∈X.ex\/X.cX.heap.objs.size<=b)/\b≠X.env.locals/\(∀x c,X.env.cells.lookup x=some c->c≠b)/\∀p∈X.pn++pins,p.1≠b): Inv X pins σ H' {s with heap:=h',gens:=g',drawn:=d',toks:=t'}:=by obtain⟨m,⟨o,es,ep,ho,r⟩,_⟩:=id I.loc;obtain⟨sl,hL⟩:=u.any ho I.free λz=>(JX _ z).2.1 rfl;exact I.step (ch:=ch) JX (λb o hL hb hc e n=>u.keep b o e n (λz=>(zj.mp<|I.nS b z).elim hL hb) hc) (λb o _ _ hc e n=>u.any e n hc) (λb o hc e n=>u.free b o e n hc) (λb o hc e=>u.there b o e hc) u.mr u.lK u.lL (λm' hm=>by obtain⟨o',VZ,Xb,Bf,r'⟩:=hm;rw[ho]at Bf;cases Bf;exact{_,VZ,Xb,hL,r'}) aQ hg
theorem Inv.turned{t':Nat}{it:Addr}(I:Inv X pins σ H s)(k:∀b o,b≠it->s.heap.get? b=some o->h'.get? b=some o)(hn:H it=none)(hL:it≠X.env.locals) (h1:it∈X.ex\/X.cX.heap.objs.size<=it) (h2:∀x c,X.env.cells.lookup x=some c->c≠it) (h3:∀p∈X.pn++pins,p.1≠it):Inv X pins σ H {s with heap:=h',toks:=t'}:=by
 have Oe:∀b u,H b=some u->b≠it:=λb u e z=>by rw[z,hn]at e;cases e
 refine I.step (g':=s.gens) (d':=s.drawn) (ch:=[it]) (λb hb=>?_) (λb o _ _ hc e _=>k b o (λz=>hc<|by simp[z]) e) (λb o _ _ hc e _=>{o.slots,k b o (λz=>hc<|by simp[z]) e}) (λ_ _ _ _ n=>n) (λb o hc e=>{o,k b o (λz=>hc<|by simp[z]) e}) (λ_ _ e=>e) (λ_ _ _ e=>e) (λb ps e=>{#[],by rw[e];simp}) (λm hm=>?_) (λb u e=>?_) I.bare;have e:b=it:=by simpa using hb
 subst e;exact⟨h1,hL,h2,h3⟩;obtain⟨o,es,ep,ho,r⟩:=hm;exact{o,es,ep,k _ o (Ne.symm hL) ho,r};refine(I.aQ b u e).pV (λc v hc q=>k c v ?_ q) (λ_ q=>q) λ_ _ q=>q;rcases hc with z|z;rw[z];exact Oe b u e;exact Oe c _ z
theorem Inv.tok(I:Inv X pins σ H s)(t:Nat):Inv X pins σ H {s with toks:=t}:=I.un (h':=s.heap) (t':=t) Un.refl I.aQ
theorem Inv.kept(I:Inv X pins σ H s)(k:∀b u,s.heap.get? b=some u->h'.get? b=some u):Inv X pins σ H {s with heap:=h',toks:=t'}:=I.un (Un.kept k)<|I.aQ.kept k
theorem Inv.laid{a:Addr}{o:HO}{t':Nat}(I:Inv X pins σ H s)(k:∀b u,s.heap.get? b=some u->h'.get? b=some u)(hp:s.heap.objs.size<=a)(new:bx X.prog X.w (upd H a o) h' a o): Inv X pins σ (upd H a o) {s with heap:=h',toks:=t'}:=I.un (Un.laid k hp<|I.aQ.fresh hp)<|I.aQ.laid k hp new
theorem Inv.write(I:Inv X pins σ H s)(mu:RZ<|H x)(he:e=x\/H e=some (.own x))(k:∀b u,b≠e->s.heap.get? b=some u->h'.get? b=some u)(Q8:∃u,h'.get? e=some u) (new:bx X.prog X.w (upd H x o) h' x o):Inv X pins σ (upd H x o) {s with heap:=h',toks:=t'}:=I.un (Un.write mu he k Q8)<|I.aQ.write mu he k Q8 new
theorem Inv.weak(I:Inv X pins σ H s)(hl:aF.length=σ.length)(w:∀(i:Nat) v,aF[i]?=some (some v)->σ[i]?=some (some v)):Inv X pins aF H s:={I.ok,I.os,I.bare,I.base,by obtain⟨m,hn,Of⟩:=I.loc;exact{m,hn,λi x v e1 e2 e3=>Of i x v e1 (w i v e2) e3},I.cell,I.free,I.fR,I.pin,I.aQ,hl.trans I.len}
theorem Inv.mw(I:Inv X pins σ H s)(h:∀p∈pins',s.heap.get? p.1=some p.2/\H p.1=none/\p.1≠X.env.locals/\p.1∉X.fs/\∀v,p.2.data≠.cell v):Inv X pins' σ H s:={I.ok,I.os,I.bare,I.base,I.loc,I.cell,I.free,I.fR,λp hp=>(zM.mp hp).elim (λz=>I.pin p<|ye _ z)<|h p,I.aQ,I.len}
theorem xr{N:List Str}(hN:N.Nodup){i j:Nat}{x:Str}(a:N[i]?=some x)(b:N[j]?=some x):i=j:=by obtain⟨h1,e1⟩:=zf.mp a;obtain⟨h2,e2⟩:=zf.mp b;exact(List.getElem_inj hN).mp<|e1.trans e2.symm
theorem uD{M:Model}{A:Around}{E:Value->Shared->Prop}{i:Nat}{x:Str}{v:V}{u:Value}{Q:Unit->Shared->Prop}(I:Inv X pins σ H s)(hN:X.N.Nodup)(hi:X.N[i]?=some x)(hx:Loc X.env.scope x)(r:RelV v u) (h:∀s',Inv X pins (σ.set i<|some v) H s'->(∃a,Heap.SameBut a s.heap s'.heap/\(a=X.env.locals\/X.env.cells.lookup x=some a))->Q () s') (hf:autoParam (X.fn x=true\/X.env.scope.names.lookup x=some .local) qQ6):wpAny M A (storeName X.env x u) Q E s:=by
 obtain⟨m,hn,hl⟩:=id I.loc;have Xc:(X.env.scope.kind==.class||(X.env.scope.kind==.module&&X.env.locals != X.env.globals))=false:=by rw[I.ok.kind];rfl
 have R6:i<σ.length:=by rw[I.len];exact(zf.mp hi).1
 have Od:=I.Od;have tracked:∀{a:Addr}{h':Heap},(∃o,s.heap.get? a=some o/\H a=none)->Heap.SameBut a s.heap h'->lJ X.prog X.w H h':=λ{a h'} ha hs b ob e=>by obtain⟨_,_,MV⟩:=ha;refine(I.aQ b ob e).pV (λc w' hc q=>(hs.2 c ?_).trans q) (λ_ q=>q) λ_ _ q=>q;rintro rfl;rcases hc with rfl|hc;rw[MV]at e;cases e;rw[MV]at hc;cases hc
 rcases hx with hk|hk;refine wpAny_storeName_local hk hn (λh' JY hs=>?_) Xc;obtain⟨oL,_,_,GZ,_⟩:=id hn;refine h _ {I.ok,I.os,I.bare,{λb o e n hb hx=>?_,λb o e n hb hx=>?_,I.base.free,λb o e hx=>?_,I.base.mr,I.base.lK,I.base.lL},{_,JY,λj y v' e1 e2 e3=>?_},λy c e=>?_,I.free,I.fR,λp hp=>?_,tracked ⟨oL,GZ,I.free⟩ hs,by simpa using I.len} {_,hs,.inl rfl};exact(hs.2 b<|zA<|zq (zx e) I.ok.above).trans<|I.base.keep b o e n hb hx;obtain⟨sl,e1⟩:=I.base.slot b o e n hb hx;exact{sl,(hs.2 b<|zA<|zq (zx e) I.ok.above).trans e1};obtain⟨o',e1⟩:=I.base.there b o e hx;exact{o',(hs.2 b<|zA<|zq (zx e) I.ok.above).trans e1};by_cases hj:j=i;subst hj;rw[hi]at e1;cases e1;rw[List.getElem?_set_self R6]at e2;cases e2;exact{u,r,.inl {hk,by simp}};rw[List.getElem?_set_ne<|Ne.symm hj]at e2;obtain⟨u',r',q⟩:=hl j y v' e1 e2 e3;refine{u',r',?_};rcases q with⟨k,e⟩|⟨k,c,e,z⟩;refine .inl {k,?_};have:y≠x:=λe=>hj<|xr hN e1<|e ▸ hi;simp[this,e];exact .inr {k,c,e,z.sameBut hs<|Od y c e};obtain⟨w',z⟩:=I.cell y c e;exact{w',z.sameBut hs<|Od y c e};obtain⟨e,n,ne,nf,d⟩:=I.pin p hp;exact{(hs.2 p.1 ne).trans e,n,ne,nf,d};have Xd:X.fn x=true:=by rcases hf with z|z;exact z;rw[z]at hk;cases hk
 obtain⟨c,hc⟩:=I.ok.has x<|.inl hk;obtain⟨w',z⟩:=I.cell x c hc;refine wpAny_storeName_cell I.ok.kind hk hc z λh' JZ hs=>?_;obtain⟨oc,V0,Xe⟩:=id z;refine h {s with heap:=h'} {I.ok,I.os,I.bare,{λb o e n hb hx=>?_,λb o e n hb hx=>?_,I.base.free,λb o e hx=>?_,I.base.mr,I.base.lK,I.base.lL},{m,hn.sameBut hs<|Ne.symm<|Od x c hc,λj y v' e1 e2 e3=>?_},λy c' e=>?_,I.free,I.fR,λp hp=>?_,tracked {oc,V0,I.fR x c hc} hs,by simpa using I.len} {c,hs,.inr hc};exact(hs.2 b<|zA<|zq (zx e)<|I.ok.Xa x c Xd hc).trans<|I.base.keep b o e n hb hx;obtain⟨sl,e1⟩:=I.base.slot b o e n hb hx;exact{sl,(hs.2 b<|zA<|zq (zx e)<|I.ok.Xa x c Xd hc).trans e1};obtain⟨o',e1⟩:=I.base.there b o e hx;exact{o',(hs.2 b<|zA<|zq (zx e)<|I.ok.Xa x c Xd hc).trans e1};by_cases hj:j=i;subst hj;rw[hi]at e1;cases e1;rw[List.getElem?_set_self R6]at e2;cases e2;exact{u,r,.inr {.inl hk,c,hc,JZ}};rw[List.getElem?_set_ne<|Ne.symm hj]at e2;obtain⟨u',r',q⟩:=hl j y v' e1 e2 e3;refine{u',r',?_};rcases q with q|⟨k,c',e,z'⟩;exact .inl q;refine .inr {k,c',e,z'.sameBut hs ?_};rintro rfl;exact hj<|xr hN e1<|I.ok.inj _ _ _ e hc ▸ hi;by_cases hcc:c'=c;subst hcc;exact{_,JZ};obtain⟨w2,z2⟩:=I.cell y c' e;exact{w2,z2.sameBut hs hcc};obtain⟨e,n,ne,nf,d⟩:=I.pin p hp;refine{(hs.2 p.1 ?_).trans e,n,ne,nf,d};intro q;rw[q,V0]at e;have q':oc=p.2:=zP e;exact d w'<|by rw[<-q'];exact Xe
theorem qW(I:Inv X pins σ H s)(hN:X.N.Nodup)(hi:X.N[i]?=some x)(hx:Loc X.env.scope x)(r:RelV v u) (h:∀s',Inv X pins (σ.set i<|some v) H s'->Q () s') (hf:autoParam (X.fn x=true\/X.env.scope.names.lookup x=some .local) qQ6):wpAny M A (storeName X.env x u) Q E s:=uD I hN hi hx r (λs' I' _=>h s' I') hf
theorem Inv.R7(I:Inv X pins σ H s)(ho:s'.os=s.os)(u:Un (nR X.stack) ch H H' s.heap s'.heap)(aQ:lJ X.prog X.w H' s'.heap)(hg:AllBare s'.gens) (JX:∀b∈ch,(b∈X.ex\/X.cX.heap.objs.size<=b)/\b≠X.env.locals/\(∀x c,X.env.cells.lookup x=some c->c≠b)/\∀p∈X.pn++pins,p.1≠b):Inv X pins σ H' s':=by obtain⟨h',g',d',t',o'⟩:=s';have e:o'=s.os:=ho;subst e;exact I.call (g':=g') (t':=t') (d':=d') u aQ hg JX
end
abbrev XK:=Value->Option Addr->Hp->Prop
abbrev St:=List<|Option V
abbrev VK:=V->Hp->Prop
abbrev TE:=St->Hp->VK->Prop
abbrev TT:=St->Hp->(Bool->Hp->Prop)->Prop
abbrev TA:=St->Hp->(List V->Hp->Prop)->Prop
structure Ends where
 nx:St->Hp->Prop
 rt:VK
 bk:St->Hp->Prop:=λ_ _=>False
 ct:St->Hp->Prop:=λ_ _=>False
abbrev TS:=Ends->St->Hp->Prop
def EP(X:Cx)(pins:List<|Addr×Obj)(σ:St)(Q:VK)(u:Value)(s':Shared):Prop:=∃v H',Inv X pins σ H' s'/\RelV v u/\Q v H'
def TP(X:Cx)(pins:List<|Addr×Obj)(σ:St)(Q:Bool->Hp->Prop)(b:Bool)(s':Shared):Prop:=∃H',Inv X pins σ H' s'/\Q b H'
def AP(X:Cx)(pins:List<|Addr×Obj)(σ:St)(Q:List V->Hp->Prop)(us:List Value)(s':Shared):Prop:=∃vs H',Inv X pins σ H' s'/\Vals vs us/\Q vs H'
def SP(X:Cx)(pins:List<|Addr×Obj)(D:Ends)(f:Flow)(s':Shared):Prop:=match f with|.next=>∃aF H',Inv X pins aF H' s'/\D.nx aF H'|.brk=>∃aF H',Inv X pins aF H' s'/\D.bk aF H'|.cont=>∃aF H',Inv X pins aF H' s'/\D.ct aF H'|.ret u=>∃v aF H',Inv X pins aF H' s'/\RelV v u/\D.rt v H'
def PE(X:Cx)(e:Expr)(t:TE):Prop:=∀(pins:List (Addr×Obj))(s:Shared)(σ:St)(H:Hp)(Q:VK),Inv X pins σ H s->t σ H Q->wpAny (model X.prog X.w) X.A (eval e X.env) (EP X pins σ Q) X.xe s
def PT(X:Cx)(e:Expr)(t:TT):Prop:=∀(pins:List (Addr×Obj))(s:Shared)(σ:St)(H:Hp)(Q:Bool->Hp->Prop),Inv X pins σ H s->t σ H Q->wpAny (model X.prog X.w) X.A (isTrue e X.env<|eval e X.env) (TP X pins σ Q) X.xe s
def PW(X:Cx)(e:Expr)(t:TT):Prop:=∀(whole:Sem Value)(pins:List (Addr×Obj))(s:Shared)(σ:St)(H:Hp)(Q:Bool->Hp->Prop),Inv X pins σ H s->t σ H Q->wpAny (model X.prog X.w) X.A (isTrue e X.env whole) (TP X pins σ Q) X.xe s
theorem PW.pt{t:TT}(h:PW X e t):PT X e t:=h _
def PA(X:Cx)(es:List Expr)(t:TA):Prop:=∀(pos:Pos)(pins:List (Addr×Obj))(s:Shared)(σ:St)(H:Hp)(Q:List V->Hp->Prop),Inv X pins σ H s->t σ H Q->wpAny (model X.prog X.w) X.A (spliced<|backTo pos<|starEach es X.env) (AP X pins σ Q) X.xe s
def PS(X:Cx)(st:Stmt)(t:TS):Prop:=∀(pins:List (Addr×Obj))(s:Shared)(σ:St)(H:Hp)(D:Ends),Inv X pins σ H s->t D σ H->wpAny (model X.prog X.w) X.A (exec st X.env) (SP X pins D) X.xe s
def Dq(X:Cx)(st:List Stmt)(t:TS):Prop:=∀(pins:List (Addr×Obj))(s:Shared)(σ:St)(H:Hp)(D:Ends),Inv X pins σ H s->t D σ H->wpAny (model X.prog X.w) X.A (execs st X.env) (SP X pins D) X.xe s
theorem bz{t:Sem α}(h:wpAny M A t Q E s)(hQ:∀a s,Q a s->Q' a s):wpAny M A t Q' E s:=yF h hQ λ_ _ x=>x
section
variable{X:Cx}
def Xf(i:Nat):TE:=λσ H Q=>∃v,σ[i]?=some (some v)/\Q v H
def tC(v:V):TE:=λ_ H Q=>Q v H
theorem Oh(hN:X.N[i]?=some x)(hv:Q_ X.env.scope x)(hd:autoParam ((x==("__debug__": Str))=false) qQZ)(tK:autoParam ((x==("__classdict__": Str))=false) qQZ):PE X (.Name x pos) (Xf i):=by intro pins s σ H Q I h;obtain⟨v,e,h⟩:=h;obtain⟨m,hn,hl⟩:=I.loc;obtain⟨u,r,l⟩:=hl i x v hN e hv;have fin:EP X pins σ Q u s:=⟨v,H,I,r,h⟩;rcases l with⟨hk,hm⟩|⟨hk,c,hc,Ds⟩;exact wpAny_Name (wpAny_loadName_local I.ok.kind hk hn hm fin) hd;rcases hk with hk|hk;exact wpAny_Name (wpAny_loadName_cell I.ok.kind hk hc Ds fin) hd;exact wpAny_Name (wpAny_loadName_free I.ok.kind hk hc Ds fin tK) hd
theorem Oi:PE X (.Constant (.int i) j pos) (tC<|.int i):=λ_ _ _ H _ I h=>wpAny_Constant_int {.int i,H,I.tok _,{_,rfl},h}
theorem MW:PE X (.Constant (.bool b) j pos) (tC<|.bl b):=λ_ _ _ H _ I h=>Constant_bool {.bl b,H,I,rfl,h}
theorem Oj:PE X (.Constant .none j pos) (tC .av):=λ_ _ _ H _ I h=>Constant_none {.av,H,I,rfl,h}
theorem Ol:PE X (.Constant (.str x) j pos) (tC<|.str x):=λ_ _ _ H _ I h=>Calls.Constant_str {.str x,H,I.tok _,{_,rfl},h}
def Gl(X:Cx)(x:Str):Prop:=X.env.kindOf x=some .globalImplicit
theorem qx(I:Inv X pins σ H s)(hg:Gl X x)(hm:X.mg x=some u)(h:Q u s) (hd:autoParam ((x==("__debug__": Str))=false) qQZ):wpAny (model X.prog X.w) X.A (eval (.Name x pos) X.env) Q E s:=Calls.Name_function_global I.ok.kind hg (Calls.loadGlobal_global (by rw[I.ok.glob];exact I.mod.glob.keeps I.bk) hm h) hd
theorem fj(I:Inv X pins σ H s)(hg:Gl X x)(hm:X.mg x=none)(hv:bootBuiltins x=some u)(h:Q u s) (hn:autoParam (x≠"__name__") qQZ) (hd:autoParam ((x==("__debug__": Str))=false) qQZ):wpAny (model X.prog X.w) X.A (eval (.Name x pos) X.env) Q E s:=by obtain⟨mb,h1,h2⟩:=I.mod.blt;exact Calls.Name_function_global I.ok.kind hg (Calls.loadGlobal_builtin (by rw[I.ok.glob];exact I.mod.glob.keeps I.bk) hm (by rw[I.ok.blt];exact h1.keeps I.bk) ((h2 x hn).trans hv) h) hd
theorem Du(hg:Gl X x)(hm:X.mg x=some u)(r:RelV v u)(hd:autoParam ((x==("__debug__": Str))=false) qQZ):PE X (.Name x pos) (tC v):=λ_ _ _ H _ I h=>qx I hg hm ⟨v,H,I,r,h⟩ hd
theorem Kl(hg:Gl X x)(hm:X.mg x=none)(hv:bootBuiltins x=some u)(r:RelV v u)(hn:autoParam (x≠"__name__") qQZ)(hd:autoParam ((x==("__debug__": Str))=false) qQZ):PE X (.Name x pos) (tC v):=λ_ _ _ H _ I h=>fj I hg hm hv ⟨v,H,I,r,h⟩ hn hd
variable{a b:Expr}{ta tb:TE}{pos:Pos}
def tB(t:TE):TT:=λσ H Q=>t σ H λx H1=>∃c,x=.bl c/\Q c H1
theorem Om{t:TE}(h:PE X e t)(he:autoParam (∀whole,isTrue e X.env whole=(do let v <-whole;standAt e.pos;holding [v] (truthy v))) qQ0):PT X e (tB t):=by intro pins s σ H Q I hw;refine isTrue_plain (bz (h pins s σ H _ I hw) λv s1 ⟨x,H1,I1,r1,q1⟩=>?_)<|he _;obtain⟨d,rfl,q⟩:=q1;cases r1;exact yr ⟨H1,I1,q⟩
variable{tA V1:TT}{rest:List Expr}
def Xg(t u:TT):TT:=λσ H Q=>t σ H λc H1=>if c=true then u σ H1 Q else Q false H1
def tOr(t u:TT):TT:=λσ H Q=>t σ H λc H1=>if c=true then Q true H1 else u σ H1 Q
def Xh(t:TT):TT:=λσ H Q=>t σ H λc H1=>Q (!c) H1
theorem pw_and1(ha:PT X a tA):PW X (.BoolOp .And [a] pos) tA:=by intro wh pins s σ H Q I h;refine isTrue_and<|bz (ha pins s σ H Q I h) λc s1 e=>?_;cases c with|true=>exact isTrue_and_nil e|false=>exact e
theorem pw_or1(ha:PT X a tA):PW X (.BoolOp .Or [a] pos) tA:=by intro wh pins s σ H Q I h;refine isTrue_or<|bz (ha pins s σ H Q I h) λc s1 e=>?_;cases c with|false=>exact isTrue_or_nil e|true=>exact e
theorem pw_and(ha:PT X a tA)(hb:PW X (.BoolOp .And (b::rest) pos) V1):PW X (.BoolOp .And (a::b::rest) pos) (Xg tA V1):=by intro wh pins s σ H Q I h;refine isTrue_and<|bz (ha pins s σ H _ I h) λc s1 ⟨H1,I1,q1⟩=>?_;cases c with|true=>exact hb wh pins s1 σ H1 Q I1 q1|false=>exact⟨H1,I1,q1⟩
theorem pw_or(ha:PT X a tA)(hb:PW X (.BoolOp .Or (b::rest) pos) V1):PW X (.BoolOp .Or (a::b::rest) pos) (tOr tA V1):=by intro wh pins s σ H Q I h;refine isTrue_or<|bz (ha pins s σ H _ I h) λc s1 ⟨H1,I1,q1⟩=>?_;cases c with|true=>exact⟨H1,I1,q1⟩|false=>exact hb wh pins s1 σ H1 Q I1 q1
theorem Oo(ha:PT X a tA):PT X (.UnaryOp .Not a pos) (Xh tA):=by intro pins s σ H Q I h;exact isTrue_not<|ha pins s σ H (λc H1=>Q (!c) H1) I h
def R8(ta tb:TE):TE:=λσ H Q=>ta σ H λx H1=>∃c,x=.bl c/\if c=true then tb σ H1 Q else Q (.bl false) H1
def Xi(ta tb:TE):TE:=λσ H Q=>ta σ H λx H1=>∃c,x=.bl c/\if c=true then Q (.bl true) H1 else tb σ H1 Q
def R9(ta:TE):TE:=λσ H Q=>ta σ H λx H1=>∃c,x=.bl c/\Q (.bl<|!c) H1
theorem Oq{t:TE}(h:PE X a t):PE X (.BoolOp op [a] pos) t:=λpins s σ H Q I hw=>BoolOp_one<|h pins s σ H Q I hw
theorem Ot(ha:PE X a ta)(hb:PE X (.BoolOp .And (b::rest) pos) tb):PE X (.BoolOp .And (a::b::rest) pos) (R8 ta tb):=by intro pins s σ H Q I h;refine BoolOp_and<|bz (ha pins s σ H _ I h) λv s1 ⟨x,H1,I1,r1,q1⟩=>?_;obtain⟨c,rfl,q1⟩:=q1;cases r1;refine yr ?_;cases c with|true=>exact hb pins s1 σ H1 Q I1 q1|false=>exact{.bl false,H1,I1,rfl,q1}
theorem R_(ha:PE X a ta)(hb:PE X (.BoolOp .Or (b::rest) pos) tb):PE X (.BoolOp .Or (a::b::rest) pos) (Xi ta tb):=by intro pins s σ H Q I h;refine BoolOp_or<|bz (ha pins s σ H _ I h) λv s1 ⟨x,H1,I1,r1,q1⟩=>?_;obtain⟨c,rfl,q1⟩:=q1;cases r1;refine yr ?_;cases c with|false=>exact hb pins s1 σ H1 Q I1 q1|true=>exact{.bl true,H1,I1,rfl,q1}
theorem Ou(ha:PE X a ta):PE X (.UnaryOp .Not a pos) (R9 ta):=by intro pins s σ H Q I h;refine UnaryOp_<|bz (ha pins s σ H _ I h) λv s1 ⟨x,H1,I1,r1,q1⟩=>?_;obtain⟨c,rfl,q1⟩:=q1;cases r1;exact not_of<|yr {.bl<|!c,H1,I1,rfl,q1}
def tIf(t:TT)(ta tb:TE):TE:=λσ H Q=>t σ H λc H1=>if c=true then ta σ H1 Q else tb σ H1 Q
theorem Ha(hc:PT X c tA)(ha:PE X a ta)(hb:PE X b tb):PE X (.IfExp c a b pos) (tIf tA ta tb):=by intro pins s σ H Q I h;refine wpAny_IfExp<|bz (hc pins s σ H _ I h) λd s1 ⟨H1,I1,q1⟩=>?_;cases d with|true=>exact ha pins s1 σ H1 Q I1 q1|false=>exact hb pins s1 σ H1 Q I1 q1
end
def iZ(K:Frag)(H:Hp)(a:Addr)(xs:List V):Prop:=Rd H a (.lst xs)\/∃(o:Obj)(az:Array Value)(n:Nat),K.lookup a=some o/\o.cls=.type "list"/\o.dict=none/\o.data=.seq az n/\az.size<=sizeLine/\Vals xs az.toList
def gT(K:Frag)(H:Hp)(a:Addr)(xs:List V):Prop:=Rd H a (.tup xs)\/∃(o:Obj)(az:Array Value)(n:Nat),K.lookup a=some o/\o.cls=.type "tuple"/\o.data=.seq az n/\az.size<=sizeLine/\Vals xs az.toList
noncomputable def Xj:Value->Option V|.none=>some .av|.bool b=>some (.bl b)|.int i _=>some (.int i)|.str x _=>some (.str x)|.bytes b _=>some (.Dn b)|.float b _=>some (.N_ b)|.ref a=>some (.ref a)|.type n=>some (.ty n)|_=>none
theorem RelV.abs(r:RelV x u):Xj u=some x:=by cases x with|av=>(cases r;rfl)|bl _=>(cases r;rfl)|int _=>(obtain⟨t,rfl⟩:=r;rfl)|str _=>(obtain⟨t,rfl⟩:=r;rfl)|Dn _=>(obtain⟨t,rfl⟩:=r;rfl)|N_ _=>(obtain⟨t,rfl⟩:=r;rfl)|ref _=>(cases r;rfl)|ty _=>cases r;rfl
theorem RelV.inj(r:RelV x u)(q:RelV y u):x=y:=zP<|r.abs.symm.trans q.abs
theorem Vals.inj:∀{xs ys:List V}{us:List Value},Vals xs us->Vals ys us->xs=ys|_,_,_,.nil,.nil=>rfl|_,_,_,.cons r t,.cons r' t'=>by rw[r.inj r',Vals.inj t t']
section
variable{X:Cx}{pins:List (Addr×Obj)}{σ:St}{H:Hp}{s:Shared}{a:Addr}{xs ys:List V}
theorem iZ.of{K:Frag}(h:H a=some (.lst xs)):iZ K H a xs:=.inl<|.inl h
theorem gT.of{K:Frag}(h:H a=some (.tup xs)):gT K H a xs:=.inl<|.inl h
theorem Inv.list(I:Inv X pins σ H s)(h:iZ X.K H a xs):∃az:List Value,Vals xs az/\PlainL s.heap a az.toArray/\xs.length<=sizeLine:=by rcases h with h|⟨o,az,n,hk,hc,hd,hs,hz,r⟩;obtain⟨z,az,n,r,e⟩:=h.ok I.aQ;exact{az,r,{_,n,e,rfl,rfl,rfl},z};refine{az.toList,r,{o,n,I.oY a o hk,hc,hd,by simpa using hs},?_};have e:=r.length;simp only[zT]at e;lia
theorem Inv.tuple(I:Inv X pins σ H s)(h:gT X.K H a xs):∃az:List Value,Vals xs az/\IsTup s.heap a az.toArray/\xs.length<=sizeLine:=by rcases h with h|⟨o,az,n,hk,hc,hs,hz,r⟩;obtain⟨z,az,r,p⟩:=h.ok I.aQ;exact⟨az,r,p.tup,z⟩;refine{az.toList,r,{o,I.oY a o hk,hc,n,by simpa using hs},?_};have e:=r.length;simp only[zT]at e;lia
theorem Inv.qX(I:Inv X pins σ H s)(h:iZ X.K H a xs)(h':iZ X.K H a ys):xs=ys:=by
 obtain⟨az,r,⟨o,n,e,_,_,d⟩,_⟩:=I.list h;obtain⟨its',r',⟨o',n',e',_,_,d'⟩,_⟩:=I.list h';rw[e]at e';cases e';rw[d]at d';injection d' with d1 _;have:az=its':=by simpa using congrArg Array.toList d1
 subst this;exact r.inj r'
theorem Inv.nU(I:Inv X pins σ H s)(h:gT X.K H a xs)(h':gT X.K H a ys):xs=ys:=by
 obtain⟨az,r,⟨o,e,_,n,d⟩,_⟩:=I.tuple h;obtain⟨its',r',⟨o',e',_,n',d'⟩,_⟩:=I.tuple h';rw[e]at e';cases e';rw[d]at d';injection d' with d1 _;have:az=its':=by simpa using congrArg Array.toList d1
 subst this;exact r.inj r'
end
noncomputable abbrev Cx.abU(X:Cx)(E:Value->Shared->Prop):Cx:={X with xe:=E}
section
variable{X:Cx}{st:Stmt}{rest:List Stmt}{t u:TS}{e:Expr}{te:TE}{pos:Pos}
def Sb:TS:=λD σ H=>D.nx σ H
def Xk(t u:TS):TS:=λD σ H=>t {D with nx:=u D} σ H
theorem Km:Dq X [] Sb:=λ_ _ σ H _ I h=>wpAny_execs_nil ⟨σ,H,I,h⟩
theorem Hb(h1:PS X st t)(h2:Dq X rest u):Dq X (st::rest) (Xk t u):=by intro pins s σ H D I h;refine wpAny_execs_cons<|bz (h1 pins s σ H {D with nx:=u D} I h) λf s1 q=>?_;cases f with|next=>(obtain⟨aF,H',I',q⟩:=q;exact h2 pins s1 aF H' D I' q)|ret v=>exact q|brk=>exact q|cont=>exact q
theorem Ko(h1:PS X st t):Dq X [st] t:=by intro pins s σ H D I h;refine wpAny_execs_cons<|bz (h1 pins s σ H D I h) λf s1 q=>?_;cases f with|next=>exact wpAny_execs_nil q|ret v=>exact q|brk=>exact q|cont=>exact q
theorem Inv.quiet(I:Inv X pins σ H s):interactive X.env=false:=by simp[interactive,I.ok.kind]
def Sd(te:TE):TS:=λD σ H=>te σ H λ_ H1=>D.nx σ H1
theorem Ks(he:PE X e te)(hs:autoParam (swapsWith e none pos.line X.env=pure false) qQJ):PS X (.Expr e pos) (Sd te):=by intro pins s σ H D I h;exact wpAny_Expr_any (bz (he pins s σ H _ I h) <| by rintro v s1 ⟨x,H1,I1,r1,q1⟩;exact⟨σ,H1,I1,q1⟩) I.quiet hs
def Xl(te:TE):TS:=λD σ H=>te σ H D.rt
theorem Ov(he:PE X e te):PS X (.Return (some e) pos) (Xl te):=by intro pins s σ H D I h;exact wpAny_Return_some<|bz (he pins s σ H _ I h) <| by rintro v s1 ⟨x,H1,I1,r1,q1⟩;exact⟨x,σ,H1,I1,r1,q1⟩
def Xm(c:TT)(t u:TS):TS:=λD σ H=>c σ H λb H1=>if b=true then t D σ H1 else u D σ H1
theorem Se(hc:PT X c tc)(ha:Dq X a t)(hb:Dq X b u):PS X (.If c a b pos) (Xm tc t u):=by intro pins s σ H D I h;refine wpAny_If<|bz (hc pins s σ H _ I h) λd s1 ⟨H1,I1,q1⟩=>?_;cases d with|true=>exact ha pins s1 σ H1 D I1 q1|false=>exact hb pins s1 σ H1 D I1 q1
end
abbrev TG:=V->St->Hp->(St->Hp->Prop)->Prop
abbrev MX:=List V->St->Hp->(St->Hp->Prop)->Prop
def PG(X:Cx)(target:Expr)(t:TG):Prop:=∀(pins:List (Addr×Obj))(s:Shared)(σ:St)(H:Hp)(v:V)(u:Value)(Q:St->Hp->Prop),Inv X pins σ H s->RelV v u->t v σ H Q->wpAny (model X.prog X.w) X.A (assign target X.env u) (λ_ s'=>∃aF H',Inv X pins aF H' s'/\Q aF H') X.xe s
def MY(X:Cx)(ts:List Expr)(t:MX):Prop:=∀(pins:List (Addr×Obj))(s:Shared)(σ:St)(H:Hp)(vs:List V)(us:List Value)(Q:St->Hp->Prop),Inv X pins σ H s->Vals vs us->t vs σ H Q->wpAny (model X.prog X.w) X.A (assignInOrder ((assignEach ts X.env).map (·.2)) us) (λ_ s'=>∃aF H',Inv X pins aF H' s'/\Q aF H') X.xe s
abbrev Ow:=V->V->V->Hp->(Hp->Prop)->Prop
def Sf(X:Cx)(t:Ow):Prop:=∀(pins:List (Addr×Obj))(s:Shared)(σ:St)(H:Hp)(o i v:V)(ov iv u:Value)(Q:Hp->Prop),Inv X pins σ H s->RelV o ov->RelV i iv->RelV v u->t o i v H Q->wpAny (model X.prog X.w) X.A (setItem ov iv u) (λ_ s'=>∃H',Inv X pins σ H' s'/\Q H') X.xe s
abbrev Xn:=V->V->Hp->VK->Prop
def PIp(X:Cx)(op:Operator)(t:Xn):Prop:=∀(pins:List (Addr×Obj))(s:Shared)(σ:St)(H:Hp)(x y:V)(v u:Value)(Q:VK),Inv X pins σ H s->RelV x v->RelV y u->t x y H Q->wpAny (model X.prog X.w) X.A (inplaceOp op v u) (EP X pins σ Q) X.xe s
section
variable{X:Cx}{pos:Pos}
def i0(i:Nat):TG:=λv σ H Q=>Q (σ.set i<|some v) H
theorem qy(hN:X.N.Nodup)(hi:X.N[i]?=some x)(hx:Loc X.env.scope x)(hf:autoParam (X.fn x=true\/X.env.scope.names.lookup x=some .local) qQ6):PG X (.Name x pos) (i0 i):=by intro pins s σ H v u Q I r h;exact wpAny_assign_Name<|qW I hN hi hx r (λs' I'=>{_,H,I',h}) hf
def Kt:MX:=λvs σ H Q=>vs=[]/\Q σ H
def qY(t:TG)(u:MX):MX:=λvs σ H Q=>∃v r,vs=v::r/\t v σ H λaF H'=>u r aF H' Q
theorem Dw:MY X [] Kt:=by intro pins s σ H vs us Q I r h;obtain⟨e,h⟩:=h;subst e;cases r;exact assignInOrder_nil ⟨σ,H,I,h⟩
theorem qZ{t:TG}(h1:PG X e t)(h2:MY X es u) (hs:autoParam ((assignEach (e::es) X.env).map (·.2)=assign e X.env::(assignEach es X.env).map (·.2)) qQJ):MY X (e::es) (qY t u):=by intro pins s σ H vs us Q I r h;obtain⟨v,vr,e1,h⟩:=h;subst e1;cases r with|cons r rr=>rw[hs];refine assignInOrder_cons<|bz (h1 pins s σ H _ _ _ I r h) λ_ s1 ⟨xm,H1,I1,q1⟩=>?_;exact h2 pins s1 xm H1 _ _ Q I1 rr q1
def Ku(K:Frag)(n:Nat)(t:MX):TG:=λv σ H Q=>∃a xs,v=.ref a/\gT K H a xs/\xs.length=n/\t xs σ H Q
theorem Hc{t:MX}(hc:X.calm=true)(h:MY X es t) (hn:autoParam ((assignEach es X.env).length=n) qQJ) (xt:autoParam ((assignEach es X.env).findIdx? (·.1)=none) qQJ):PG X (.Tuple es k pos) (Ku X.K n t):=by intro pins s σ H v u Q I r hw;obtain⟨a,xs,e1,hq,hl,hw⟩:=hw;subst e1;cases r;obtain⟨az,rv,ht,hz⟩:=I.tuple hq;refine assign_Tuple_tuple (I.ok.hd hc) ht (by simp[hn,<-hl,rv.length]) xt λh' hx=>?_;have I1:Inv X pins σ H {s with heap:=h'}:=I.kept (t':=s.toks) λb o e=>hx b o (zA<|zx e) e;exact h pins _ σ H xs _ Q I1 (by simpa using rv) hw
def Xo(to ti:TE)(t:Ow):TG:=λv σ H Q=>to σ H λo H1=>ti σ H1 λi H2=>t o i v H2 λH3=>Q σ H3
theorem Ox{t:Ow}(ho:PE X o to)(hi:PE X i ti)(hs:Sf X t)
  (ha:autoParam (∀v,assign (.Subscript o i pos) X.env v=(do
   let ov <-holding [v] (eval o X.env)
   let iv <-holding [v,ov] (eval i X.env)
   standAt pos
   holding [v,ov,iv] (setItem ov iv v)
   release [v,ov,iv] [])) qQ0):PG X (.Subscript o i pos) (Xo to ti t):=by
 intro pins s σ H v u Q I r h
 rw[ha]
 refine zc<|yE<|bz (ho pins s σ H _ I h) λov s1 ⟨x,H1,I1,r1,q1⟩=>?_
 refine zc<|yE<|bz (hi pins s1 σ H1 _ I1 q1) λiv s2 ⟨y,H2,I2,r2,q2⟩=>?_
 refine zc<|wpAny_standAt<|zc<|yE<|bz (hs pins s2 σ H2 x y v ov iv u _ I2 r1 r2 r q2) λ_ s3 ⟨H3,I3,q3⟩=>?_
 exact wpAny_release ⟨σ,H3,I3,q3⟩
def Oy(te:TE)(g:TG):TS:=λD σ H=>te σ H λx H1=>g x σ H1 D.nx
theorem Hd(he:PE X e te)(hg:PG X tg g)(hs:autoParam (swapsWithSole [tg] e pos.line X.env=pure false) qQJ)(hw:autoParam (swappedStores [tg] e X.env=pure none) qQJ) (h1:autoParam ((assignEach [tg] X.env).map (·.2)=[assign tg X.env]) qQJ):PS X (.Assign [tg] e pos) (Oy te g):=by intro pins s σ H D I h;refine wpAny_Assign_stores (bz (he pins s σ H _ I h) λv s1 ⟨x,H1,I1,r1,q1⟩=>?_) hs hw;rw[h1];exact bz (hg pins s1 σ H1 x v _ I1 r1 q1) λ_ s2 q=>q
theorem Oz(hN:X.N.Nodup)(hi:X.N[i]?=some x)(hx:Loc X.env.scope x)(he:PE X e te)(hs:autoParam (swapsWith e (some<|.Name x pos') pos.line X.env=pure false) qQJ)(hf:autoParam (X.fn x=true\/X.env.scope.names.lookup x=some .local) qQ6): PS X (.Assign [.Name x pos'] e pos) (Oy te<|i0 i):=by intro pins s σ H D I h;refine wpAny_Assign_Name (bz (he pins s σ H _ I h) λv s1 ⟨y,H1,I1,r1,q1⟩=>?_) hs;exact qW I1 hN hi hx r1 (λs2 I2=>{_,H1,I2,q1}) hf
def Xp(i:Nat)(te:TE)(ti:Xn):TS:=λD σ H=>∃x,σ[i]?=some (some x)/\te σ H λy H1=>ti x y H1 λz H2=>D.nx (σ.set i<|some z) H2
theorem OA(hN:X.N.Nodup)(hi:X.N[i]?=some x)(hx:Loc X.env.scope x)(he:PE X e te)(ho:PIp X op ti)(hf:autoParam (X.fn x=true\/X.env.scope.names.lookup x=some .local) qQ6): PS X (.AugAssign (.Name x pos') op e pos) (Xp i te ti):=by
 intro pins s σ H D I h;obtain⟨v,e1,h⟩:=h;obtain⟨m,hn,hl⟩:=I.loc;have vis:Q_ X.env.scope x:=by rcases hx with k|k;exact .inl k;exact .inr<|.inl k
 obtain⟨u,r,l⟩:=hl i x v hi e1 vis;refine wpAny_AugAssign_Name ?_;have go:wpAny (model X.prog X.w) X.A (eval e X.env) (λw bW=>wpAny (model X.prog X.w) X.A (inplaceOp op u w) (λr Bi=>wpAny (model X.prog X.w) X.A (storeName X.env x r) (λ_=>SP X pins D .next) X.xe Bi) X.xe bW) X.xe s:=by refine bz (he pins s σ H _ I h) λw s1 ⟨y,H1,I1,r1,q1⟩=>?_;refine bz (ho pins s1 σ H1 v y u w _ I1 r r1 q1) λz s2 ⟨zv,H2,I2,r2,q2⟩=>?_;exact qW I2 hN hi hx r2 (λs3 I3=>{_,H2,I3,q2}) hf
 rcases l with⟨hk,hm⟩|⟨hk,c,hc,Ds⟩;exact wpAny_loadName_local I.ok.kind hk hn hm go;rcases hk with hk|hk;exact wpAny_loadName_cell I.ok.kind hk hc Ds go;rcases hx with k|k;have:X.env.scope.names.lookup x=some .free:=hk;rw[k]at this;cases this;have:X.env.scope.names.lookup x=some .free:=hk;rw[k]at this;cases this
def ipI(f:Int->Int->Int):Xn:=λx y H Q=>∃i j,x=.int i/\y=.int j/\Q (.int<|f i j) H
theorem OB:PIp X .Add (ipI λi j=>i+j):=by intro pins s σ H x y v u Q I r1 r2 h;obtain⟨i,j,e1,e2,q⟩:=h;subst e1;subst e2;obtain⟨t,rfl⟩:=r1;obtain⟨t',rfl⟩:=r2;exact iadd_int {.int _,H,I.tok _,{_,rfl},q}
def OC(c:TT)(tb:TS):TS:=λD σ H=>∃W:Nat->St->Hp->Prop,(∃m,W m σ H)/\∀m σ H,W m σ H->c σ H λb H1=>if b=true then ∃N:St->Hp->Prop,(∀aF H',N aF H'->∃m',m'<m/\W m' aF H')/\tb {D with nx:=N,ct:=N,bk:=D.nx} σ H1 else D.nx σ H1
theorem He(hp:PassesOwn (model X.prog X.w) X.A X.env X.xe)(hc:PT X c tc)(hb:Dq X body tb):PS X (.While c body [] pos) (OC tc tb):=by intro pins s σ H D I h;obtain⟨W,⟨m0,w0⟩,turn⟩:=h;refine wpAny_While<|codeAny_whileLoop (λn s'=>∃aF H',Inv X pins aF H' s'/\W n aF H') ?_ m0 ⟨σ,H,I,w0⟩;rintro n s1 ⟨xm,H1,I1,w1⟩;refine wpAny_passesOwn hp<|bz (hc pins s1 xm H1 _ I1<|turn n xm H1 w1) λb s2 ⟨H2,I2,q2⟩=>?_;cases b with|true=>(obtain⟨N,hN,q2⟩:=q2;rw[if_pos rfl];refine wpAny_passesOwn hp<|bz (hb pins s2 xm H2 _ I2 q2) λf s3 q3=>?_;cases f with|next=>(obtain⟨jj,H3,I3,n3⟩:=q3;obtain⟨m',hm,w3⟩:=hN jj H3 n3;exact⟨m',hm,jj,H3,I3,w3⟩)|cont=>(obtain⟨jj,H3,I3,n3⟩:=q3;obtain⟨m',hm,w3⟩:=hN jj H3 n3;exact⟨m',hm,jj,H3,I3,w3⟩)|brk=>exact q3|ret v=>exact q3)|false=>rw[if_neg zd];exact wpAny_execs_nil ⟨xm,H2,I2,q2⟩
end
structure It where
 go:Nat->Hp->Prop
 Sh:Nat->Hp->V->Hp->Prop
 stop:Nat->Hp->Prop
def q8(X:Cx)(pins:List<|Addr×Obj)(H:Hp)(b:Addr):Prop:=H b=none/\b≠X.env.locals/\b∉X.fs/\(b∈X.ex\/X.cX.heap.objs.size<=b)/\(∀x c,X.env.cells.lookup x=some c->c≠b)/\∀p∈X.pn++pins,p.1≠b
theorem Inv.nV(I:Inv X pins σ H s)(hb:s.heap.objs.size<=b)(hn:H' b=none):q8 X pins H' b:=by refine{hn,ym<|zq I.lt hb,I.R4 hb,.inr<|zG I.sz hb,λx c e z=>?_,λp hp z=>?_};obtain⟨v,q⟩:=I.cell x c e;exact absurd (zq q.lt<|by rw[z];exact hb)<|yy _;exact absurd (zq (zx (I.pin p hp).1)<|by rw[z];exact hb)<|yy _
structure Turn(P:Program)(w:World)(K:Frag)(tg:Expr)(J:It)(fp:List Addr)(it:Addr)(tn:Nat->Heap->Prop):Prop where
 mem:it∈fp
 obj:∀i h,tn i h->∀b∈fp,∃o,h.get? b=some o/\∀v,o.data≠.cell v
 keep:∀i h h',tn i h->(∀b∈fp,∀o,h.get? b=some o->h'.get? b=some o)->tn i h'
 item:∀(X:Cx),X.prog=P->X.w=w->X.K=K->X.calm=true->∀(i:Nat)(pins:List (Addr×Obj))(s:Shared)(σ:St)(H:Hp)(E:Value->Shared->Prop),Inv X pins σ H s->(∀b∈fp,q8 X pins H b)->tn i s.heap->J.go i H ->
  wpAny (model P w) X.A (pyNext<|.ref it) (λr s1=>∃u,r=some u /\
   wpAny (model P w) X.A (letOwnedTupleGo tg (.ref it) u) (λ_ s2=>∃x H',Inv X pins σ H' s2/\RelV x u/\J.Sh i H x H'/\tn (i+1) s2.heap/\∀b∈fp,H' b=none) E s1) E s
 done:∀(X:Cx),X.prog=P->X.w=w->X.K=K->X.calm=true->∀(i:Nat)(pins:List (Addr×Obj))(s:Shared)(σ:St)(H:Hp)(E:Value->Shared->Prop),Inv X pins σ H s->(∀b∈fp,q8 X pins H b)->tn i s.heap->J.stop i H ->
  wpAny (model P w) X.A (pyNext<|.ref it) (λr s1=>r=none/\Inv X pins σ H s1) E s
 self:∀(A:Around)(i:Nat)(s:Shared)(Q:Value->Shared->Prop)(E:Value->Shared->Prop),tn i s.heap->Q (.ref it) s->wpAny (model P w) A (pyIter<|.ref it) Q E s
abbrev TI:=St->Hp->(It->Hp->Prop)->Prop
def Xq(X:Cx)(pins:List<|Addr×Obj)(σ:St)(tg:Expr)(R:It->Hp->Prop)(V2:Value)(s2:Shared):Prop:=∃(it:Addr)(fp:List Addr)(tn:Nat->Heap->Prop)(J:It)(H':Hp),V2=.ref it/\Inv X pins σ H' s2/\Turn X.prog X.w X.K tg J fp it tn/\tn 0 s2.heap/\(∀b∈fp,q8 X pins H' b)/\R J H'
def PI(X:Cx)(tg iter:Expr)(wi:TI):Prop:=∀(pins:List (Addr×Obj))(s:Shared)(σ:St)(H:Hp)(R:It->Hp->Prop),Inv X pins σ H s->wi σ H R->wpAny (model X.prog X.w) X.A (eval iter X.env) (λv s1=>wpAny (model X.prog X.w) X.A (pyIter v) (Xq X pins σ tg R) X.xe s1) X.xe s
theorem uE(ho:s.heap.get? it=some o)(hc:o.cls=.type n)(hd:o.data=.fields vs) (hn:["enumerate","zip","dict_itemiterator","dict_reverseitemiterator","odict_iterator","itertools.zip_longest","itertools.pairwise"].contains n=false) (hQ:Q () s):wpAny M A (letOwnedTupleGo tg (.ref it) u) Q E s:=by
 unfold letOwnedTupleGo
 cases tg<;>first
  |exact zm hQ
  | (cases u<;>first
    |exact zm hQ
    | (refine zc (wpAny_load ho ?_)
       rw[hc,hd]
       show wpAny M A (if (["enumerate","zip","dict_itemiterator","dict_reverseitemiterator","odict_iterator","itertools.zip_longest","itertools.pairwise"].contains n&&vs[0]?==some (rawInt _))=true then _ else _) Q E s
       rw[if_neg<|by intro h;rw[hn,zS]at h;cases h]
       exact zm hQ))
noncomputable def Itl(K:Frag)(a:Addr):It:={λi H=>∃xs x,iZ K H a xs/\xs[i]?=some x,λi H x H'=>H'=H/\∀xs,iZ K H a xs->xs[i]?=some x,λi H=>∃xs,iZ K H a xs/\xs.length<=i}
noncomputable def Itt(K:Frag)(a:Addr):It:={λi H=>∃xs x,gT K H a xs/\xs[i]?=some x,λi H x H'=>H'=H/\∀xs,gT K H a xs->xs[i]?=some x,λi H=>∃xs,gT K H a xs/\xs.length<=i}
noncomputable def V3(lo:Int)(n:Nat):It:={λi _=>i<n,λi H x H'=>H'=H/\x=.int (lo+i),λi _=>n<=i}
theorem E7{P:Program}{w:World}{K:Frag}{tg:Expr}(a it:Addr):Turn P w K tg (Itl K a) [it] it (λi h=>h.IsListIter it a i) where
 mem:=by simp
 obj:=λi h st b hb=>by
  have e:b=it:=by simpa using hb
  subst e
  obtain⟨o,e,c,d⟩:=st
  exact{o,e,λv z=>by rw[d]at z;cases z}
 keep:=λi h h' st k=>st.at λo e=>k it (by simp) o e
 item:=by
  intro X hP hw hK hc i pins s σ H E I hf st hg
  subst hP hw hK
  obtain⟨xs,x,hq,hx⟩:=hg
  obtain⟨az,rv,p,hz⟩:=I.list hq
  obtain⟨u,hu,ru⟩:=rv.get hx
  obtain⟨f0,f1,f2,f3,f4,f5⟩:=hf it<|by simp
  refine wpAny_pyNext_list_item st p.isList (x:=u) (by simpa using hu) λh' eM sb=>?_
  have I1:Inv X pins σ H {s with heap:=h'}:=I.turned (t':=s.toks) (λb o hb e=>(sb.2 b hb).trans e) f0 f1 f3 f4 f5
  obtain⟨o,e,c,d⟩:=id eM
  exact{u,rfl,uE (s:={s with heap:=h'}) e c d (by decide) {x,H,I1,ru,{rfl,λys hy=>by rw[I.qX hy hq];exact hx},eM,λb hb=>(hf b hb).1}}
 done:=by
  intro X hP hw hK hc i pins s σ H E I hf st hg
  subst hP hw hK
  obtain⟨xs,hq,hx⟩:=hg
  obtain⟨az,rv,p,hz⟩:=I.list hq
  obtain⟨f0,f1,f2,f3,f4,f5⟩:=hf it<|by simp
  have hl:=rv.length
  exact wpAny_pyNext_list_end (I.ok.hd hc) st p.isList (by simp;lia) λh' eb=>{rfl,I.turned (t':=s.toks) (λb o hb e=>eb b o hb e) f0 f1 f3 f4 f5}
 self:=λ_ _ _ _ _ st h=>wpAny_pyIter_listiter st h
theorem Bj{P:Program}{w:World}{K:Frag}{tg:Expr}(a it:Addr):Turn P w K tg (Itt K a) [it] it (λi h=>h.IsTupleIter it a i) where
 mem:=by simp
 obj:=λi h st b hb=>by
  have e:b=it:=by simpa using hb
  subst e
  obtain⟨o,e,c,d⟩:=st
  exact{o,e,λv z=>by rw[d]at z;cases z}
 keep:=λi h h' st k=>st.at λo e=>k it (by simp) o e
 item:=by
  intro X hP hw hK hc i pins s σ H E I hf st hg
  subst hP hw hK
  obtain⟨xs,x,hq,hx⟩:=hg
  obtain⟨az,rv,p,hz⟩:=I.tuple hq
  obtain⟨u,hu,ru⟩:=rv.get hx
  obtain⟨f0,f1,f2,f3,f4,f5⟩:=hf it<|by simp
  refine wpAny_pyNext_tuple_item st (show s.heap.IsTuple a az.toArray from p) (x:=u) (by simpa using hu) λh' eM sb=>?_
  have I1:Inv X pins σ H {s with heap:=h'}:=I.turned (t':=s.toks) (λb o hb e=>(sb.2 b hb).trans e) f0 f1 f3 f4 f5
  obtain⟨o,e,c,d⟩:=id eM
  exact{u,rfl,uE (s:={s with heap:=h'}) e c d (by decide) {x,H,I1,ru,{rfl,λys hy=>by rw[I.nU hy hq];exact hx},eM,λb hb=>(hf b hb).1}}
 done:=by
  intro X hP hw hK hc i pins s σ H E I hf st hg
  subst hP hw hK
  obtain⟨xs,hq,hx⟩:=hg
  obtain⟨az,rv,p,hz⟩:=I.tuple hq
  obtain⟨f0,f1,f2,f3,f4,f5⟩:=hf it<|by simp
  have hl:=rv.length
  exact wpAny_pyNext_tuple_end (I.ok.hd hc) st (show s.heap.IsTuple a az.toArray from p) (by simp;lia) λh' eb=>{rfl,I.turned (t':=s.toks) (λb o hb e=>eb b o hb e) f0 f1 f3 f4 f5}
 self:=λ_ _ _ _ _ st h=>wpAny_pyIter_tupleiter st h
theorem Bk{P:Program}{w:World}{K:Frag}{tg:Expr}(it:Addr)(lo:Int)(n:Nat):Turn P w K tg (V3 lo n) [it] it (λi h=>IsRangeIter h it (lo+(i:Nat)*1) ((n:Int)-(i:Nat)) 1) where
 mem:=by simp
 obj:=λi h st b hb=>by
  have e:b=it:=by simpa using hb
  subst e
  exact⟨_,st,λv z=>by
   have z':Data.fields _=Data.cell v:=z
   cases z'⟩
 keep:=λi h h' st k=>k it (by simp) _ st
 item:=by
  intro X hP hw hK hc i pins s σ H E I hf st hg
  subst hP hw hK
  obtain⟨f0,f1,f2,f3,f4,f5⟩:=hf it<|by simp
  have W:=Walks.range (prog:=X.prog) (w:=X.w) (I.ok.hd hc) it lo 1 n
  refine W.item i s _ _ hg st λv h' tk hv eM kk=>?_
  obtain⟨t,rfl⟩:=hv
  have I1:Inv X pins σ H {s with heap:=h',toks:=tk}:=I.turned (λb o hb e=>kk b o (by simpa using hb) e) f0 f1 f3 f4 f5
  refine{_,rfl,uE (s:={s with heap:=h',toks:=tk}) (n:="range_iterator") eM rfl rfl (by decide) {.int<|lo+i,H,I1,{t,?_},⟨rfl,rfl⟩,eM,λb hb=>(hf b hb).1}}
  rw[Int.mul_one]
 done:=by
  intro X hP hw hK hc i pins s σ H E I hf st hg
  subst hP hw hK
  obtain⟨f0,f1,f2,f3,f4,f5⟩:=hf it<|by simp
  exact wpAny_pyNext_range_end (I.ok.hd hc) st (by have:n<=i:=hg;lia) λh' eb=>{rfl,I.turned (t':=s.toks) (λb o hb e=>eb b o hb e) f0 f1 f3 f4 f5}
 self:=λ_ _ _ _ _ st h=>wpAny_pyIter_rangeiter st h
section
variable{X:Cx}{tg:Expr}
def Si(K:Frag)(tl:TE):TI:=λσ H R=>tl σ H λx H1=>∃a,x=.ref a/\(∃xs,iZ K H1 a xs)/\R (Itl K a) H1
def Xr(K:Frag)(tl:TE):TI:=λσ H R=>tl σ H λx H1=>∃a,x=.ref a/\(∃xs,gT K H1 a xs)/\R (Itt K a) H1
theorem Kv{l:Expr}{tl:TE}(hl:PE X l tl):PI X tg l (Si X.K tl):=by
 intro pins s σ H R I h;refine bz (hl pins s σ H _ I h) λv s1 ⟨x,H1,I1,r1,q1⟩=>?_;obtain⟨a,e,⟨xs,hq⟩,q⟩:=q1;subst e;cases r1;obtain⟨az,rv,p,hz⟩:=I1.list hq;refine wpAny_pyIter_list p.isList ?_;refine{s1.heap.objs.size,[s1.heap.objs.size],_,_,H1,rfl,I1.kept (t':=s1.toks) λb o e=>za _ e,E7 a _,{_,zk _ rfl,rfl,rfl},λb hb=>?_,q};have e:b=s1.heap.objs.size:=by simpa using hb
 subst e;exact I1.nV (zo _)<|I1.aQ.fresh<|zo _
theorem OD{l:Expr}{tl:TE}(hl:PE X l tl):PI X tg l (Xr X.K tl):=by
 intro pins s σ H R I h;refine bz (hl pins s σ H _ I h) λv s1 ⟨x,H1,I1,r1,q1⟩=>?_;obtain⟨a,e,⟨xs,hq⟩,q⟩:=q1;subst e;cases r1;obtain⟨az,rv,p,hz⟩:=I1.tuple hq;refine wpAny_pyIter_tuple (show s1.heap.IsTuple a az.toArray from p) ?_;refine{s1.heap.objs.size,[s1.heap.objs.size],_,_,H1,rfl,I1.kept (t':=s1.toks) λb o e=>za _ e,Bj a _,{_,zk _ rfl,rfl,rfl},λb hb=>?_,q};have e:b=s1.heap.objs.size:=by simpa using hb
 subst e;exact I1.nV (zo _)<|I1.aQ.fresh<|zo _
theorem Hf{pins:List<|Addr×Obj}{σ:St}{H:Hp}{s:Shared}{R:It->Hp->Prop}{E:Value->Shared->Prop}{lo hi:Int}{t u v:Tok}{tk:Nat}(I:Inv X pins σ H s)(h1:-(2^62)<=lo)(h2:lo<2^62)(h3:-(2^62)<=hi)(h4:hi<2^62) (q:R (V3 lo (hi-lo).toNat) H):wpAny (model X.prog X.w) X.A (pyIter<|.ref s.heap.objs.size) (Xq X pins σ tg R) E {s with heap:=s.heap.push {cls:=.type "range",data:=.fields #[.int lo t,.int hi u,.int 1 v]},toks:=tk}:=by
 refine wpAny_pyIter_range (IsRange.new ..) (small_one h1 h2 h3 h4) ?_;have I1:Inv X pins σ H {s with heap:=s.heap.push {cls:=.type "range",data:=.fields #[.int lo t,.int hi u,.int 1 v]},toks:=tk}:=I.kept λb o e=>za _ e;refine{(s.heap.push {cls:=.type "range",data:=.fields #[.int lo t,.int hi u,.int 1 v]}).objs.size,[(s.heap.push {cls:=.type "range",data:=.fields #[.int lo t,.int hi u,.int 1 v]}).objs.size],_,_,H,rfl,I1.kept (t':=tk) λb o e=>za _ e,Bk _ lo (hi-lo).toNat,?_,λb hb=>?_,q};have e1:lo+((0:Nat):Int)*1=lo:=by simp
 have e2:(((hi-lo).toNat:Nat):Int)-((0:Nat):Int)=Builtin.Range.rangeSize lo hi 1:=by rw[rangeSize_one];split<;>lia
 show IsRangeIter _ _ (lo+((0:Nat):Int)*1) ((((hi-lo).toNat:Nat):Int)-((0:Nat):Int)) 1;rw[e1,e2];exact zk _ rfl;have e:b=(s.heap.push {cls:=.type "range",data:=.fields #[.int lo t,.int hi u,.int 1 v]}).objs.size:=by simpa using hb
 subst e;exact I1.nV (zo _)<|I1.aQ.fresh<|zo _
def Sj(ta:TA):TI:=λσ H R=>ta σ H λvs H1=>∃j:Int,vs=[.int j]/\-(2^62)<=j/\j<2^62/\R (V3 0 j.toNat) H1
theorem E8{a:Expr}{ta:TA}{p pos:Pos}(hg:Gl X "range")(hm:X.mg "range"= none)(ha:PA X [a] ta)(hs:autoParam (starEach [a] X.env=[(false,eval a X.env)]) qQJ):PI X tg (.Call (.Name "range" p) [a] [] pos) (Sj ta):=by intro pins s σ H R I h;refine Call_<|fj I hg hm boot_range<|PyProof.Rows.callWith_type1 (bz (ha pos pins s σ H _ I h) λus s1 ⟨vs,H1,I1,r1,q1⟩=>?_) hs rfl;obtain⟨j,e,q1,q2,q⟩:=q1;subst e;cases r1 with|cons r rr=>cases rr;obtain⟨t,rfl⟩:=r;exact call_range_1<|Hf I1 (by lia) (by lia) q1 q2<|by simpa using q
def Xs(wi:TI)(g:TG)(tb:TS):TS:=λD σ H=>wi σ H λJ H1=>∃W:Nat->Nat->St->Hp->Prop,(∃m,W 0 m σ H1)/\∀i m σ H,W i m σ H->(J.stop i H/\D.nx σ H)\/(J.go i H/\∃N:St->Hp->Prop,(∀aF H',N aF H'->∃m',m'<m/\W (i+1) m' aF H')/\∀x H',J.Sh i H x H'->g x σ H' λqz H2=>tb {D with nx:=N,ct:=N,bk:=D.nx} qz H2)
noncomputable def q9(fp:List Addr)(h:Heap):List (Addr×Obj):=fp.filterMap λb=>(h.get? b).map λo=>(b,o)
theorem iz(hb:b∈fp)(e:h.get? b=some o):(b,o)∈q9 fp h:=List.mem_filterMap.mpr {b,hb,by rw[e];rfl}
theorem E9(hp:p∈q9 fp h):p.1∈fp/\h.get? p.1=some p.2:=by obtain⟨b,hb,e⟩:=List.mem_filterMap.mp hp;cases q:h.get? b with|none=>(rw[q]at e;cases e)|some o=>rw[q]at e;have e':(b,o)=p:=zP e;subst e';exact⟨hb,q⟩
theorem Inv.pinned(I:Inv X pins σ H s)(hf:∀b∈fp,q8 X pins H b)(ho:∀b∈fp,∃o,s.heap.get? b=some o/\∀v,o.data≠.cell v):Inv X (pins++q9 fp s.heap) σ H s:=I.mw λp hp=>(zM.mp hp).elim (λz=>I.pin p<|zC _ z) λz=>by obtain⟨hb,e⟩:=E9 z;obtain⟨f0,f1,f2,_⟩:=hf p.1 hb;obtain⟨o,e',d⟩:=ho p.1 hb;rw[e]at e';cases e';exact⟨e,f0,f1,f2,d⟩
theorem Inv.q_(I:Inv X (pins++pl) σ H s):Inv X pins σ H s:=I.mw λp hp=>I.pin p<|zC _<|ye _ hp
theorem OE(hp:PassesOwn (model X.prog X.w) X.A X.env X.xe)(hc:X.calm=true)(hi:PI X tg iter wi)(hg:PG X tg g)(hb:Dq X body tb) (hs:autoParam (∀x,foldedSetIterable iter X.env x=pure x) qQ0):PS X (.For tg iter body [] pos) (Xs wi g tb):=by intro pins s σ H D I h;refine wpAny_For (bz (hi pins s σ H _ I h) λv s1 h1=>bz h1 λV2 s2 h2=>?_) hs;obtain⟨it,fp,tn,J,H2,e,I2,T,Kw,f2,W,⟨m0,w0⟩,turn⟩:=h2;subst e;have OF:∀{H':Hp},(∀b∈fp,H' b=none)->∀b∈fp,q8 X pins H' b:=λhn b hb=>{hn b hb,(f2 b hb).2};refine codeAny_forLoop_any (λn s'=>∃i aF H',Inv X pins aF H' s'/\tn i s'.heap/\(∀b∈fp,H' b=none)/\W i n aF H') ?_ m0 {0,σ,H2,I2,Kw,λb hb=>(f2 b hb).1,w0};rintro n s3 ⟨i,jj,H3,I3,Sk,Sl,w3⟩;rcases turn i n jj H3 w3 with⟨stop,qn⟩|⟨go,N,hN,step⟩;refine wpAny_passesOwn hp<|bz (T.done X rfl rfl rfl hc i pins s3 jj H3 X.xe I3 (OF Sl) Sk stop) λr s4 ⟨hr,I4⟩=>?_;subst hr;exact wpAny_execs_nil ⟨jj,H3,I4,qn⟩;{refine wpAny_passesOwn hp<|bz (T.item X rfl rfl rfl hc i pins s3 jj H3 X.xe I3 (OF Sl) Sk go) λr s4 ⟨u,hr,h4⟩=>?_;subst hr;refine wpAny_passesOwn hp<|bz h4 λ_ s5 ⟨x,H5,I5,r5,y5,st5,fr5⟩=>?_;have Xt:=I5.pinned (OF fr5)<|T.obj _ _ st5;refine wpAny_passesOwn hp<|bz (hg _ s5 jj H5 x u _ Xt r5<|step x H5 y5) λ_ s6 ⟨Sm,H6,I6,q6⟩=>?_;refine wpAny_passesOwn hp<|bz (hb _ s6 Sm H6 _ I6 q6) λf s7 q7=>?_;have again:∀{Hg:St}{H7:Hp},Inv X (pins++q9 fp s5.heap) Hg H7 s7->N Hg H7->∃m,m<n/\∃i aF H',Inv X pins aF H' s7/\tn i s7.heap/\(∀b∈fp,H' b=none)/\W i m aF H':=λ{Hg H7} I7 n7=>(by obtain⟨m',hm,w7⟩:=hN Hg H7 n7;refine{m',hm,i+1,Hg,H7,I7.q_,T.keep _ _ _ st5 λb hb o e=>(I7.pin (b,o)<|zC _<|zC _<|iz hb e).1,λb hb=>?_,w7};obtain⟨o,e,d⟩:=T.obj _ _ st5 b hb;exact(I7.pin (b,o)<|zC _<|zC _<|iz hb e).2.1);cases f with|next=>(obtain⟨Hg,H7,I7,n7⟩:=q7;exact again I7 n7)|cont=>(obtain⟨Hg,H7,I7,n7⟩:=q7;exact again I7 n7)|brk=>(obtain⟨Hg,H7,I7,q7⟩:=q7;exact⟨Hg,H7,I7.q_,q7⟩)|ret v=>obtain⟨x7,Hg,H7,I7,r7,q7⟩:=q7;exact⟨x7,Hg,H7,I7.q_,r7,q7⟩}
end
abbrev R2:=V->V->Hp->VK->Prop
def gy(X:Cx)(f:Value->Value->Sem Value)(r:R2):Prop:=∀(pins:List (Addr×Obj))(s:Shared)(σ:St)(H:Hp)(x y:V)(v u:Value)(Q:VK),Inv X pins σ H s->RelV x v->RelV y u->r x y H Q->wpAny (model X.prog X.w) X.A (f v u) (EP X pins σ Q) X.xe s
def Xu(X:Cx)(f:Value->Sem Value)(r:V->Hp->VK->Prop):Prop:=∀(pins:List (Addr×Obj))(s:Shared)(σ:St)(H:Hp)(x:V)(v:Value)(Q:VK),Inv X pins σ H s->RelV x v->r x H Q->wpAny (model X.prog X.w) X.A (f v) (EP X pins σ Q) X.xe s
def eU(X:Cx)(f:Value)(r:List V->Hp->VK->Prop):Prop:=∀(pins:List (Addr×Obj))(s:Shared)(σ:St)(H:Hp)(xs:List V)(us:List Value)(Q:VK),Inv X pins σ H s->Vals xs us->r xs H Q->wpAny (model X.prog X.w) X.A (call f us) (EP X pins σ Q) X.xe s
def Rb(r:R2)(ta tb:TE):TE:=λσ H Q=>ta σ H λx H1=>tb σ H1 λy H2=>r x y H2 Q
def tUn(r:V->Hp->VK->Prop)(ta:TE):TE:=λσ H Q=>ta σ H λx H1=>r x H1 Q
def rI(C:Int->Int->Prop)(g:Int->Int->V):R2:=λx y H Q=>∃i j,x=.int i/\y=.int j/\C i j/\Q (g i j) H
def Kx(g:Int->Int->V):R2:=λx y H Q=>∃i j,x=.int i/\y=.int j/\Q (g i j) H
def rU(g:Int->V):V->Hp->VK->Prop:=λx H Q=>∃i,x=.int i/\Q (g i) H
section
variable{X:Cx}{a b:Expr}{ta tb:TE}{pos:Pos}
theorem OG(ha:PE X a ta)(hb:PE X b tb){pins:List<|Addr×Obj}{s:Shared}{σ:St}{H:Hp}{R:V->V->Hp->Prop}(I:Inv X pins σ H s) (h:ta σ H λx H1=>tb σ H1 λy H2=>R x y H2) {Q:Value->Shared->Prop}{f:Value->Value->Sem Value} (hf:∀v u s2 x y H2,Inv X pins σ H2 s2->RelV x v->RelV y u->R x y H2->wpAny (model X.prog X.w) X.A (f v u) Q X.xe s2): wpAny (model X.prog X.w) X.A (eval a X.env) (λv bj=>wpAny (model X.prog X.w) X.A (eval b X.env) (λu bW=>wpAny (model X.prog X.w) X.A (f v u) Q X.xe bW) X.xe bj) X.xe s:=by refine bz (ha pins s σ H _ I h) λv s1 ⟨x,H1,I1,r1,q1⟩=>?_;refine bz (hb pins s1 σ H1 _ I1 q1) λu s2 ⟨y,H2,I2,r2,q2⟩=>?_;exact hf v u s2 x y H2 I2 r1 r2 q2
theorem Sn{op:Operator}{r:R2}(ho:gy X (binaryOp op) r)(ha:PE X a ta)(hb:PE X b tb):PE X (.BinOp a op b pos) (Rb r ta tb):=by intro pins s σ H Q I h;exact wpAny_BinOp<|OG ha hb I h λv u s2 x y H2 I2 rx ry q=>ho pins s2 σ H2 x y v u Q I2 rx ry q
theorem So(ho:Xu X (unaryOp op) r)(ha:PE X a ta):PE X (.UnaryOp op a pos) (tUn r ta):=by intro pins s σ H Q I h;exact UnaryOp_<|bz (ha pins s σ H _ I h) <| by rintro v s1 ⟨x,H1,I1,r1,q1⟩;exact ho pins s1 σ H1 x v Q I1 r1 q1
theorem V4{f:Value->Value->Sem Value}{C:Int->Int->Prop}{g:Int->Int->Int} (rule:∀(i j:Int)(t u:Tok)(s:Shared)(Q:Value->Shared->Prop)(E:Value->Shared->Prop),C i j->Q (.int (g i j) s.toks) {s with toks:=s.toks+1}->wpAny (model X.prog X.w) X.A (f (.int i t)<|.int j u) Q E s): gy X f (rI C λi j=>.int<|g i j):=by intro pins s σ H x y v u Q I rx ry h;obtain⟨i,j,rfl,rfl,hc,q⟩:=h;obtain⟨t,rfl⟩:=rx;obtain⟨t',rfl⟩:=ry;exact rule i j t t' s _ _ hc {.int<|g i j,H,I.tok _,{_,rfl},q}
theorem Sq{f:Value->Value->Sem Value}{g:Int->Int->Int} (rule:∀(i j:Int)(t u:Tok)(s:Shared)(Q:Value->Shared->Prop)(E:Value->Shared->Prop),Q (.int (g i j) s.toks) {s with toks:=s.toks+1}->wpAny (model X.prog X.w) X.A (f (.int i t)<|.int j u) Q E s): gy X f (Kx λi j=>.int<|g i j):=by intro pins s σ H x y v u Q I rx ry h;obtain⟨i,j,rfl,rfl,q⟩:=h;obtain⟨t,rfl⟩:=rx;obtain⟨t',rfl⟩:=ry;exact rule i j t t' s _ _ {.int<|g i j,H,I.tok _,{_,rfl},q}
theorem Ky{f:Value->Value->Sem Value}{g:Int->Int->Bool} (rule:∀(i j:Int)(t u:Tok)(s:Shared)(Q:Value->Shared->Prop)(E:Value->Shared->Prop),Q (.bool<|g i j) s->wpAny (model X.prog X.w) X.A (f (.int i t)<|.int j u) Q E s): gy X f (Kx λi j=>.bl<|g i j):=by intro pins s σ H x y v u Q I rx ry h;obtain⟨i,j,rfl,rfl,q⟩:=h;obtain⟨t,rfl⟩:=rx;obtain⟨t',rfl⟩:=ry;exact rule i j t t' s _ _ {.bl<|g i j,H,I,rfl,q}
def Sr(i j:Int):Prop:=0<=j/\j<=1000000/\i.natAbs<2^64
def Kz(i j:Int):Prop:=(-(2^64)<i/\i<2^64)\/(-(2^64)<j/\j<2^64)
theorem Kz.ok{i j:Int}(h:Kz i j):IntMulOk i j:=by rcases h with⟨h1,h2⟩|⟨h1,h2⟩;exact .of_left<|intBits_le_64 h1 h2;exact .of_right<|intBits_le_64 h1 h2
theorem Hh:gy X (binaryOp .Add) (Kx λi j=>.int<|i+j):=Sq λ_ _ _ _ _ _ _ q=>add_int q
theorem OH:gy X (binaryOp .Sub) (Kx λi j=>.int<|i-j):=Sq λ_ _ _ _ _ _ _ q=>sub_int q
theorem OI:gy X (binaryOp .Mult) (rI Kz λi j=>.int<|i*j):=V4 λ_ _ _ _ _ _ _ hc q=>mul_int q hc.ok
theorem OJ:gy X (binaryOp .Mod) (rI (λ_ j=>0<j) λi j=>.int<|i%j):=V4 λi j _ _ _ _ _ hc q=>by have h1:(0:Int)<j:=hc;exact mod_int' (by lia)<|by rw[Int.fmod_eq_emod_of_nonneg i<|by lia];exact q
theorem OL:gy X (binaryOp .Pow) (rI Sr λi j=>.int<|i^j.toNat):=V4 λ_ _ _ _ _ _ _ hc q=>pow_int_small hc.1 hc.2.1 hc.2.2 q
theorem unI{f:Value->Sem Value}{g:Int->Int} (rule:∀(i:Int)(t:Tok)(s:Shared)(Q:Value->Shared->Prop)(E:Value->Shared->Prop),Q (.int (g i) s.toks) {s with toks:=s.toks+1}->wpAny (model X.prog X.w) X.A (f<|.int i t) Q E s): Xu X f (rU λi=>.int<|g i):=by intro pins s σ H x v Q I rx h;obtain⟨i,rfl,q⟩:=h;obtain⟨t,rfl⟩:=rx;exact rule i t s _ _ {.int<|g i,H,I.tok _,{_,rfl},q}
theorem OM:Xu X (unaryOp .USub) (rU λi=>.int (-i)):=unI λ_ _ _ _ _ q=>neg_int q
end
noncomputable def Ss:V->V->Bool|.av,.av=>true|.av,.int _=>true|.int _,.av=>true|.av,.bl _=>true|.bl _,.av=>true|.av,.str _=>true|.str _,.av=>true|.int _,.int _=>true|.bl _,.bl _=>true|.str _,.str _=>true|.Dn _,.Dn _=>true|.int _,.str _=>true|.str _,.int _=>true|.bl _,.str _=>true|.str _,.bl _=>true|_,_=>false
def rEq:R2:=λx y H Q=>Ss x y=true/\Q (.bl<|decide<|x=y) H
def rNe:R2:=λx y H Q=>Ss x y=true/\Q (.bl<|!decide (x=y)) H
theorem Dx:decide (V.int i=V.int j)=(i==j):=by rw[yw];simp
theorem Hi:decide (V.bl i=V.bl j)=(i==j):=by rw[yw];simp
theorem Dy:decide (V.str i=V.str j)=(i==j):=by rw[yw];simp
theorem Dz:decide (V.Dn i=V.Dn j)=(i.toList==j.toList):=by rw[yw];cases i;cases j;simp
section
variable{X:Cx}{a b c:Expr}{ta tb tc:TE}{pos:Pos}
theorem aK(I:Inv X pins σ H s)(q:Q (.bl k) H)(e:k=k'):EP X pins σ Q (.bool k') s:=by subst e;exact{.bl k,H,I,rfl,q}
theorem MZ:gy X (compareOp .Eq) rEq:=by intro pins s σ H x y v u Q I rx ry h;obtain⟨hs,q⟩:=h;cases x with|av=>(cases rx;cases y with|av=>(cases ry;exact PySem.EqNone.eq_none_none<|aK I q<|by simp)|bl j=>(cases ry;exact PySem.EqNone.eq_none_bool<|aK I q<|by simp)|int j=>(obtain⟨t',rfl⟩:=ry;exact PySem.EqNone.eq_none_int<|aK I q<|by simp)|str j=>(obtain⟨t',rfl⟩:=ry;exact PySem.EqNone.eq_none_str<|aK I q<|by simp)|_=>exact absurd (show false=true from hs) zd)|bl i=>(cases rx;cases y with|av=>(cases ry;exact PySem.EqNone.eq_bool_none<|aK I q<|by simp)|bl j=>(cases ry;exact eq_bool<|aK I q Hi)|str j=>(obtain⟨t',rfl⟩:=ry;exact PySem.EqMixed.eq_bool_str<|aK I q<|by simp)|_=>exact absurd (show false=true from hs) zd)|int i=>(obtain⟨t,rfl⟩:=rx;cases y with|av=>(cases ry;exact PySem.EqNone.eq_int_none<|aK I q<|by simp)|int j=>(obtain⟨t',rfl⟩:=ry;exact eq_int<|aK I q Dx)|str j=>(obtain⟨t',rfl⟩:=ry;exact PySem.EqMixed.eq_int_str<|aK I q<|by simp)|_=>exact absurd (show false=true from hs) zd)|str i=>(obtain⟨t,rfl⟩:=rx;cases y with|av=>(cases ry;exact PySem.EqNone.eq_str_none<|aK I q<|by simp)|bl j=>(cases ry;exact PySem.EqMixed.eq_str_bool<|aK I q<|by simp)|int j=>(obtain⟨t',rfl⟩:=ry;exact PySem.EqMixed.eq_str_int<|aK I q<|by simp)|str j=>(obtain⟨t',rfl⟩:=ry;exact eq_str<|aK I q Dy)|_=>exact absurd (show false=true from hs) zd)|Dn i=>(obtain⟨t,rfl⟩:=rx;cases y with|Dn j=>(obtain⟨t',rfl⟩:=ry;exact PySem.W.eq_bytes<|aK I q Dz)|_=>exact absurd (show false=true from hs) zd)|_=>cases y<;>exact absurd (show false=true from hs) zd
theorem M0:gy X (compareOp .NotEq) rNe:=by intro pins s σ H x y v u Q I rx ry h;obtain⟨hs,q⟩:=h;cases x with|av=>(cases rx;cases y with|av=>(cases ry;exact PySem.EqNone.ne_none_none<|aK I q<|by simp)|bl j=>(cases ry;exact PySem.EqNone.ne_none_bool<|aK I q<|by simp)|int j=>(obtain⟨t',rfl⟩:=ry;exact PySem.EqNone.ne_none_int<|aK I q<|by simp)|str j=>(obtain⟨t',rfl⟩:=ry;exact PySem.EqNone.ne_none_str<|aK I q<|by simp)|_=>exact absurd (show false=true from hs) zd)|bl i=>(cases rx;cases y with|av=>(cases ry;exact PySem.EqNone.ne_bool_none<|aK I q<|by simp)|bl j=>(cases ry;exact ne_bool<|aK I q<|congrArg not Hi)|str j=>(obtain⟨t',rfl⟩:=ry;exact PySem.EqMixed.ne_bool_str<|aK I q<|by simp)|_=>exact absurd (show false=true from hs) zd)|int i=>(obtain⟨t,rfl⟩:=rx;cases y with|av=>(cases ry;exact PySem.EqNone.ne_int_none<|aK I q<|by simp)|int j=>(obtain⟨t',rfl⟩:=ry;exact ne_int<|aK I q<|congrArg not Dx)|str j=>(obtain⟨t',rfl⟩:=ry;exact PySem.EqMixed.ne_int_str<|aK I q<|by simp)|_=>exact absurd (show false=true from hs) zd)|str i=>(obtain⟨t,rfl⟩:=rx;cases y with|av=>(cases ry;exact PySem.EqNone.ne_str_none<|aK I q<|by simp)|bl j=>(cases ry;exact PySem.EqMixed.ne_str_bool<|aK I q<|by simp)|int j=>(obtain⟨t',rfl⟩:=ry;exact PySem.EqMixed.ne_str_int<|aK I q<|by simp)|str j=>(obtain⟨t',rfl⟩:=ry;exact ne_str<|aK I q<|congrArg not Dy)|_=>exact absurd (show false=true from hs) zd)|Dn i=>(obtain⟨t,rfl⟩:=rx;cases y with|Dn j=>(obtain⟨t',rfl⟩:=ry;exact PySem.W.ne_bytes<|aK I q<|congrArg not Dz)|_=>exact absurd (show false=true from hs) zd)|_=>cases y<;>exact absurd (show false=true from hs) zd
theorem Su:gy X (compareOp .Lt) (Kx λi j=>.bl<|decide<|i<j):=Ky λ_ _ _ _ _ _ _ q=>lt_int q
theorem Sv:gy X (compareOp .LtE) (Kx λi j=>.bl<|decide<|i<=j):=Ky λ_ _ _ _ _ _ _ q=>le_int q
theorem Sw:gy X (compareOp .Gt) (Kx λi j=>.bl<|decide<|j<i):=Ky λ_ _ _ _ _ _ _ q=>gt_int q
theorem Sy:gy X (compareOp .GtE) (Kx λi j=>.bl<|decide<|j<=i):=Ky λ_ _ _ _ _ _ _ q=>ge_int q
theorem E_:gy X (compareOp .Lt) (λx y H Q=>∃i j,x=.str i/\y=.str j/\Q (.bl<|decide<|i.cps.toList<j.cps.toList) H):=by intro pins s σ H x y v u Q I rx ry h;obtain⟨i,j,rfl,rfl,q⟩:=h;obtain⟨t,rfl⟩:=rx;obtain⟨t',rfl⟩:=ry;exact lt_str<|aK I q rfl
theorem Fc:gy X (compareOp .In) (λx y H Q=>∃i j,x=.str i/\y=.str j/\Q (.bl<|!(Builtin.Str.occurrences j i 0 j.length 1).isEmpty) H):=by intro pins s σ H x y v u Q I rx ry h;obtain⟨i,j,rfl,rfl,q⟩:=h;obtain⟨t,rfl⟩:=rx;obtain⟨t',rfl⟩:=ry;exact in_str<|aK I q rfl
theorem ON:gy X (compareOp .Is) (λx y H Q=>y=.av/\Q (.bl<|decide<|x=.av) H):=by intro pins s σ H x y v u Q I rx ry h;obtain⟨rfl,q⟩:=h;cases ry;refine is_none_gen<|aK I q ?_;cases x<;>first| (cases rx;rfl)| (obtain⟨t,rfl⟩:=rx;rfl)
theorem KA:gy X (compareOp .IsNot) (λx y H Q=>y=.av/\Q (.bl<|!decide (x=.av)) H):=by intro pins s σ H x y v u Q I rx ry h;obtain⟨rfl,q⟩:=h;cases ry;refine isnot_none_gen<|aK I q ?_;cases x<;>first| (cases rx;rfl)| (obtain⟨t,rfl⟩:=rx;rfl)
theorem vF:gy X (compareOp .NotIn) (λx y H Q=>∃i j,x=.str i/\y=.str j/\Q (.bl<|!(!(Builtin.Str.occurrences j i 0 j.length 1).isEmpty)) H):=by intro pins s σ H x y v u Q I rx ry h;obtain⟨i,j,rfl,rfl,q⟩:=h;obtain⟨t,rfl⟩:=rx;obtain⟨t',rfl⟩:=ry;exact notIn_str<|aK I q rfl
theorem Xv(b:Expr)(h:autoParam (op≠.In) qQZ)(h2:autoParam (op≠.NotIn) qQZ):behindInMarks op b=false:=by
 have e1:(op==CmpOp.In)=false:=by cases op<;>first|rfl|exact absurd rfl h
 have e2:(op==CmpOp.NotIn)=false:=by cases op<;>first|rfl|exact absurd rfl h2
 cases b<;>simp[behindInMarks,e1,e2]
theorem DB{op:CmpOp}{r:R2}(ho:gy X (compareOp op) r)(ha:PE X a ta)(hb:PE X b tb)(hm:behindInMarks op b=false):PE X (.Compare a [op] [b] pos) (Rb r ta tb):=by intro pins s σ H Q I h;exact wpAny_Compare1 (OG ha hb I h λv u s2 x y H2 I2 rx ry q=>ho pins s2 σ H2 x y v u Q I2 rx ry q) hm
def Hj(t:TE):TT:=λσ H Q=>t σ H λx H'=>∃k,x=.bl k/\Q k H'
theorem KC{op:CmpOp}{r:R2}(ho:gy X (compareOp op) r)(ha:PE X a ta)(hb:PE X b tb)(hm:behindInMarks op b=false):PT X (.Compare a [op] [b] pos) (Hj<|Rb r ta tb):=by intro pins s σ H Q I h;refine wpAny_isTrue_Compare1 (bz (ha pins s σ H _ I h) λv s1 ⟨x,H1,I1,r1,q1⟩=>bz (hb pins s1 σ H1 _ I1 q1) λu s2 ⟨y,H2,I2,r2,q2⟩=>bz (ho pins s2 σ H2 x y v u _ I2 r1 r2 q2) λc s3 ⟨z,H3,I3,r3,k,e,q3⟩=>?_) hm;subst e;cases r3;exact yr ⟨H3,I3,q3⟩
def Bl(r r':R2)(ta tb tc:TE):TE:=λσ H Q=>ta σ H λx H1=>tb σ H1 λy H2=>r x y H2 λz H3=>∃k,z=.bl k/\(if k=true then tc σ H3 λw' H4=>r' y w' H4 Q else Q (.bl false) H3)
theorem Hk{op Fd:CmpOp}{r r':R2}(ho:gy X (compareOp op) r)(Bf:gy X (compareOp Fd) r')(ha:PE X a ta)(hb:PE X b tb)(hc:PE X c tc) (hm:autoParam (lastMarks [op,Fd] [b,c]=false) qQ2):PE X (.Compare a [op,Fd] [b,c] pos) (Bl r r' ta tb tc):=by intro pins s σ H Q I h;refine Compare_chain (bz (ha pins s σ H _ I h) λv s1 ⟨x,H1,I1,r1,q1⟩=>chain_link<|bz (hb pins s1 σ H1 _ I1 q1) λu s2 ⟨y,H2,I2,r2,q2⟩=>bz (ho pins s2 σ H2 x y v u _ I2 r1 r2 q2) λd s3 ⟨z,H3,I3,r3,k,e,q3⟩=>?_) hm;subst e;cases r3;refine yr ?_;cases k with|false=>exact ite_ff {.bl false,H3,I3,rfl,q3}|true=>exact ite_tt<|chain_last<|bz (hc pins s3 σ H3 _ I3 q3) λw' s4 ⟨z',H4,I4,r4,q4⟩=>Bf pins s4 σ H4 y z' u w' Q I4 r2 r4 q4
theorem Hl{op Fd:CmpOp}{r r':R2}(ho:gy X (compareOp op) r)(Bf:gy X (compareOp Fd) r')(ha:PE X a ta)(hb:PE X b tb)(hc:PE X c tc) (hm:autoParam (lastMarks [op,Fd] [b,c]=false) qQ2):PT X (.Compare a [op,Fd] [b,c] pos) (Hj<|Bl r r' ta tb tc):=by intro pins s σ H Q I h;refine isTrue_chain (bz (ha pins s σ H _ I h) λv s1 ⟨x,H1,I1,r1,q1⟩=>test_link<|bz (hb pins s1 σ H1 _ I1 q1) λu s2 ⟨y,H2,I2,r2,q2⟩=>bz (ho pins s2 σ H2 x y v u _ I2 r1 r2 q2) λd s3 ⟨z,H3,I3,r3,k,e,q3⟩=>?_) hm;subst e;cases r3;refine yr ?_;cases k with|false=>(obtain⟨k',e',q'⟩:=q3;cases e';exact ite_ff ⟨H3,I3,q'⟩)|true=>refine ite_tt<|test_last<|bz (hc pins s3 σ H3 _ I3 q3) λw' s4 ⟨z',H4,I4,r4,q4⟩=>bz (Bf pins s4 σ H4 y z' u w' _ I4 r2 r4 q4) λd' s5 ⟨z2,H5,I5,r5,k2,e2,q5⟩=>?_;subst e2;cases r5;exact yr ⟨H5,I5,q5⟩
theorem rf:(sizeLine:Nat)<2^63:=by rw[zX];decide
theorem rh:gy X (binaryOp .Add) (λx y H Q=>∃i j,x=.str i/\y=.str j/\i.length+j.length<=sizeLine/\Q (.str<|i++j) H):=by intro pins s σ H x y v u Q I rx ry h;obtain⟨i,j,rfl,rfl,hz,q⟩:=h;obtain⟨t,rfl⟩:=rx;obtain⟨t',rfl⟩:=ry;exact add_str (λt' tk=>{.str<|i++j,H,I.tok _,{_,rfl},q}) hz
theorem vals1(r:Vals [x] us):∃u,us=[u]/\RelV x u:=by cases r with|cons r1 r2=>cases r2;exact{_,rfl,r1}
theorem vals2(r:Vals [x,y] us):∃u w',us=[u,w']/\RelV x u/\RelV y w':=by cases r with|cons r1 r2=>cases r2 with|cons r3 r4=>cases r4;exact{_,_,rfl,r1,r3}
theorem Fe(hc:X.calm=true):eU X (.builtin "max") (λxs H Q=>∃i j,xs=[.int i,.int j]/\Q (.int<|if j>i then j else i) H):=by intro pins s σ H xs us Q I r h;obtain⟨i,j,rfl,q⟩:=h;obtain⟨u,w',rfl,⟨t,rfl⟩,⟨t',rfl⟩⟩:=vals2 r;refine max_two_ints (I.ok.hd hc) λh' tk k=>{_,H,I.kept k,?_,q};by_cases hj:j>i;rw[if_pos hj,if_pos hj];exact{_,rfl};rw[if_neg hj,if_neg hj];exact{_,rfl}
theorem Ff(hc:X.calm=true):eU X (.builtin "min") (λxs H Q=>∃i j,xs=[.int i,.int j]/\Q (.int<|if j<i then j else i) H):=by intro pins s σ H xs us Q I r h;obtain⟨i,j,rfl,q⟩:=h;obtain⟨u,w',rfl,⟨t,rfl⟩,⟨t',rfl⟩⟩:=vals2 r;refine min_two_ints (I.ok.hd hc) λh' tk k=>{_,H,I.kept k,?_,q};by_cases hj:j<i;rw[if_pos hj,if_pos hj];exact{_,rfl};rw[if_neg hj,if_neg hj];exact{_,rfl}
theorem uF:eU X (.type "int") (λxs H Q=>(∃i,xs=[.int i]/\Q (.int i) H)\/∃k,xs=[.bl k]/\Q (.int<|if k then 1 else 0) H):=by intro pins s σ H xs us Q I r h;rcases h with⟨i,rfl,q⟩|⟨k,rfl,q⟩;obtain⟨u,rfl,t,rfl⟩:=vals1 r;exact call_int_int {.int i,H,I,{_,rfl},q};obtain⟨u,rfl,r1⟩:=vals1 r;cases r1;exact call_int_bool {.int<|if k then 1 else 0,H,I.tok _,{_,rfl},q}
def Xw(K:Frag)(x:V)(H:Hp)(n:Nat):Prop:=match x with|.str y=>y.length<=sizeLine/\n=y.length|.Dn y=>y.size<=sizeLine/\n=y.size|.ref p=>(∃xs,iZ K H p xs/\n=xs.length)\/∃xs,gT K H p xs/\n=xs.length|_=>False
theorem jr:eU X (.builtin "len") (λxs H Q=>∃x n,xs=[x]/\Xw X.K x H n/\Q (.int n) H):=by intro pins s σ H xs us Q I r h;obtain⟨x,n,rfl,e,q⟩:=h;obtain⟨u,rfl,rx⟩:=vals1 r;have hl:=rf;have hs:sizeLine=16777216:=zX;cases x with|str y=>(obtain⟨t,rfl⟩:=rx;obtain⟨hy,e'⟩:y.length<=sizeLine/\n=y.length:=e;subst e';exact len_str (by lia) {.int _,H,I.tok _,{_,rfl},q})|Dn y=>(obtain⟨t,rfl⟩:=rx;obtain⟨hy,e'⟩:y.size<=sizeLine/\n=y.size:=e;subst e';exact PySem.W.len_bytes (by lia) {.int _,H,I.tok _,{_,rfl},q})|ref p=>(cases rx;have e':(∃xs,iZ X.K H p xs/\n=xs.length)\/∃xs,gT X.K H p xs/\n=xs.length:=e;rcases e' with⟨xs,hx,e'⟩|⟨xs,hx,e'⟩;subst e';obtain⟨az,r',pl,hz⟩:=I.list hx;have hlen:=r'.length;exact Calls.call_len_list pl.isList (by simp only[zl];lia) {.int xs.length,H,I.tok _,{_,by simp only[zl];rw[hlen]},q};subst e';obtain⟨az,r',pl,hz⟩:=I.tuple hx;have hlen:=r'.length;exact len_tuple pl (by simp only[zl];lia) {.int xs.length,H,I.tok _,{_,by simp only[zl];rw[hlen]},q})|_=>exact(show False from e).elim
end
structure Bn(h:Heap)(x dx C:Addr)(mA:Str->Option Value):Prop where
 obj:h.get? x=some (instObj C dx)
 ns:h.Ns1 dx mA
 ne:dx≠x
theorem Fh{h:Heap}{dx:Addr}{mA:Str->Option Value}(n:h.Ns1 dx mA):∃od,h.get? dx=some od/\∀name,lookIn name od=some (mA name):=by
 obtain⟨o,es,ep,ho,hd,hk,_,hm⟩:=n;refine{o,ho,λname=>?_};have e:=hm name;unfold nsFind findBy at e;rw[<-Array.find?_toList]at e;unfold lookIn;rw[hd];dsimp only;split;rename_i y q;rw[q]at e;exact congrArg some e;rename_i q;rw[q]at e;have a:es.toList.any (·.refKey)=false:=by rw[List.any_eq_false];intro y hy;obtain⟨z,t,OO⟩:=hk y<|Array.mem_toList_iff.mp hy;simp[DictEntry.refKey,OO]
 have a':¬es.toList.any (·.refKey)=true:=by rw[a];exact zd
 rw[if_neg a'];exact congrArg some e
theorem Bn.look(I:Bn h x dx C mA):∃od,PySem.W.InstAt h x (instObj C dx) C (some od)/\∀name,lookIn name od=some (mA name):=
 let ⟨od,ho,hl⟩:=Fh I.ns
 ⟨od,⟨I.obj,rfl,rfl,ho⟩,hl⟩
section
variable{prog:Program}{w:World}{A:Around}{E:Value->Shared->Prop}{s:Shared}{K:Frag}{x dx C f:Addr}{mA:Str->Option Value}{name:Str}{v:Value}
theorem get_map(X:K.In s.heap)(I:Bn s.heap x dx C mA)(hg:plainGet K C name=true)(hh:hasDictIn K C=true) (ha:findIn K (.ref C) name=some none) (hv:mA name=some v) (V5:handedIn v=true) (h:Q v {s with toks:=s.toks+1}): wpAny (model prog w) A (getAttr (.ref x) name expr) Q E s:=by obtain⟨od,J,hl⟩:=I.look;exact PySem.W.get_value X J (plainGet_of hg).1 (PySem.W.findObj_own hh ha rfl<|by rw[hl,hv]) V5 h
theorem Hm(X:K.In s.heap)(I:Bn s.heap x dx C mA)(hg:plainGet K C name=true) (hf:findIn K (.ref C) name=some (some<|.ref f)) (ht:isFn K (.ref f)=true) (hv:mA name=none) (h:Q (.ref f,[.ref x]) s): wpAny (model prog w) A (getMethod (.ref x) name pl) Q E s:=by obtain⟨od,J,hl⟩:=I.look;exact PySem.W.method_fn X J (plainGet_of hg).1 (plainGet_of hg).2 hf (beq_iff_eq.mp ht) (by show(lookIn name od).map (·.isSome)=some false;rw[hl,hv];rfl) h
theorem KG(X:K.In s.heap)(I:Bn s.heap x dx C mA) (hs:findIn K (.ref C) "__setattr__"= some (some<|.builtin "object.__setattr__")) (hp:plainOver K C=true) (ht:takerIn K C name=some none) (hh:hasDictIn K C=true) (hw:PySem.Within mA ns) (hsz:ns.length<=sizeLine) (h:∀h',Bn h' x dx C (λy=>if y=name then some v else mA y)->Heap.SameBut dx s.heap h'->Q () {s with heap:=h',toks:=s.toks+2}): wpAny (model prog w) A (setAttr (.ref x) name v) Q E s:=by obtain⟨od,J,hl⟩:=I.look;refine PySem.W.set_plain X J hs<|PySem.W.osa_open (s:={s with toks:=s.toks+1}) (r:=none) X J hp ht λb=>?_;obtain⟨cd,hc,Bh⟩:=PySem.W.any_some hh;have hx:s.heap.get? x=some {.ref C,some dx,.plain,#[]}:=I.obj;refine zc<|zm<|zc<|zc<|wpAny_loadPart hx<|zc<|PySem.W.Looks.here (s:={s with toks:=s.toks+1}) (PySem.W.looks_clsIn X hc) ?_;rw[Bh];refine zm (a:=some dx)<|zc<|zm<|zc ?_;refine wpAny_nsSet1 (s:={s with toks:=s.toks+1}) I.ns λh' DC xu=>?_;obtain⟨oD,esD,epD,hoD,hdD,hcD⟩:=DC.count<|PySem.Within.cons name v hw;refine zc<|wpAny_lookBehind hoD (by rw[hdD];exact pastItsLine_dict<|zG hcD<|by rw[zN];lia) ?_;exact zm<|h _ {(xu.2 _<|Ne.symm I.ne).trans I.obj,DC,I.ne} xu
theorem Hn(X:K.In s.heap)(hm:makesIn K C=true) (hi:findIn K (.ref C) "__init__"= some (some<|.ref f)) (hf:PySem.W.typeIn K (.ref f)=some (.type "function")) (h:codeAny (model prog w) (A.under<|.builtin "type.__call__" {.ref C::vs,kw}) (.call (.ref f) {.ref (s.heap.objs.size+1)::vs,kw}) (PySem.W.InitBack (s.heap.objs.size+1) R) {s with heap:=(s.heap.push emptyDict).push<|instObj C s.heap.objs.size}): codeAny (model prog w) A (.call (.ref C) ⟨vs,kw⟩) R s:=by obtain⟨hh,g,d,t,os⟩:=s;exact PySem.W.make_core (PySem.W.makes_of X hm) (PySem.W.looks_findIn X hi) (λself=>PySem.W.bind_fn X self hf) (.inl rfl) h
end
noncomputable def putF(f:Str)(v:V):List (Str×V)->List (Str×V)|[]=>[(f,v)]| (g,x)::r=>if g=f then (g,v)::r else (g,x)::putF f v r
theorem oZ(f g:Str)(v:V):∀fs:List (Str×V),(putF f v fs).lookup g=if g=f then some v else fs.lookup g|[]=>by show List.lookup g [(f,v)]=_;by_cases h:g=f;have hb:(g==f)=true:=beq_iff_eq.mpr h;simp only[List.lookup,hb,if_pos h];have hb:(g==f)=false:=beq_eq_false_iff_ne.mpr h;simp only[List.lookup,hb,if_neg h]| (k,x)::r=>by have ih:=oZ f g v r;rw[show putF f v ((k,x)::r)=(if k=f then (k,v)::r else (k,x)::putF f v r) from rfl];by_cases hk:k=f;rw[if_pos hk];by_cases h:g=k;have hb:(g==k)=true:=beq_iff_eq.mpr h;simp only[List.lookup,hb,if_pos<|h.trans hk];have hb:(g==k)=false:=beq_eq_false_iff_ne.mpr h;simp only[List.lookup,hb,if_neg (λe:g=f=>h<|e.trans hk.symm)];rw[if_neg hk];by_cases h:g=k;have hb:(g==k)=true:=beq_iff_eq.mpr h;simp only[List.lookup,hb,if_neg (λe:g=f=>hk<|h.symm.trans e)];have hb:(g==k)=false:=beq_eq_false_iff_ne.mpr h;simp only[List.lookup,hb];exact ih
theorem nW(f:Str)(v:V):∀fs:List (Str×V),f∈(putF f v fs).map (·.1)/\∀g,g∈fs.map (·.1)->g∈(putF f v fs).map (·.1)|[]=>{by simp[putF],λg h=>by simp at h}| (k,x)::r=>by obtain⟨i1,i2⟩:=nW f v r;rw[show putF f v ((k,x)::r)=(if k=f then (k,v)::r else (k,x)::putF f v r) from rfl];by_cases hk:k=f;rw[if_pos hk];subst hk;exact{by simp,λg h=>by simpa using h};rw[if_neg hk];refine{?_,λg h=>?_};rw[zy];exact zg _ i1;rw[zy]at h⊢;rcases zj.mp h with e|e;exact zj.mpr<|.inl e;exact zg _<|i2 g e
theorem o_(f:Str)(v:V):∀fs:List (Str×V),(putF f v fs).length<=fs.length+1|[]=>by simp[putF]| (k,x)::r=>by have ih:=o_ f v r;rw[show putF f v ((k,x)::r)=(if k=f then (k,v)::r else (k,x)::putF f v r) from rfl];by_cases hk:k=f;rw[if_pos hk,zN,zN];lia;rw[if_neg hk,zN,zN];lia
theorem fN.some_of(r:fN (some v) o):∃u,o=some u/\RelV v u:=by cases o with|none=>exact(show False from r).elim|some u=>exact⟨u,rfl,r⟩
theorem fN.none_of(r:fN none o):o=none:=by cases o with|none=>rfl|some u=>exact(show False from r).elim
theorem Fi(r:RelV v u):handedIn u=true:=by cases v with|av=>(cases (show u=Value.none from r);rfl)|bl b=>(cases (show u=Value.bool b from r);rfl)|int i=>(obtain⟨t,e⟩:=(show ∃t,u=Value.int i t from r);cases e;rfl)|str x=>(obtain⟨t,e⟩:=(show ∃t,u=Value.str x t from r);cases e;rfl)|Dn b=>(obtain⟨t,e⟩:=(show ∃t,u=Value.bytes b t from r);cases e;rfl)|N_ b=>(obtain⟨t,e⟩:=(show ∃t,u=Value.float b t from r);cases e;rfl)|ref a=>(cases (show u=Value.ref a from r);rfl)|ty n=>cases (show u=Value.type n from r);rfl
section
variable{P:Program}{w:World}{H:Hp}{h:Heap}{a C dx:Addr}{fs:List (Str×V)}
theorem qA(aQ:lJ P w H h)(e:H a=some (.ins C dx fs)):∃mA,Bn h a dx C mA/\(∀f,fN (fs.lookup f)<|mA f)/\PySem.Within mA (fs.map (·.1))/\fs.length<=1000/\H dx=some (.own a):=by obtain⟨d,z,ne,ob,mA,n,r,q⟩:=(show bx P w H h a (.ins C dx fs) from aQ a _ e);exact{mA,⟨ob,n,ne⟩,r,q,z,d}
end
structure qB(K:Frag)(C:Addr):Prop where
 pg:plainGet K C Str.empty=true
 hd:hasDictIn K C=true
 po:plainOver K C=true
 sa:findIn K (.ref C) "__setattr__"= some (some<|.builtin "object.__setattr__")
theorem qB.get{K:Frag}{C:Addr}(c:qB K C)(f:Str):plainGet K C f=true:=c.pg
def js(K:Frag)(C:Addr)(f:Str):Prop:=findIn K (.ref C) f=some none
theorem js.Sz{K:Frag}{C:Addr}{f:Str}(n:js K C f):takerIn K C f=some none:=by unfold takerIn;rw[show findIn K (.ref C) f=some none from n];rfl
structure Con(K:Frag)(C:Addr)(f:Str)(v:V)(u:Value):Prop where
 at_:findIn K (.ref C) f=some (some u)
 rel:RelV v u
 get:specialIn K u "__get__"= some none
 cp:PySem.W.copiedNames.contains f=false
structure Meth(K:Frag)(C:Addr)(m:Str)(f:Addr):Prop where
 at_:findIn K (.ref C) m=some (some<|.ref f)
 fn:isFn K (.ref f)=true
 kp:keepIn K (.ref f)=true
section
variable{X:Cx}{pins:List (Addr×Obj)}{σ:St}{H:Hp}{s:Shared}{a C dx:Addr}{fs:List (Str×V)}{f:Str}{v:V}{A:Around}{E:Value->Shared->Prop}
theorem Bo(I:Inv X pins σ H s)(e:H a=some (.ins C dx fs))(c:qB X.K C)(n:js X.K C f)(l:fs.lookup f=some v) (h:∀u s',Inv X pins σ H s'->RelV v u->Q u s'):wpAny (model X.prog X.w) A (getAttr (.ref a) f b) Q E s:=by obtain⟨mA,O,r,_,_,_⟩:=qA I.aQ e;obtain⟨u,hu,ru⟩:=fN.some_of (v:=v) (o:=mA f) (by rw[<-l];exact r f);exact get_map I.oY O (c.get f) c.hd n hu (Fi ru)<|h u _ (I.tok _) ru
theorem rj(I:Inv X pins σ H s)(e:H a=some (.ins C dx fs))(c:qB X.K C)(k:Meth X.K C m g)(l:fs.lookup m=none) (h:Q (.ref g,[.ref a]) s):wpAny (model X.prog X.w) A (getMethod (.ref a) m pl) Q E s:=by obtain⟨mA,O,r,_,_,_⟩:=qA I.aQ e;have hn:mA m=none:=fN.none_of (by rw[<-l];exact r m);exact Hm I.oY O (c.get m) k.at_ k.fn hn h
theorem Bp(I:Inv X pins σ H s)(e:H a=some (.ins C dx fs))(c:qB X.K C)(n:js X.K C f)(hl:fs.length<1000)(ry:RelV y u) (h:∀s',Inv X pins σ (upd H a<|.ins C dx<|putF f y fs) s'->Q () s'):wpAny (model X.prog X.w) A (setAttr (.ref a) f u) Q E s:=by
 obtain⟨mA,O,r,wi,_,ho⟩:=qA I.aQ e;have hz:(fs.map (·.1)).length<=sizeLine:=by rw[zb,zX];lia
 refine KG I.oY O c.sa c.po n.Sz c.hd wi hz λh' O' sb=>h _ ?_;have hd:∃o,h'.get? dx=some o:=by obtain⟨o,_,_,e',_⟩:=O'.ns;exact⟨o,e'⟩
 refine I.write (x:=a) (e:=dx) (by rw[e];exact True.intro) (.inr ho) (λb q hb z=>(sb.2 b hb).trans z) hd ?_;refine{by rw[ax O.ne];exact ho,?_,O.ne,O'.obj,_,O'.ns,λg=>?_,λg hg=>?_};have:=o_ f y fs;lia;show fN ((putF f y fs).lookup g) (if g=f then some u else mA g);rw[oZ];by_cases q:g=f;rw[if_pos q,if_pos q];exact ry;rw[if_neg q,if_neg q];exact r g;by_cases q:g=f;rw[q];exact(nW f y fs).1;refine(nW f y fs).2 g<|wi g λz=>hg ?_;show(if g=f then some u else mA g)=none;rw[if_neg q];exact z
theorem Inv.made(I:Inv X pins σ H s):Inv X pins σ (upd (upd H s.heap.objs.size<|.own<|s.heap.objs.size+1) (s.heap.objs.size+1)<|.ins C s.heap.objs.size []) {s with heap:=(s.heap.push emptyDict).push<|instObj C s.heap.objs.size}:=by
 have e1:(s.heap.push emptyDict).get? s.heap.objs.size=some emptyDict:=zk s.heap rfl;have e2:((s.heap.push emptyDict).push<|instObj C s.heap.objs.size).get? (s.heap.objs.size+1)=some (instObj C s.heap.objs.size):=by have:=zk (s.heap.push emptyDict) (o:=instObj C s.heap.objs.size) rfl;rwa [zZ]at this
 have e3:(s.heap.push emptyDict).Ns s.heap.objs.size (λ_=>none):={emptyDict,#[],_,e1,rfl,(λe he=>absurd he<|by simp),λ_=>rfl};have I1:=I.laid (a:=s.heap.objs.size) (o:=.own<|s.heap.objs.size+1) (h':=s.heap.push emptyDict) (t':=s.toks) (λb u q=>za _ q) (zo _) {_,e1};refine I1.laid (a:=s.heap.objs.size+1) (o:=.ins C s.heap.objs.size []) (t':=s.toks) (λb u q=>za _ q) (Nat.le_of_eq<|zZ _ _) ?_;have ne:s.heap.objs.size≠s.heap.objs.size+1:=zA<|yH _;refine{by rw[ax ne,aE],zY _,ne,e2,λ_=>none,(Heap.Ns1.of_empty e3).at λo q=>za _ q,λ_=>True.intro,λy hy=>absurd rfl hy}
theorem KH(hb:attributeBase e f env (eval e env)=eval e env) (h:wpAny (model prog w) A (eval e env) (λo bj=>wpAny (model prog w) A (getAttr o f true) Q E bj) E s):wpAny (model prog w) A (eval (.Attribute e f pos) env) Q E s:=Attribute_any_ h<|by rw[arm_eval_Attribute,hb]
end
def Xx(K:Frag)(ta:TE)(f:Str):TE:=λσ H Q=>ta σ H λx H1=>∃a C dx fs v,x=.ref a/\H1 a=some (.ins C dx fs)/\qB K C/\js K C f/\fs.lookup f=some v/\Q v H1
def Xy(K:Frag)(ta tv:TE)(f:Str):TS:=λD σ H=>tv σ H λy H1=>ta σ H1 λx H2=>∃a C dx fs,x=.ref a/\H2 a=some (.ins C dx fs)/\qB K C/\js K C f/\fs.length<1000/\D.nx σ (upd H2 a<|.ins C dx<|putF f y fs)
section
variable{X:Cx}{o e value:Expr}{f:Str}{pos pos':Pos}{ta tv:TE}
theorem OP(he:PE X e ta)(hb:attributeBase e f X.env (eval e X.env)=eval e X.env):PE X (.Attribute e f pos) (Xx X.K ta f):=by intro pins s σ H Q I h;refine KH hb<|bz (he pins s σ H _ I h) λu s1 ⟨x,H1,I1,rx,a,C,dx,fs,v,ex,ea,c,n,l,q⟩=>?_;subst ex;obtain rfl:u=Value.ref a:=rx;exact Bo I1 ea c n l λu' s2 I2 ru=>⟨v,H1,I2,ru,q⟩
theorem OQ(ha:PE X o ta)(hv:PE X value tv)(hs:swapsWith value (some<|.Attribute o f pos') pos.line X.env=pure false):PS X (.Assign [.Attribute o f pos'] value pos) (Xy X.K ta tv f):=by intro pins s σ H D I h;refine plainObj_wpAny_Assign_Attribute (bz (hv pins s σ H _ I h) λu s1 ⟨y,H1,I1,ry,q⟩=>bz (ha pins s1 σ H1 _ I1 q) λov s2 ⟨x,H2,I2,rx,a,C,dx,fs,ex,ea,c,n,l,q2⟩=>?_) hs;subst ex;obtain rfl:ov=Value.ref a:=rx;exact Bp I2 ea c n l ry λs3 I3=>{σ,_,I3,q2}
end
section
variable{X:Cx}{pins:List (Addr×Obj)}{σ:St}{H:Hp}{s:Shared}{A:Around}{E Q:Value->Shared->Prop}{c:Value}{b:Bool}
inductive nX (K:Frag) (H:Hp):V->Value->Prop where
 |av:nX K H .av (.type "NoneType")
 |bl (x:Bool):nX K H (.bl x) (.type "bool")
 |int (i:Int):nX K H (.int i) (.type "int")
 |str (x:Str):nX K H (.str x) (.type "str")
 |N_ (x:UInt64):nX K H (.N_ x) (.type "float")
 |lst {a:Addr}{xs:List V} (e:H a=some (.lst xs)):nX K H (.ref a) (.type "list")
 |lI {a:Addr}{o:Obj}{xs:List V} (e:H a=some (.lI o<|.lst xs)):nX K H (.ref a) (.type "list")
 |tup {a:Addr}{xs:List V} (e:H a=some (.tup xs)):nX K H (.ref a) (.type "tuple")
 |dK {a:Addr}{kvs:List<|Key×V} (e:H a=some (.dK kvs)):nX K H (.ref a) (.type "dict")
 |dT {a:Addr}{kvs:List<|List Key×V} (e:H a=some (.dT kvs)):nX K H (.ref a) (.type "dict")
 |ins {a C dx:Addr}{fs:List<|Str×V} (e:H a=some (.ins C dx fs)) (cl:qB K C) (ha:findIn K (.ref C) "__class__"= some (some<|.builtin "object.__class__"))
   (hn:specialIn K (.builtin "object.__class__") "__get__"= some (some<|.builtin "getset_descriptor.__get__")) (htk:PySem.W.takesIn K (.builtin "object.__class__")=some true)
   (hm:mroIn K C (.type "object")=some true):nX K H (.ref a) (.ref C)
theorem Fj{u t:Value}(I:Inv X pins σ H s)(rx:RelV x u)(ty:nX X.K H x t)(e:kitOne X.K t c=some b)(h:∀tk,Q (.bool b) {s with toks:=tk}): wpAny (model X.prog X.w) A (call (.builtin "isinstance") [u,c]) Q E s:=by cases ty with|av=>(cases (show u=Value.none from rx);exact kia_one PySem.W.kitx_none I.oY True.intro e (λz=>nomatch z) h)|bl y=>(cases (show u=Value.bool y from rx);exact kia_one PySem.W.kitx_bool I.oY True.intro e (λz=>nomatch z) h)|int i=>(obtain⟨t,q⟩:=(show ∃t,u=Value.int i t from rx);cases q;exact kia_one PySem.W.kitx_int I.oY True.intro e (λz=>nomatch z) h)|str y=>(obtain⟨t,q⟩:=(show ∃t,u=Value.str y t from rx);cases q;exact kia_one PySem.W.kitx_str I.oY True.intro e (λz=>nomatch z) h)|N_ y=>(obtain⟨t,q⟩:=(show ∃t,u=Value.float y t from rx);cases q;exact kia_one PySem.W.kitx_float I.oY True.intro e (λz=>nomatch z) h)|@lst a xs ea=>(cases (show u=Value.ref a from rx);obtain⟨_,_,n,_,h1⟩:=(show bx X.prog X.w H s.heap a (.lst xs) from I.aQ a _ ea);exact kia_one kitx_list I.oY {_,h1,rfl} e (λz=>nomatch z) h)|@lI a ob xs ea=>(cases (show u=Value.ref a from rx);obtain⟨_,_,_,n,_,h1⟩:=(show bx X.prog X.w H s.heap a (.lI ob<|.lst xs) from I.aQ a _ ea);exact kia_one kitx_list I.oY {_,h1,rfl} e (λz=>nomatch z) h)|@tup a xs ea=>(cases (show u=Value.ref a from rx);obtain⟨_,_,_,p⟩:=(show bx X.prog X.w H s.heap a (.tup xs) from I.aQ a _ ea);obtain⟨o,h1,h2,_⟩:=p;exact kia_one PySem.W.kitx_tuple I.oY ⟨o,h1,h2⟩ e (λz=>nomatch z) h)|@dK a kvs ea=>(cases (show u=Value.ref a from rx);obtain⟨_,_,vs,_,p⟩:=(show bx X.prog X.w H s.heap a (.dK kvs) from I.aQ a _ ea);obtain⟨o,es,ep,h1,h2,_⟩:=p;exact kia_one PySem.W.kitx_dict I.oY ⟨o,h1,h2.1⟩ e (λz=>nomatch z) h)|@dT a kvs ea=>exact False.elim (show bx X.prog X.w H s.heap a (.dT kvs) from I.aQ a _ ea)|@ins a C dx fs ea cl ha hn htk hm=>cases (show u=Value.ref a from rx);obtain⟨mA,O,_⟩:=qA I.aQ ea;obtain⟨od,J,_⟩:=O.look;exact kia_one (PySem.W.kitx_own (cl.get _) cl.hd ha hn htk hm) I.oY J e (λz=>nomatch z) h
end
structure bR(k:Nat)(A:Around):Prop where
 hd:A.handled=none
 dp:A.depth+3*k+5<recursionLimit
 un:A.units+16*k+200<cLine
theorem bR.mono(r:bR k A)(h:j<=k):bR j A:={r.hd,by have:=r.dp;lia,by have:=r.un;lia}
theorem bR.deeper(r:bR (k+1) A)(env:Env):bR k (A.deeper env):={r.hd,by have:=r.dp;show A.depth+1+3*k+5<_;lia,by have:=r.un;show A.units+3+16*k+200<_;lia}
theorem bR.in1(r:bR (k+1) A):bR k A.in1:={r.hd,by have:=r.dp;show A.depth+3*k+5<_;lia,by have:=r.un;show A.units+1+16*k+200<_;lia}
theorem Bq{A:Around}{C:Addr}{us:List Value}{kw:List<|Str×Value} : (A.under<|.builtin "type.__call__" {.ref C::us,kw}).depth=A.depth+1:=by first|rfl|simp[Around.under,Code.weight,Code.isCreation,Code.isGuard,Code.isCaller,Code.frames,Code.isFrame,guardIds]
theorem Br{A:Around}{C:Addr}{us:List Value}{kw:List<|Str×Value} : (A.under<|.builtin "type.__call__" {.ref C::us,kw}).units=A.units+1:=by first|rfl|simp[Around.under,Code.cUnits,Code.frames,Code.isFrame]
theorem bR.make(r:bR (k+1) A)(C:Addr)(us:List Value)(kw:List<|Str×Value):bR k (A.under<|.builtin "type.__call__" {.ref C::us,kw}):={r.hd,by have:=r.dp;rw[Bq];lia,by have:=r.un;rw[Br];lia}
theorem bR.depth(r:bR k A):A.depth<recursionLimit:=by have:=r.dp;lia
theorem bR.units(r:bR k A):A.units+64<cLine:=by have:=r.un;lia
def XB:TA:=λ_ H Q=>Q [] H
def M4(ta:TE)(tr:TA):TA:=λσ H Q=>ta σ H λx H1=>tr σ H1 λxs H2=>Q (x::xs) H2
section
variable{X:Cx}{e:Expr}{es:List Expr}{te:TE}{t:TA}{pos:Pos}
theorem Bs:PA X [] XB:=λ_ _ _ _ H Q I h=>Calls.spliced_nil {[],H,I,.nil,h}
theorem KJ(ha:PE X e te)(hr:PA X es t)(hs:autoParam (starEach (e::es) X.env=(false,eval e X.env)::starEach es X.env) qQJ):PA X (e::es) (M4 te t):=by intro pos pins s σ H Q I h;rw[hs];show wpAny _ _ (spliced<|(false,eval e X.env)::backTo pos (starEach es X.env)) _ _ s;refine yB<|bz (ha pins s σ H _ I h) λu s1 ⟨x,H1,I1,r1,q1⟩=>?_;exact bz (hr pos pins s1 σ H1 _ I1 q1) <| by rintro us s2 ⟨xs,H2,I2,r2,q2⟩;exact{x::xs,H2,I2,.cons r1 r2,q2}
def XD(t:TA):TE:=λσ H Q=>t σ H λxs H1=>xs.length<=sizeLine/\∀p,H1 p=none->Q (.ref p) (upd H1 p<|.tup xs)
def XE(t:TA):TE:=λσ H Q=>t σ H λxs H1=>xs.length<=sizeLine/\∀p,H1 p=none->Q (.ref p) (upd H1 p<|.lst xs)
theorem OR{x1}(h:PA X es t):PE X (.Tuple es x1 pos) (XD t):=by intro pins s σ H Q I hq;refine wpAny_Tuple_spliced<|bz (h pos pins s σ H _ I hq) λus s1 ⟨xs,H1,I1,r,z,q⟩=>{by rw[<-r.length];exact z,?_};have hf:H1 s1.heap.objs.size=none:=I1.aQ.fresh<|zo _;refine{.ref s1.heap.objs.size,upd H1 s1.heap.objs.size<|.tup xs,I1.laid (t':=s1.toks) (λb u e=>za _ e) (zo _) ?_,rfl,q _ hf};exact{z,us,r,{_,zk _ rfl,rfl,rfl,_,rfl}}
theorem OS(h:PA X es t):PE X (.List es pos) (XE t):=by intro pins s σ H Q I hq;refine wpAny_List_spliced<|bz (h pos pins s σ H _ I hq) λus s1 ⟨xs,H1,I1,r,z,q⟩=>{by rw[<-r.length];exact z,?_};have hf:H1 s1.heap.objs.size=none:=I1.aQ.fresh<|zo _;refine{.ref s1.heap.objs.size,upd H1 s1.heap.objs.size<|.lst xs,I1.laid (t':=s1.toks) (λb u e=>za _ e) (zo _) ?_,rfl,q _ hf};exact{z,us,0,r,zk _ rfl}
end
abbrev Sp:=List V->Hp->VK->XK->Prop
abbrev Bt:=List Env->Hp->Shared->XK->Value->Shared->Prop
structure xw(P:Program)(w:World)(K:Frag)(mg:Str->Option Value)(base:Heap)(A:Around)(outer:List Env)(s:Shared)(H:Hp):Prop where
 frames:A.frames=some outer
 mod:Mod K mg base
 bs:∀b o,base.get? b=some o->s.heap.get? b=some o/\H b=none
 Kk:base.objs.size<=s.heap.objs.size
 pW:s.heap.FunFrames base outer
 Oc:∀b∈nR outer,H b=none
 aQ:lJ P w H s.heap
 bare:AllBare s.gens
def CE(outer:List Env)(P:Program)(w:World)(H:Hp)(s:Shared)(Q:VK)(u:Value)(s':Shared):Prop:=∃v H',s'.os=s.os/\AllBare s'.gens/\Un (nR outer) [] H H' s.heap s'.heap/\lJ P w H' s'.heap/\RelV v u/\Q v H'
def CR(CX:Bt)(outer:List Env)(P:Program)(w:World)(H:Hp)(s:Shared)(Q:VK)(E:XK)(r:Result)(s':Shared):Prop:=match r with|.ok (.ret u)=>CE outer P w H s Q u s'|.ok _=>False|.error e=>CX outer H s E e s'
structure bO(P:Program)(w:World)(K:Frag)(mg:Str->Option Value)(base:Heap)(CX:Bt)(k:Nat)(f:Addr)(fd:FuncData)(ps:List Str)(sp:Sp):Prop where
 len:∀vs H Q E,sp vs H Q E->vs.length=ps.length
 run:∀(A:Around)(outer:List Env)(s:Shared)(H:Hp)(args:Args)(us:List Value)(vs:List V)(Q:VK)(E:XK),bR k A->xw P w K mg base A outer s H->BindsTo s fd args (ps.zip us)->Vals vs us->sp vs H Q E ->
  codeAny (model P w) A (.call (.ref f) args) (CR CX outer P w H s Q E) s
theorem bO.mono{P:Program}{w:World}{K:Frag}{mg:Str->Option Value}{base:Heap}{CX:Bt}{j k:Nat}{f:Addr}{fd:FuncData}{ps:List Str}{sp:Sp}(F:bO P w K mg base CX j f fd ps sp)(h:j<=k): bO P w K mg base CX k f fd ps sp:={F.len,λA outer s H args us vs Q E hr=>F.run A outer s H args us vs Q E<|hr.mono h}
theorem bO.imp{P:Program}{w:World}{K:Frag}{mg:Str->Option Value}{base:Heap}{CX:Bt}{k:Nat}{f:Addr}{fd:FuncData}{ps:List Str}{sp V6:Sp}(F:bO P w K mg base CX k f fd ps sp) (h:∀vs H Q E,V6 vs H Q E->sp vs H Q E):bO P w K mg base CX k f fd ps V6:={λvs H Q E q=>F.len vs H Q E<|h _ _ _ _ q,λA outer s H args us vs Q E hr he hb hv hs=>F.run A outer s H args us vs Q E hr he hb hv<|h _ _ _ _ hs}
theorem xw.make{P:Program}{w:World}{K:Frag}{mg:Str->Option Value}{base:Heap}{A:Around}{outer:List Env}{s:Shared}{H:Hp}(e:xw P w K mg base A outer s H)(C:Addr)(us:List Value)(kw:List<|Str×Value): xw P w K mg base (A.under<|.builtin "type.__call__" {.ref C::us,kw}) outer s H:={by first|exact e.frames|(simpa [Around.under,Code.envs,Code.isFrame,pushEnvs]using e.frames),e.mod,e.bs,e.Kk,e.pW,e.Oc,e.aQ,e.bare}
section
variable{X:Cx}{pins:List (Addr×Obj)}{σ:St}{H:Hp}{s s':Shared}
theorem Inv.SA(I:Inv X pins σ H s):xw X.prog X.w X.K X.mg X.base X.A X.stack s H:={I.ok.frames,I.ok.mod,I.bs,zG I.ok.Kk I.sz,I.stack,I.qw,I.aQ,I.bare}
theorem Inv.after(I:Inv X pins σ H s)(h:CE X.stack X.prog X.w H s Q u s'):EP X pins σ Q u s':=by obtain⟨v,H',os,bare,un,aQ,r,q⟩:=h;obtain⟨hh,g,d,t,SE⟩:=s';obtain rfl:SE=s.os:=os;exact{v,H',I.call (h':=hh) (g':=g) (d':=d) (t':=t) (ch:=[]) un aQ bare λb z=>absurd z<|by simp,r,q}
end
def Binds(K:Frag)(fd:FuncData)(ps:List Str)(ds:List Value):Prop:=∀(s:Shared)(us:List Value),K.In s.heap->(us++ds).length=ps.length->BindsTo s fd {us,[]} (ps.zip<|us++ds)
theorem Binds.all{K:Frag}{fd:FuncData}{ps:List Str}(h:∀us:List Value,us.length=ps.length->bindArgs fd {us,[]}=pure (ps.zip us)):Binds K fd ps []:=λs us _ hl=>by rw[List.append_nil]at hl⊢;exact .of_eq<|h us hl
def Passes(CX:Bt)(X:Cx)(E:XK):Prop:=∀(pins:List (Addr×Obj))(σ:St)(H:Hp)(s:Shared)(e:Value)(s':Shared),Inv X pins σ H s->CX X.stack H s E e s'->X.xe e s'
section
variable{f C:Addr}
structure Mk(K:Frag)(C f:Addr):Prop where
 makes:makesIn K C=true
 init:findIn K (.ref C) "__init__"= some (some<|.ref f)
 fn:isFn K (.ref f)=true
 kp:keepIn K (.ref C)=true
end
section
variable{fd:FuncData}{ps ks:List Str}
structure XF(K:Frag)(fd:FuncData)(ps ks:List Str)(g:List Value->List Value->List Value)(gV:List V->List V->List V):Prop where
 to:∀(s:Shared)(us ws:List Value),K.In s.heap->(g us ws).length=ps.length->BindsTo s fd {us,ks.zip ws} (ps.zip<|g us ws)
 rel:∀{vs:List V}{us:List Value}{zs:List V}{ws:List Value},Vals vs us->Vals zs ws->Vals (gV vs zs) (g us ws)
variable{g:List Value->List Value->List Value}{gV:List V->List V->List V}
end
structure eZ(N P:List Str)(sc:Scope):Prop where
 kind:sc.kind=.function
 co:sc.isCoroutine=false
 gen:sc.isGenerator=false
 nd:N.Nodup
 pre:N.take P.length=P
 par:∀x∈P,sc.names.lookup x=some .local\/sc.names.lookup x=some .cell
 OT:∀y∈sc.names,y.2≠.free
theorem uG{kindOf:Str->Option NameKind}{x:Str} : ∀{binds:List (Str×Value)}{m:Str->Option Value},(∀v,(x,v)∉binds)->bindL kindOf binds m x=m x
 |[],_,_=>rfl
 | (n,v)::r,m,h=>by
  unfold bindL;rw[uG λw hw=>h w<|zg _ hw];split;have:x≠n:=by rintro rfl;exact h v zr
  simp[this];rfl
theorem uH{kindOf:Str->Option NameKind}{x:Str} : ∀{binds:List (Str×Value)}{m:Str->Option Value},(∀v,(x,v)∉binds)->bindC kindOf binds m x=m x
 |[],_,_=>rfl
 | (n,v)::r,m,h=>by
  unfold bindC;rw[uH λw hw=>h w<|zg _ hw];split;rfl;have:x≠n:=by rintro rfl;exact h v zr
  simp[this]
theorem uI{kindOf:Str->Option NameKind}{x:Str}{v:Value} : ∀{P:List Str}{vs:List Value}{i:Nat}{m:Str->Option Value},P.Nodup->P[i]?=some x->vs[i]?=some v->kindOf x=some .local->bindL kindOf (P.zip vs) m x=some v|[],_,_,_,_,h,_,_=>by simp at h|_::_,[],_,_,_,_,h,_=>by simp at h|p::P,w::vs,0,m,nd,h1,h2,hk=>by simp at h1 h2;subst h1;subst h2;show bindL kindOf ((p,w)::P.zip vs) m p=_;unfold bindL;rw[uG λv hv=>(yk.mp nd).1 (List.of_mem_zip hv).1,if_pos hk];simp|p::P,w::vs,i+1,m,nd,h1,h2,hk=>by show bindL kindOf ((p,w)::P.zip vs) m x=_;unfold bindL;exact uI (i:=i) (yk.mp nd).2 (by simpa using h1) (by simpa using h2) hk
theorem uJ{kindOf:Str->Option NameKind}{x:Str}{v:Value} : ∀{P:List Str}{vs:List Value}{i:Nat}{m:Str->Option Value},P.Nodup->P[i]?=some x->vs[i]?=some v->kindOf x≠some .local->bindC kindOf (P.zip vs) m x=some v|[],_,_,_,_,h,_,_=>by simp at h|_::_,[],_,_,_,_,h,_=>by simp at h|p::P,w::vs,0,m,nd,h1,h2,hk=>by simp at h1 h2;subst h1;subst h2;show bindC kindOf ((p,w)::P.zip vs) m p=_;unfold bindC;rw[uH λv hv=>(yk.mp nd).1 (List.of_mem_zip hv).1,if_neg hk];simp|p::P,w::vs,i+1,m,nd,h1,h2,hk=>by show bindC kindOf ((p,w)::P.zip vs) m x=_;unfold bindC;exact uJ (i:=i) (yk.mp nd).2 (by simpa using h1) (by simpa using h2) hk
noncomputable def start(N:List Str)(vs:List V):St:=vs.map some++List.replicate (N.length-vs.length) none
noncomputable def jt(CX:Bt)(P:Program)(w:World)(K:Frag)(mg:Str->Option Value)(base:Heap)(N:List Str)(qual:Str)(scope:Scope)(f:Addr)(cd:Value)(A:Around)(outer:List Env)(s:Shared)(H:Hp)(E:XK):Cx where
 prog:=P
 w:=w
 K:=K
 mg:=mg
 base:=base
 A:=A.deeper<|envOfC qual scope s.heap.objs.size f cd
 N:=N
 cX:=s
 vE:=H
 env:=envOfC qual scope s.heap.objs.size f cd
 outer:=outer
 stack:=envOfC qual scope s.heap.objs.size f cd::outer
 ex:=[]
 calm:=true
 fn:=λ_=>true
 pn:=[]
 xe:=λe s'=>wpAny (model P w) (A.deeper<|envOfC qual scope s.heap.objs.size f cd) (leaving (envOfC qual scope s.heap.objs.size f cd) e) (λ_ Bu=>CX outer H s E e Bu) (λe' Bu=>CX outer H s E e' Bu) s'
theorem xx{sc:Scope}{n:Nat}{x:Str}(h:sc.names.lookup x=some .cell):∃c,(cellsFrom n sc.names []).lookup x=some c:=by have q:=PySem.W.cellsFrom_some sc.names n []<|.inl h;exact Option.isSome_iff_exists.mp q
theorem Fl{CX:Bt}{P:Program}{w:World}{K:Frag}{mg:Str->Option Value}{base:Heap}{N ps:List Str}{qual:Str}{scope:Scope}{f:Addr}{cd:Value}{A:Around}{outer:List Env}{s s1:Shared}{H:Hp}{E:XK}{us:List Value}{vs:List V} (S:eZ N ps scope) (hd:A.handled=none) (e0:xw P w K mg base A outer s H) (hl:vs.length=ps.length) (r:Vals vs us) (x:InCallC s s.heap.objs.size (bindL (envOfC qual scope s.heap.objs.size f cd).kindOf (ps.zip us) λ_=>none) (cellsFrom (s.heap.objs.size+1) scope.names []) (bindC (envOfC qual scope s.heap.objs.size f cd).kindOf (ps.zip us) λ_=>none) s1): Inv (jt CX P w K mg base N qual scope f cd A outer s H E) [] (start N vs) H s1:=by
 have dO:ps.length<=N.length:=by have:=congrArg List.length S.pre;rw[zV]at this;lia
 obtain⟨h1,tk,rfl,hk⟩:=x.done;have KL:∀b:Addr,b∉(jt CX P w K mg base N qual scope f cd A outer s H E).ex:=λb z=>absurd (show b∈([]:List Addr) from z) (by simp);refine{{e0.mod,S.kind,rfl,rfl,zo _,λy z c h1 h2=>?_,λy hy=>?_,λy c _ h=>?_,λ_=>hd,Around.frames_deeper e0.frames,.inr ⟨rfl,rfl⟩,λb z=>absurd z<|KL b,e0.bs,e0.Kk,λb _ _=>KL b,λb z=>absurd z<|KL b,e0.pW,e0.Oc},rfl,e0.bare,Un.kept hk,{_,x.toInCall.ns,λi y v h1 h2 h3=>?_},λy c h=>{_,x.cell y c h},e0.aQ.fresh<|zo _,λy c h=>?_,λp hp=>absurd (show p∈([]:List (Addr×Obj)) from hp)<|by simp,e0.aQ.kept hk,?_};exact name_of_addr x.apart (yh h1)<|yh h2;have hy:scope.names.lookup y=some .cell\/scope.names.lookup y=some .free:=hy;rcases hy with hy|hy;exact xx hy;exact absurd rfl<|S.OT _<|yh hy;exact yK<|x.above y c<|yh h;have hi:i<vs.length:=by unfold start at h2;by_cases hi:i<vs.length;exact hi;rw[List.getElem?_append_right<|by simpa using hi]at h2;rw[List.getElem?_replicate]at h2;split at h2<;>cases h2
 have ha:vs[i]?=some v:=by unfold start at h2;rw[List.getElem?_append_left<|by simpa using hi,zp]at h2;cases e:vs[i]? with|none=>(rw[e]at h2;cases h2)|some a=>rw[e]at h2;cases h2;rfl
 obtain⟨u,hu,rv⟩:=r.get ha;have hp:ps[i]?=some y:=by rw[<-S.pre,List.getElem?_take_of_lt<|by lia];exact h1
 have ndP:ps.Nodup:=by rw[<-S.pre];exact S.nd.sublist<|List.take_sublist _ _
 refine{u,rv,?_};rcases S.par y (zK hp) with k|k;exact .inl {k,uI ndP hp hu k};obtain⟨c,e⟩:=xx (n:=s.heap.objs.size+1) k;refine .inr {.inl k,c,e,?_};have q:=x.cell y c e;rw[uJ ndP hp hu<|by show scope.names.lookup y≠_;rw[k];decide]at q;exact q;exact e0.aQ.fresh<|yK<|x.above y c<|yh h;unfold start;show _=N.length;rw[zH,zb,List.length_replicate];lia
theorem M5{CX:Bt}{P:Program}{w:World}{K:Frag}{mg:Str->Option Value}{base:Heap}{k:Nat}{f:Addr}{name qual:Str}{params:Arguments}{body:List Stmt}{scope:Scope}{dV kV doc pm eP ct oc:Value}{an od:Option Addr} {OU:Array<|Option Value}{N ps:List Str}{sp:Sp} (lk:K.lookup f=some {oc,od,.func<|fnOf name qual params body scope dV kV doc pm an eP ct,OU}) (tK:codeIn K eP qual=true) (S:eZ N ps scope) (len:∀vs H Q E,sp vs H Q E->vs.length=ps.length) (ju:∀(A:Around)(outer:List Env)(s:Shared)(H:Hp)(vs:List V)(Q:VK)(E:XK),bR k (A.deeper<|envOfC qual scope s.heap.objs.size f eP)->sp vs H Q E->∃t,Dq (jt CX P w K mg base N qual scope f eP A outer s H E) body t/\t {nx:=λ_ H'=>Q .av H',rt:=Q} (start N vs) H): bO P w K mg base CX (k+1) f (fnOf name qual params body scope dV kV doc pm an eP ct) ps sp:=by
 refine{len,λA outer s H args us vs Q E hr e0 hb r Rf=>?_};have hl:=len _ _ _ _ Rf;have KX:K.In s.heap:=e0.mod.Q9.keeps λb o e=>(e0.bs b o e).1;have lim:s.heap.NoLimit:=e0.mod.nolimit.keeps λb o e=>(e0.bs b o e).1;have SF:∀y∈ps.zip us,scope.names.lookup y.1=some .local\/(scope.names.lookup y.1=some .cell/\((cellsFrom (s.heap.objs.size+1) scope.names []).lookup y.1).isSome=true):=by rintro⟨n,v⟩ hy;rcases S.par n (List.of_mem_zip hy).1 with q|q;exact .inl q;exact .inr {q,PySem.W.cellsFrom_some _ _ _<|.inl q}
 refine codeAny_call_function hr.depth (KX _ _ lk) rfl S.co S.gen rfl (PySem.W.codeRec_of KX tK)<|hb _ _ _ _ ?_;refine wpAny_newFunctionEnv_cells S.kind SF λenv he s1 x=>?_;subst he;refine{lim.keeps x.toInCall.keep,codeAny_func ?_};obtain⟨t,ht,hq⟩:=ju A outer s H vs Q E (hr.deeper _) Rf;have I:Inv (jt CX P w K mg base N qual scope f eP A outer s H E) [] (start N vs) H s1:=Fl S hr.hd e0 hl r x;refine yF (ht [] s1 (start N vs) H _ I hq) (λfl s' hs=>?_) λe s' hs=>hs;have fin:∀{aF:St}{H':Hp}{v:V}{u:Value},Inv (jt CX P w K mg base N qual scope f eP A outer s H E) [] aF H' s'->RelV v u->Q v H'->CE outer P w H s Q u s':=λ{aF H' v u} J rv q=>⟨v,H',J.os,J.bare,J.base,J.aQ,rv,q⟩;cases fl with|ret u=>(obtain⟨v,aF,H',J,rv,q⟩:=hs;exact fin J rv q)|next=>(obtain⟨aF,H',J,q⟩:=hs;exact fin (v:=V.av) (u:=Value.none) J rfl q)|brk=>(obtain⟨_,_,_,q⟩:=hs;exact False.elim q)|cont=>obtain⟨_,_,_,q⟩:=hs;exact False.elim q
section
variable{X:Cx}{x:Str}{p pos:Pos}{e:Expr}{es:List Expr}{t:TA}{id T:String}{r:List V->Hp->VK->Prop}
def XG(r:List V->Hp->VK->Prop)(t:TA):TE:=λσ H Q=>t σ H λvs H1=>r vs H1 Q
theorem xy(hc:eU X (.builtin id) r)(hg:Gl X x)(hm:X.mg x=none)(hv:bootBuiltins x=some (.builtin id))(ha:PA X (e::es) t)(hn:autoParam (x≠"__name__") qQZ)(pY:autoParam ((x==("__debug__": Str))=false) qQZ) (he:autoParam (starEach (e::es) X.env=(false,eval e X.env)::starEach es X.env) qQJ) (dO:autoParam ((backTo pos<|starEach es X.env).any (·.1)=false) qQJ):PE X (.Call (.Name x p) (e::es) [] pos) (XG r t):=by intro pins s σ H Q I h;refine wpAny_Call_Name_kw<|fj I hg hm hv ?_ hn pY;exact PyProof.Rows.callWith_builtin1 (bz (ha pos pins s σ H _ I h) <| by rintro us s1 ⟨vs,H1,I1,r1,q1⟩;exact hc pins s1 σ H1 vs us Q I1 r1 q1) he dO
theorem uK(hc:eU X (.type T) r)(hg:Gl X x)(hm:X.mg x=none)(hv:bootBuiltins x=some (.type T))(ha:PA X (e::es) t)(hn:autoParam (x≠"__name__") qQZ)(pY:autoParam ((x==("__debug__": Str))=false) qQZ) (he:autoParam (starEach (e::es) X.env=(false,eval e X.env)::starEach es X.env) qQJ) (dO:autoParam ((backTo pos<|starEach es X.env).any (·.1)=false) qQJ):PE X (.Call (.Name x p) (e::es) [] pos) (XG r t):=by intro pins s σ H Q I h;refine wpAny_Call_Name_kw<|fj I hg hm hv ?_ hn pY;exact PyProof.Rows.callWith_type1 (bz (ha pos pins s σ H _ I h) <| by rintro us s1 ⟨vs,H1,I1,r1,q1⟩;exact hc pins s1 σ H1 vs us Q I1 r1 q1) he dO
end
end L2
namespace HT
open PySem PyProof.Rows
section
variable{prog:Program}{w:World}{A:Around}{E:Value->Shared->Prop}{s:Shared}
theorem cat_tup{t b:Addr}(ht:IsTup s.heap t vs.toArray)(hb:IsTup s.heap b ws.toArray)(hv:vs≠[]) (h1:ws=[]->Q (.ref t) s) (h2:ws≠[]->Q (.ref s.heap.objs.size) {s with heap:=s.heap.push {cls:=.type "tuple",data:=.seq (vs++ws).toArray}}) (hsz:vs.length+ws.length<=sizeLine):wpAny (model prog w) A (binaryOp .Add (.ref t)<|.ref b) Q E s:=by
 obtain⟨⟨cls,dd,data,sl⟩,ho,hc,n,hd⟩:=id ht;obtain⟨⟨XH,OV,data2,J1⟩,KN,KO,n2,hd2⟩:=id hb;simp only at hc hd KO hd2;subst hc hd KO hd2;have e:vs.toArray++ws.toArray=(vs++ws).toArray:=by simp
 by_cases hw:ws=[];exact concat_meets {_,ho,rfl} {_,KN,rfl} noFill_tuple_add seq_tuple_add PySem.F.slot_tuple_add PySem.F.entry_tuple_add (PySem.F.args_tuple_add_2 _ _) (tuple_addW1 t b vs.toArray ws.toArray n n2 dd OV sl J1 (by simpa using hv)<|by simp[hw]) {ho,KN,h1 hw};refine concat_meets {_,ho,rfl} {_,KN,rfl} noFill_tuple_add seq_tuple_add PySem.F.slot_tuple_add PySem.F.entry_tuple_add (PySem.F.args_tuple_add_2 _ _) (tuple_addW2 t b vs.toArray ws.toArray n n2 dd OV sl J1 (by simpa using hv) (by simpa using hw)<|by rw[zl,zl];exact hsz) {ho,KN,?_};rw[e];exact h2 hw
noncomputable def sIx(n d:Nat):Option Int->Nat|none=>d|some v=>if v<0 then (v+(n:Int)).toNat else min v.toNat n
theorem sIx_nat(n d k:Nat):sIx n d (some (k:Int))=min k n:=by show(if (k:Int)<0 then ((k:Int)+(n:Int)).toNat else min (k:Int).toNat n)=min k n;rw[if_neg<|by lia,Int.toNat_natCast]
theorem sIx_le(n d:Nat)(hd:d<=n)(o:Option Int):sIx n d o<=n:=by cases o with|none=>exact hd|some v=>show(if v<0 then (v+(n:Int)).toNat else min v.toNat n)<=n;by_cases hv:v<0;rw[if_pos hv];lia;rw[if_neg hv];exact Nat.min_le_right _ _
theorem clip_eq(v:Int)(n d:Nat):(if v<0 then max (v+(n:Int)) 0 else min v (n:Int))=((sIx n d (some v):Nat):Int):=by show(if v<0 then max (v+(n:Int)) 0 else min v (n:Int))=(((if v<0 then (v+(n:Int)).toNat else min v.toNat n):Nat):Int);by_cases hv:v<0;simp only[if_pos hv];lia;simp only[if_neg hv];lia
theorem adjust_gen(lo hi:Option Int)(n:Nat):Builtin.Slice.sliceAdjust lo hi 1 (n:Int)=(((sIx n 0 lo:Nat):Int),((sIx n n hi:Nat):Int)):=by
 have h1:¬((1:Int)<0):=by lia
 unfold Builtin.Slice.sliceAdjust;simp only[h1,if_false];refine Prod.ext ?_ ?_;cases lo with|none=>rfl|some v=>exact clip_eq v n 0
 cases hi with|none=>rfl|some v=>exact clip_eq v n n
theorem places_gen(i j:Nat):Builtin.Slice.slicePlaces (i:Int) (j:Int) 1=j-i:=by
 unfold Builtin.Slice.slicePlaces;have h1:(1:Int)>0:=by lia
 simp only[h1,if_true,Int.ediv_one];split<;>lia
theorem slicePart_(p:IsPart v o)(h:Q o s):wpAny (model prog w) A (Builtin.Slice.slicePartIndex v) Q E s:=by cases p with|none=>exact slicePart_none h|int i t=>exact slicePart_int h
theorem sliceApplied_gen{sl:Addr}{vl vu:Value}{lo hi:Option Int}{n:Nat}{Q:Int×Int×Nat->Shared->Prop}(hs:s.heap.IsSliceOf sl vl vu .none)(pl:IsPart vl lo)(pu:IsPart vu hi) (h:Q (((sIx n 0 lo:Nat):Int),1,sIx n n hi-sIx n 0 lo) s):wpAny (model prog w) A (Builtin.Slice.sliceApplied (.ref sl)<|pure (n:Int)) Q E s:=by obtain⟨os,SG,hcs,OW⟩:=id hs;unfold Builtin.Slice.sliceApplied Builtin.Slice.sliceFields;refine zc<|zc<|zU SG OW (x:=vl) rfl<|zc<|zU SG OW (x:=vu) rfl<|zc<|zU SG OW (x:=.none) rfl<|zm ?_;refine zc<|slicePart_none ?_;show wpAny _ _ (if ((1:Int)==0)=true then _ else _) _ _ s;rw[if_neg<|by decide];refine zc<|slicePart_ pl<|zc<|slicePart_ pu<|zc<|zm ?_;show wpAny _ _ (match Builtin.Slice.sliceAdjust lo hi 1 (n:Int) with|(lo,hi)=>pure (lo,(1:Int),Builtin.Slice.slicePlaces lo hi 1)) _ _ s;rw[adjust_gen lo hi n];show wpAny _ _ (pure (((sIx n 0 lo:Nat):Int),(1:Int),Builtin.Slice.slicePlaces ((sIx n 0 lo:Nat):Int) ((sIx n n hi:Nat):Int) 1)) _ _ s;rw[places_gen];exact zm h
theorem pick_gen(xs:Array Value)(i k:Nat):((List.range k).filterMap λ(m:Nat)=>xs[((i:Int)+(m:Int)*1).toNat]?).toArray=((xs.toList.drop i).take k).toArray:=by
 have e:(λ(m:Nat)=>xs[((i:Int)+(m:Int)*1).toNat]?)=λm=>xs[i+m]?:=by funext m;have:((i:Int)+(m:Int)*1).toNat=i+m:=(by lia);rw[this]
 rw[e];have:=pick_run xs i k;rw[List.filterMap_map]at this;have e2:((λx=>xs[x]?) ∘ λx=>i+x)=λm=>xs[i+m]?:=rfl;rw[e2]at this;rw[this]
theorem getItem_tuple_cut{t sl:Addr}{items:Array Value}{vl vu:Value}{lo hi:Option Int}{Q:Value->Shared->Prop}(ht:IsTup s.heap t items)(hs:s.heap.IsSliceOf sl vl vu .none)(pl:IsPart vl lo)(pu:IsPart vu hi) (hw:¬(sIx items.size 0 lo=0/\sIx items.size items.size hi=items.size)) (h:Q (.ref s.heap.objs.size) {s with heap:=s.heap.push {cls:=.type "tuple",data:=.seq ((items.toList.drop<|sIx items.size 0 lo).take<|sIx items.size items.size hi-sIx items.size 0 lo).toArray}}) (hsz:items.size<=sizeLine):wpAny (model prog w) A (getItem (.ref t)<|.ref sl) Q E s:=by
 have DD:sizeOk (.seq ((items.toList.drop<|sIx items.size 0 lo).take<|sIx items.size items.size hi-sIx items.size 0 lo).toArray):=by show((items.toList.drop<|sIx items.size 0 lo).take<|sIx items.size items.size hi-sIx items.size 0 lo).toArray.size<=sizeLine;rw[zl,zV,yC,zT];lia
 have hj:sIx items.size items.size hi<=items.size:=sIx_le _ _ (zo _) hi;obtain⟨os,SG,hcs,OW⟩:=id hs;have hTs:s.TypeIs (.ref sl) "slice":=⟨os,SG,hcs⟩;unfold getItem;try with_reducible refine yE ?_
 first|refine zc (zm ?_)|skip
 refine zc<|wpAny_sequenceKey ht.typeIs (by decide) ?_;refine zc<|wpAny_callSpecial?_slot (name:=Str.ofString "__getitem__") ht.typeIs PyProof.Rows.slot_tuple_getitem<|yD PyProof.Rows.slot_tuple_getitem ht.typeIs entry_tuple_getitem ?_<|args_tuple_getitem _ _;show wpAny _ _ (Builtin.Tuple.tupleItemsOf (.ref t) >>=_) _ _ s;refine zc<|tupleItemsOf_ ht ?_;refine zc<|wpAny_typeOf hTs ?_;rw[if_pos<|by decide];refine zc<|sliceApplied_gen hs pl pu ?_;have XI:¬((((sIx items.size 0 lo:Nat):Int)==0&&(1:Int)==1&&(sIx items.size items.size hi-sIx items.size 0 lo)==items.size)=true):=by intro q;rw[zL,zL]at q;have q1:((sIx items.size 0 lo:Nat):Int)=0:=eq_of_beq q.1.1;have q2:sIx items.size items.size hi-sIx items.size 0 lo=items.size:=eq_of_beq q.2;exact hw {by lia,by lia}
 show wpAny _ _ (if (((sIx items.size 0 lo:Nat):Int)==0&&(1:Int)==1&&(sIx items.size items.size hi-sIx items.size 0 lo)==items.size)=true then _ else _) _ _ s;rw[if_neg XI,pick_gen];first|exact zc (m:=Builtin.Tuple.tupleExact _) (yi (zm !⟨zm h⟩) DD)|exact zc (m:=Builtin.Tuple.tupleExact _) (yi (zc<|zm<|zm !⟨zm h⟩) DD)|exact zc (zc (m:=Builtin.Tuple.tupleExact _)<|yi (zm<|zm !⟨zm h⟩) DD)|exact zc (zc (m:=Builtin.Tuple.tupleExact _)<|yi (zm !⟨zm h⟩) DD)
end
end HT
namespace L2
open PySem PySem.Spec PyProof.Rows
abbrev TO:=St->Hp->(Option Int->Hp->Prop)->Prop
def PO(X:Cx)(e:Option Expr)(t:TO):Prop:=∀(pins:List (Addr×Obj))(s:Shared)(σ:St)(H:Hp)(Q:Option Int->Hp->Prop),Inv X pins σ H s->t σ H Q->wpAny (model X.prog X.w) X.A (evalPart e X.env) (λu s'=>∃o H',Inv X pins σ H' s'/\IsPart u o/\Q o H') X.xe s
def KP:TO:=λ_ H Q=>Q none H
def SH(t:TE):TO:=λσ H Q=>t σ H λx H1=>∃i,x=.int i/\Q (some i) H1
section
variable{X:Cx}{e:Expr}{te:TE}{lo hi:Option Expr}{tl th:TO}{pos p2:Pos}
theorem KQ:PO X none KP:=by intro pins s σ H Q I h;rw[evalPart_none];exact zm {none,H,I,.none,h}
theorem KR(h:PE X e te):PO X (some e) (SH te):=by intro pins s σ H Q I hw;rw[evalPart_some];refine bz (h pins s σ H _ I hw) λu s1 ⟨x,H1,I1,r1,q1⟩=>?_;obtain⟨i,rfl,q⟩:=q1;obtain⟨t,rfl⟩:=r1;exact{some i,H1,I1,.int i t,q}
def Rh(X:Cx)(r:V->Option Int->Option Int->Hp->VK->Prop):Prop:=∀(pins:List (Addr×Obj))(s:Shared)(σ:St)(H:Hp)(x:V)(v vl vu:Value)(lo hi:Option Int)(sl:Addr)(Q:VK),Inv X pins σ H s->RelV x v->s.heap.IsSliceOf sl vl vu .none->IsPart vl lo->IsPart vu hi->r x lo hi H Q->∃T id,typeLookup (.type T) "__getitem__"= pure (some<|.builtin id)/\s.TypeIs v T/\wpAny (model X.prog X.w) X.A (getItem v<|.ref sl) (EP X pins σ Q) X.xe s
def tSl(r:V->Option Int->Option Int->Hp->VK->Prop)(te:TE)(tl th:TO):TE:=λσ H Q=>te σ H λx H1=>tl σ H1 λl H2=>th σ H2 λu H3=>r x l u H3 Q
theorem xA{r:V->Option Int->Option Int->Hp->VK->Prop}(hr:Rh X r)(he:PE X e te)(hl:PO X lo tl)(hu:PO X hi th):PE X (.Subscript e (.Slice lo hi none p2) pos) (tSl r te tl th):=by intro pins s σ H Q I h;refine Subscript_<|bz (he pins s σ H _ I h) λv s1 ⟨x,H1,I1,r1,q1⟩=>?_;refine wpAny_Slice<|bz (hl pins s1 σ H1 _ I1 q1) λvl s2 ⟨l,H2,I2,pl,q2⟩=>bz (hu pins s2 σ H2 _ I2 q2) λvu s3 ⟨u,H3,I3,pu,q3⟩=>?_;rw[evalPart_none];refine zm ?_;have I4:Inv X pins σ H3 {s3 with heap:=s3.heap.push {cls:=.type "slice",data:=.fields #[vl,vu,.none]}}:=I3.kept (t':=s3.toks) λb ob q=>za _ q;obtain⟨T,id,hT,ht,hg⟩:=hr pins {s3 with heap:=s3.heap.push {cls:=.type "slice",data:=.fields #[vl,vu,.none]}} σ H3 x v vl vu l u s3.heap.objs.size Q I4 r1 (Heap.IsSliceOf.new ..) pl pu q3;show wpAny (model X.prog X.w) X.A (subscriptTail e (.Slice lo hi none p2) v<|.ref s3.heap.objs.size) (EP X pins σ Q) X.xe {s3 with heap:=s3.heap.push {cls:=.type "slice",data:=.fields #[vl,vu,.none]}};exact tail_any (ops:=[.ref s3.heap.objs.size,v]) ht hT hg<|by with_unfolding_all rfl
noncomputable def xB(xs:List V)(lo hi:Option Int):List V:=(xs.drop<|HT.sIx xs.length 0 lo).take<|HT.sIx xs.length xs.length hi-HT.sIx xs.length 0 lo
theorem pb(xs:List V)(lo hi:Option Int):(xB xs lo hi).length<=xs.length:=by unfold xB;rw[zV,yC];lia
def XJ(K:Frag):V->Option Int->Option Int->Hp->VK->Prop:=λx lo hi H Q=>∃a xs,x=.ref a/\gT K H a xs/\¬(HT.sIx xs.length 0 lo=0/\HT.sIx xs.length xs.length hi=xs.length)/\∀p,H p=none->Q (.ref p) (upd H p<|.tup<|xB xs lo hi)
theorem OX:Rh X (XJ X.K):=by
 intro pins s σ H x v vl vu lo hi sl Q I rx hs pl pu h;obtain⟨a,xs,rfl,hx,hw,q⟩:=h;cases rx;obtain⟨az,r,ht,hz⟩:=I.tuple hx;have hlen:az.toArray.size=xs.length:=by rw[zl];exact r.length.symm
 refine{"tuple",_,PyProof.Rows.slot_tuple_getitem.lookup,ht.typeIs,?_};refine HT.getItem_tuple_cut ht hs pl pu (by rw[hlen];exact hw) ?_ (by rw[hlen];exact hz);rw[hlen];refine{.ref s.heap.objs.size,_,I.laid (t':=s.toks) (o:=.tup<|xB xs lo hi) (λb ob q=>za _ q) (zo _) ?_,rfl,q _<|I.aQ.fresh<|zo _};exact{zG (pb xs lo hi) hz,_,(r.drop<|HT.sIx xs.length 0 lo).take<|HT.sIx xs.length xs.length hi-HT.sIx xs.length 0 lo,gx.new _ _}
def SI(K:Frag):R2:=λx y H Q=>∃a b xs ys,x=.ref a/\y=.ref b/\gT K H a xs/\gT K H b ys/\xs≠[]/\xs.length+ys.length<=sizeLine/\(ys=[]->Q (.ref a) H)/\(ys≠[]->∀p,H p=none->Q (.ref p) (upd H p<|.tup<|xs++ys))
theorem Vals.qC(r:Vals xs us):us=[]↔xs=[]:=by cases r with|nil=>simp|cons _ _=>simp
theorem KU:gy X (binaryOp .Add) (SI X.K):=by intro pins s σ H x y v u Q I rx ry h;obtain⟨a,b,xs,ys,rfl,rfl,ha,hb,hx,hz,q1,q2⟩:=h;cases rx;cases ry;obtain⟨az,r1,p1,_⟩:=I.tuple ha;obtain⟨p5,r2,p2,_⟩:=I.tuple hb;refine HT.cat_tup p1 p2 (λz=>hx<|r1.qC.mp z) (λz=>{.ref a,H,I,rfl,q1<|r2.qC.mp z}) (λz=>?_) (by rw[<-r1.length,<-r2.length];exact hz);refine{.ref s.heap.objs.size,_,I.laid (t':=s.toks) (o:=.tup<|xs++ys) (λb ob q=>za _ q) (zo _) ?_,rfl,q2 (λw=>z<|r2.qC.mpr w) _<|I.aQ.fresh<|zo _};exact{by rw[zH];exact hz,_,r1.append r2,gx.new _ _}
end
noncomputable def KW(n:Nat)(i:Int):Option Nat:=if 0<=i then (if i<n then some i.toNat else none) else if -(n:Int)<=i then some (i+n).toNat else none
noncomputable def rl{α:Type}(xs:List α)(i:Int):Option α:=(KW xs.length i).bind λj=>xs[j]?
theorem DF(h:KW n i=some j):seqIndex? i n=some j/\j<n/\-(n:Int)<=i/\i<n:=by unfold KW at h;by_cases h0:0<=i;rw[if_pos h0]at h;by_cases h1:i<n;rw[if_pos h1]at h;have e:i.toNat=j:=zP h;exact{by rw[seqIndex_of h0 h1,e],by lia,by lia,h1};rw[if_neg h1]at h;cases h;rw[if_neg h0]at h;by_cases h1:-(n:Int)<=i;rw[if_pos h1]at h;have e:(i+n).toNat=j:=zP h;exact{by rw[seqIndex_neg (by lia) h1,e],by lia,h1,by lia};rw[if_neg h1]at h;cases h
theorem vG(h:rl xs i=some v):∃j,seqIndex? i xs.length=some j/\xs[j]?=some v/\j<xs.length/\-(xs.length:Int)<=i/\i<xs.length:=by unfold rl at h;cases e:KW xs.length i with|none=>(rw[e]at h;cases h)|some j=>rw[e]at h;obtain⟨h1,h2,h3,h4⟩:=DF e;exact⟨j,h1,h,h2,h3,h4⟩
theorem d_{α:Type}{xs:List α}{j:Nat}{v:α}(h:xs[j]?=some v):rl xs (j:Int)=some v:=by
 have hj:j<xs.length:=(zf.mp h).1;have e:KW xs.length (j:Int)=some j:=by unfold KW;rw[if_pos<|by lia,if_pos<|by lia];simp
 unfold rl;rw[e];exact h
def DH(b:Expr):Prop:=∀o i,subscripted b false o i=operate [o,i] (getItem o i)
def SJ(X:Cx)(r:R2):Prop:=∀(value slice:Expr)(pins:List (Addr×Obj))(s:Shared)(σ:St)(H:Hp)(x y:V)(v u:Value)(Q:VK),Inv X pins σ H s->RelV x v->RelV y u->r x y H Q->subscripted slice false v u=operate [v,u] (getItem v u)->wpAny (model X.prog X.w) X.A (subscriptTail value slice v u) (EP X pins σ Q) X.xe s
def Ri(X:Cx)(id:String)(r:V->List V->Hp->VK->Prop):Prop:=∀(pins:List (Addr×Obj))(s:Shared)(σ:St)(H:Hp)(x:V)(xs:List V)(v:Value)(us:List Value)(Q:VK),Inv X pins σ H s->RelV x v->Vals xs us->r x xs H Q->wpAny (model X.prog X.w) X.A (call (.builtin id)<|v::us) (EP X pins σ Q) X.xe s
section
variable{X:Cx}{a b:Expr}{ta tb:TE}{pos:Pos}
theorem SK(hr:SJ X r)(ha:PE X a ta)(hb:PE X b tb)(hs:DH b):PE X (.Subscript a b pos) (Rb r ta tb):=by intro pins s σ H Q I h;exact Subscript_<|OG ha hb I h λv u s2 x y H2 I2 rx ry q=>hr a b pins s2 σ H2 x y v u Q I2 rx ry q<|hs _ _
def XM(K:Frag):R2:=λx y H Q=>∃p xs i v,x=.ref p/\y=.int i/\iZ K H p xs/\rl xs i=some v/\Q v H
def XN(K:Frag):R2:=λx y H Q=>∃p xs i v,x=.ref p/\y=.int i/\gT K H p xs/\rl xs i=some v/\Q v H
def XO:R2:=λx y H Q=>∃z i c,x=.str z/\y=.int i/\z.length<=sizeLine/\rl z.cps.toList i=some c/\Q (.str ⟨#[c]⟩) H
theorem DJ:SJ X (XM X.K):=by
 intro value slice pins s σ H x y v u Q I rx ry h hs;obtain⟨p,xs,i,z,rfl,rfl,hq,he,q⟩:=h;cases rx;obtain⟨t,rfl⟩:=ry;obtain⟨az,r,pl,hz⟩:=I.list hq;obtain⟨j,h1,h2,h3,h4,h5⟩:=vG he;obtain⟨w,ew,tQ⟩:=r.get h2;have hl:=r.length;have hn:=rf;have fin:EP X pins σ Q w s:=⟨z,H,I,tQ,q⟩;by_cases h0:0<=i;have hj:i.toNat=j:=by rw[seqIndex_of h0 h5]at h1;exact zP h1
 exact item_listR pl.isList h0 (by lia) (by rw[hj];simpa using ew) fin hs;have hj:(i+(az.toArray.size:Int)).toNat=j:=by rw[seqIndex_neg (by lia) h4]at h1;rw[zl,<-hl];exact zP h1
 exact subscriptTail_builtinR (x:=w) pl.isList.typeIs slot_list_getitem.lookup (wpAny_getItem_list_neg (Q:=λr s'=>r=w/\EP X pins σ Q r s') pl.isList (by lia) (by rw[zl]<;>lia) (by lia) (by rw[hj];simpa using ew) ⟨rfl,fin⟩) hs
theorem Ho:SJ X (XN X.K):=by intro value slice pins s σ H x y v u Q I rx ry h hs;obtain⟨p,xs,i,z,rfl,rfl,hq,he,q⟩:=h;cases rx;obtain⟨t,rfl⟩:=ry;obtain⟨az,r,pl,hz⟩:=I.tuple hq;obtain⟨j,h1,h2,h3,h4,h5⟩:=vG he;obtain⟨w,ew,tQ⟩:=r.get h2;have hl:=r.length;have hn:=rf;have fin:EP X pins σ Q w s:=⟨z,H,I,tQ,q⟩;exact subscriptTail_builtinR (x:=w) pl.typeIs slot_tuple_getitem.lookup (getItem_tuple (j:=j) (Q:=λr s'=>r=w/\EP X pins σ Q r s') pl (by lia) (by lia) (by rw[zl,<-hl];exact h1) (by simpa using ew) ⟨rfl,fin⟩) hs
theorem OY:SJ X XO:=by
 intro value slice pins s σ H x y v u Q I rx ry h hs;obtain⟨z,i,c,rfl,rfl,hz,he,q⟩:=h;obtain⟨t,rfl⟩:=rx;obtain⟨t',rfl⟩:=ry;obtain⟨j,h1,h2,h3,h4,h5⟩:=vG he;have hl:z.cps.toList.length=z.length:=by simp[Str.length]
 rw[hl]at h1 h4 h5;have hn:=rf;exact tail_any (typeIs_str s z t) slot_str_getitem.lookup (getItem_str (c:=c) (by have e1:decide (i < -(2^63:Int))=false:=zu (by lia);have e2:decide (i>=2^63)=false:=zu (by lia);rw[e1,e2,Bool.or_false]) (by rw[h1];simpa using h2) {.str ⟨#[c]⟩,H,I.tok _,{_,rfl},q}) hs
theorem Bv(az:List Value)(n j:Nat)(u:Value):Obj.mapSeq (·.setIfInBounds j u) {cls:=.type "list",data:=.seq az.toArray n}={cls:=.type "list",data:=.seq (az.set j u).toArray n}:=by simp[Obj.mapSeq]
theorem Inv.lst(I:Inv X pins σ H s)(h:H p=some (.lst xs)): ∃(az:List Value)(n:Nat),Vals xs az/\s.heap.get? p=some {cls:=.type "list",data:=.seq az.toArray n}/\xs.length<=sizeLine:=by obtain⟨z,az,n,r,e⟩:=I.aQ p _ h;exact⟨az,n,r,e,z⟩
theorem Inv.OZ{pins:List<|Addr×Obj}{σ:St}{H:Hp}{s:Shared}{p:Addr}{xs ys:List V}{az its':List Value}{n n':Nat}{f:Obj->Obj}(I:Inv X pins σ H s)(h:H p=some (.lst xs)) (ho:s.heap.get? p=some {cls:=.type "list",data:=.seq az.toArray n}) (hf:f {cls:=.type "list",data:=.seq az.toArray n}={cls:=.type "list",data:=.seq its'.toArray n'}) (r:Vals ys its') (hz:ys.length<=sizeLine) (t:Nat): Inv X pins σ (upd H p<|.lst ys) {s with heap:=s.heap.update p f,toks:=t}:=by
 have e:(s.heap.update p f).get? p=some {cls:=.type "list",data:=.seq its'.toArray n'}:=by rw[yt f ho<|by rw[hf]<;>rfl,hf]
 refine I.write (x:=p) (e:=p) (by rw[h];trivial) (.inl rfl) (λb u hb q=>(yo _ _<|Ne.symm hb).trans q) {_,e} ?_;exact⟨hz,its',n',r,e⟩
def SM:V->V->V->Hp->(Hp->Prop)->Prop:=λo i v H Q=>∃p xs k j,o=.ref p/\i=.int k/\H p=some (.lst xs)/\KW xs.length k=some j/\Q (upd H p<|.lst<|xs.set j v)
theorem set_list:Sf X SM:=by
 intro pins s σ H o i v ov iv u Q I ro ri rv h;obtain⟨p,xs,k,j,rfl,rfl,hp,hj,q⟩:=h;cases ro;obtain⟨t,rfl⟩:=ri;obtain⟨az,n,r,ho,hz⟩:=I.lst hp;obtain⟨h1,h2,h3,h4⟩:=DF hj;have hl:=r.length;have hn:=rf;have I':Inv X pins σ (upd H p<|.lst<|xs.set j v) {s with heap:=s.heap.update p (Obj.mapSeq (·.setIfInBounds j u))}:=I.OZ hp ho (Bv az n j u) (r.set rv j) (by rw[List.length_set];exact hz) s.toks;by_cases h0:0<=k;have hk:k.toNat=j:=by rw[seqIndex_of h0 h4]at h1;exact zP h1
 exact PySem.W.ki_setAt ho h0 (by lia) (by rw[zl,<-hl];exact h4) (by rw[hk];exact{_,I',q});have hk:(k+(az.toArray.size:Int)).toNat=j:=by rw[seqIndex_neg (by lia) h3]at h1;rw[zl,<-hl];exact zP h1
 exact PySem.W.ki_setBack ho (by lia) (by rw[zl,<-hl];exact h3) (by lia)<|by rw[hk];exact{_,I',q}
theorem vH(lo hi:Option Int)(n:Nat):(sliceBounds lo hi none n).1=((HT.sIx n 0 lo:Nat):Int)/\(sliceBounds lo hi none n).2.1=((HT.sIx n n hi:Nat):Int)/\(sliceBounds lo hi none n).2.2=1:=by
 refine{?_,?_,rfl};cases lo with|none=>simp[sliceBounds,HT.sIx]|some i=>simp only[sliceBounds,HT.sIx,Option.getD_none,show(1:Int)>0 by decide,if_true];by_cases h:i<0;simp only[h,if_true]<;>lia;simp only[h,if_false]<;>lia
 cases hi with|none=>simp[sliceBounds,HT.sIx]|some i=>simp only[sliceBounds,HT.sIx,Option.getD_none,show(1:Int)>0 by decide,if_true];by_cases h:i<0;simp only[h,if_true]<;>lia;simp only[h,if_false]<;>lia
theorem tR(az:List Value)(lo hi:Option Int):slicePick az.toArray lo hi none=((az.drop<|HT.sIx az.length 0 lo).take<|HT.sIx az.length az.length hi-HT.sIx az.length 0 lo).toArray:=by obtain⟨h1,h2,h3⟩:=vH lo hi az.toArray.size;unfold slicePick;rw[h1,h2,h3];simp only[sliceRange_one,pick_run,zl]<;>rfl
def XQ(K:Frag):V->Option Int->Option Int->Hp->VK->Prop:=λx lo hi H Q=>∃a xs,x=.ref a/\iZ K H a xs/\∀p,H p=none->Q (.ref p) (upd H p<|.lst<|xB xs lo hi)
theorem qD:Rh X (XQ X.K):=by intro pins s σ H x v vl vu lo hi sl Q I rx hs pl pu h;obtain⟨a,xs,rfl,hx,q⟩:=h;cases rx;obtain⟨az,r,ht,hz⟩:=I.list hx;have hlen:=r.length;refine{"list",_,slot_list_getitem.lookup,ht.isList.typeIs,?_};refine wpAny_getItem_list_slice ht.isList hs pl pu .none (by simp) ?_ (by rw[zl]<;>lia);rw[tR,<-hlen];refine{.ref s.heap.objs.size,_,I.laid (t':=s.toks) (o:=.lst<|xB xs lo hi) (λb ob q=>za _ q) (zo _) ?_,rfl,q _<|I.aQ.fresh<|zo _};exact{zG (pb xs lo hi) hz,_,0,(r.drop<|HT.sIx xs.length 0 lo).take<|HT.sIx xs.length xs.length hi-HT.sIx xs.length 0 lo,zk _ rfl}
noncomputable def gW:V->Bool|.av=>true|.bl _=>true|.int _=>true|.str _=>true|_=>false
noncomputable def eqV:V->V->Bool|.av,.av=>true|.bl a,.bl b=>a==b|.bl a,.int b=>((if a then 1 else 0)==b)|.int a,.bl b=>(a==(if b then 1 else 0))|.int a,.int b=>a==b|.str a,.str b=>a==b|_,_=>false
theorem O0(ry:RelV y u)(rx:RelV x v)(fy:gW y=true)(fx:gW x=true):SeqAt.EqAt A s u v (eqV y x):=by cases y with|av=>(cases ry;cases x with|av=>(cases rx;exact SeqAt.EqAt.same _)|bl b=>(cases rx;exact SeqAt.EqAt.none_bool b)|int b=>(obtain⟨t,rfl⟩:=rx;exact SeqAt.EqAt.none_int b t)|str b=>(obtain⟨t,rfl⟩:=rx;exact SeqAt.EqAt.none_str b t)|_=>exact absurd (show false=true from fx) zd)|bl a=>(cases ry;cases x with|av=>(cases rx;exact SeqAt.EqAt.bool_none a)|bl b=>(cases rx;exact SeqAt.EqAt.bool_bool a b)|int b=>(obtain⟨t,rfl⟩:=rx;exact SeqAt.EqAt.bool_int a b t)|str b=>(obtain⟨t,rfl⟩:=rx;exact SeqAt.EqAt.bool_str a b t)|_=>exact absurd (show false=true from fx) zd)|int a=>(obtain⟨t',rfl⟩:=ry;cases x with|av=>(cases rx;exact SeqAt.EqAt.int_none a t')|bl b=>(cases rx;exact SeqAt.EqAt.int_bool a t' b)|int b=>(obtain⟨t,rfl⟩:=rx;exact SeqAt.EqAt.int_int a t' b t)|str b=>(obtain⟨t,rfl⟩:=rx;exact SeqAt.EqAt.int_str a t' b t)|_=>exact absurd (show false=true from fx) zd)|str a=>(obtain⟨t',rfl⟩:=ry;cases x with|av=>(cases rx;exact SeqAt.EqAt.str_none a t')|bl b=>(cases rx;exact SeqAt.EqAt.str_bool a t' b)|int b=>(obtain⟨t,rfl⟩:=rx;exact SeqAt.EqAt.str_int a t' b t)|str b=>(obtain⟨t,rfl⟩:=rx;exact SeqAt.EqAt.str_str a t' b t)|_=>exact absurd (show false=true from fx) zd)|_=>exact absurd (show false=true from fy) zd
noncomputable def xC(x:V)(u:Value):Bool:=match u with|.none=>eqV .av x|.bool b=>eqV (.bl b) x|.int i _=>eqV (.int i) x|.str z _=>eqV (.str z) x|_=>false
theorem Bw(r:RelV y u)(f:gW y=true):xC x u=eqV y x:=by cases y with|av=>(cases r;rfl)|bl b=>(cases r;rfl)|int i=>(obtain⟨t,rfl⟩:=r;rfl)|str z=>(obtain⟨t,rfl⟩:=r;rfl)|_=>exact absurd (show false=true from f) zd
theorem mx:∀{xs:List V}{us:List Value},Vals xs us->xs.all gW=true->us.any (xC x)=xs.any λy=>eqV y x|_,_,.nil,_=>rfl|y::xs,u::us,.cons r t,f=>by rw[List.all_cons,zL]at f;rw[yN,yN,Bw r f.1,mx t f.2]
theorem gX(rx:RelV x v)(fx:gW x=true):∀{xs:List V}{us:List Value},Vals xs us->xs.all gW=true->∀u∈us,SeqAt.EqAt A s u v (xC x u)|_,_,.nil,_=>(λu hu=>by cases hu)|y::xs,u::us,.cons r t,f=>λu' hu=>by rw[List.all_cons,zL]at f;rcases zj.mp hu with rfl|hu;rw[Bw r f.1];exact O0 r rx f.1 fx;exact gX rx fx t f.2 u' hu
noncomputable def vI(x:V)(xs:List V):Bool:=xs.any λy=>eqV y x
def rIn(K:Frag)(neg:Bool):R2:=λx y H Q=>∃p xs,y=.ref p/\(iZ K H p xs\/gT K H p xs)/\gW x=true/\xs.all gW=true/\Q (.bl<|if neg then !vI x xs else vI x xs) H
theorem nY:gy X (compareOp .In) (rIn X.K false):=by intro pins s σ H x y v u Q I rx ry h;obtain⟨p,xs,rfl,hq,fx,fs,q⟩:=h;cases ry;rcases hq with hq|hq;obtain⟨az,r,pl,hz⟩:=I.list hq;refine SeqAt.in_listAt (xC x) pl.isList (λw hw=>gX rx fx r fs w<|by simpa using hw) {.bl _,H,I,rfl,?_};rw[show az.toArray.any (xC x)=az.any (xC x) by simp,mx r fs];exact q;obtain⟨az,r,pl,hz⟩:=I.tuple hq;refine SeqAt.in_tupleAt (xC x) pl (λw hw=>gX rx fx r fs w<|by simpa using hw) {.bl _,H,I,rfl,?_};rw[show az.toArray.any (xC x)=az.any (xC x) by simp,mx r fs];exact q
theorem iA:gy X (compareOp .NotIn) (rIn X.K true):=by intro pins s σ H x y v u Q I rx ry h;obtain⟨p,xs,rfl,hq,fx,fs,q⟩:=h;cases ry;rcases hq with hq|hq;obtain⟨az,r,pl,hz⟩:=I.list hq;refine SeqAt.notIn_listAt (xC x) pl.isList (λw hw=>gX rx fx r fs w<|by simpa using hw) {.bl _,H,I,rfl,?_};rw[show az.toArray.any (xC x)=az.any (xC x) by simp,mx r fs];exact q;obtain⟨az,r,pl,hz⟩:=I.tuple hq;refine SeqAt.notIn_tupleAt (xC x) pl (λw hw=>gX rx fx r fs w<|by simpa using hw) {.bl _,H,I,rfl,?_};rw[show az.toArray.any (xC x)=az.any (xC x) by simp,mx r fs];exact q
theorem kX:eU X (.type "tuple") (λxs H Q=>∃p ys,xs=[.ref p]/\((iZ X.K H p ys/\∀l,H l=none->Q (.ref l) (upd H l<|.tup ys))\/(gT X.K H p ys/\Q (.ref p) H))):=by intro pins s σ H xs us Q I r h;obtain⟨p,ys,rfl,h⟩:=h;obtain⟨u,rfl,rx⟩:=vals1 r;cases rx;rcases h with⟨hq,q⟩|⟨hq,q⟩;obtain⟨az,r',pl,hz⟩:=I.list hq;have hlen:=r'.length;refine call_tuple_list pl.isList (λh' kp=>?_) (by simp only[zl]<;>lia);have I1:Inv X pins σ H {s with heap:=h'}:=I.kept (t':=s.toks) kp;have I2:Inv X pins σ (upd H h'.objs.size<|.tup ys) {s with heap:=h'.push {cls:=.type "tuple",data:=.seq az.toArray}}:=I1.laid (t':=s.toks) (λb o e=>za _ e) (zo _)<|show bx X.prog X.w _ _ _ (.tup ys) from{hz,az,r',gx.new _ _};exact{.ref h'.objs.size,_,I2,rfl,q _<|I1.aQ.fresh<|zo _};obtain⟨az,r',pl,hz⟩:=I.tuple hq;exact call_tuple_same pl {.ref p,H,I,rfl,q}
def V7(K:Frag)(T:String)(x:V)(H:Hp):Prop:=match x with|.str _=>T ="str"|.int _=>T ="int"|.ref p=>(T ="list"/\∃xs,iZ K H p xs)\/(T ="tuple"/\∃o,K.lookup p=some o/\o.cls=.type "tuple"/\o.dict=none)\/(T ="dict"/\((∃kvs,H p=some (.dK kvs))\/∃kvs,H p=some (.dT kvs)))\/(T ="set"/\∃S n,H p=some (.set S n))|_=>False
theorem Hq{T:String}(I:Inv X pins σ H s)(r:RelV x v)(ty:V7 X.K T x H): s.TypeIs v T/\∀a,v=.ref a->∃ob,s.heap.get? a=some ob/\ob.dict=none:=by cases x with|str z=>(obtain⟨t,rfl⟩:=r;cases (show T ="str" from ty);exact{typeIs_str s z t,λ_ e=>nomatch e})|int i=>(obtain⟨t,rfl⟩:=r;cases (show T ="int" from ty);exact{typeIs_int s i t,λ_ e=>nomatch e})|ref p=>(cases r;rcases ty with⟨rfl,xs,hq⟩|⟨rfl,o,hk,hc,hd⟩|⟨rfl,hk⟩|⟨rfl,S,n,hk⟩;obtain⟨az,_,pl,_⟩:=I.list hq;refine{pl.isList.typeIs,λa e=>?_};cases e;obtain⟨o,n,e,c,hd,_⟩:=pl;exact⟨o,e,hd⟩;refine{{o,I.oY p o hk,hc},λa e=>?_};cases e;exact{o,I.oY _ o hk,hd};have z:∃o,s.heap.get? p=some o/\o.ExactDict:=(by rcases hk with⟨kvs,hk⟩|⟨kvs,hk⟩;obtain⟨_,_,_,_,o,_,_,e,ex,_⟩:=I.aQ p _ hk;exact⟨o,e,ex⟩;exact False.elim<|I.aQ p _ hk);obtain⟨o,e,ex⟩:=z;refine{⟨o,e,ex.1⟩,λa e2=>?_};cases e2;exact⟨o,e,ex.2.1⟩;obtain⟨o,_,_,_,e,ex,_⟩:=I.aQ p _ hk;refine{⟨o,e,ex.1⟩,λa e2=>?_};cases e2;exact⟨o,e,ex.2.1⟩)|_=>exact False.elim ty
def XR(K:Frag)(T:String)(r:V->List V->Hp->VK->Prop)(to:TE):TE:=λσ H Q=>to σ H λx H1=>V7 K T x H1/\r x [] H1 Q
def tBM(K:Frag)(T:String)(r:V->List V->Hp->VK->Prop)(to:TE)(t:TA):TE:=λσ H Q=>to σ H λx H1=>V7 K T x H1/\t σ H1 λxs H2=>r x xs H2 Q
variable{o e:Expr}{es:List Expr}{to:TE}{t:TA}{name:Str}{apos aT:Pos}{T id:String}{r:V->List V->Hp->VK->Prop}
theorem O3(pa:PlainAttrs T)(slot:Slot T name id)(O4:typeOf (.builtin id)=pure (.type "method_descriptor"))(hm:Ri X id r)(ho:PE X o to) (my:autoParam (attributeBase o name X.env (eval o X.env)=eval o X.env) qQJ) (rm:autoParam ((apos.endLine==aT.line)=true) qQJ):PE X (.Call (.Attribute o name apos) [] [] aT) (XR X.K T r to):=by intro pins s σ H Q I h;refine wpAny_Call_method0_late my rm<|bz (ho pins s σ H _ I h) λv s1 ⟨x,H1,I1,r1,ty,q1⟩=>?_;obtain⟨h1,h2⟩:=Hq I1 r1 ty;exact{T,id,pa,slot,O4,h1,h2,Calls.callWith_builtin rfl<|PySem.evalArgs_none<|hm pins s1 σ H1 x [] v [] Q I1 r1 .nil q1}
theorem SN(pa:PlainAttrs T)(slot:Slot T name id)(O4:typeOf (.builtin id)=pure (.type "method_descriptor"))(hm:Ri X id r)(ho:PE X o to)(ha:PA X (e::es) t) (my:autoParam (attributeBase o name X.env (eval o X.env)=eval o X.env) qQJ) (O5:autoParam (((backTo aT<|starEach (e::es) X.env).all (λx=>!x.1)&&(backToKw aT<|keywordEach [] X.env).all (λx=>x.1.isSome)&&decide ((e::es).length+([]:List Keyword).length+(if ([]:List Keyword).isEmpty then 0 else 1)<30))=true) qQJ) (rm:autoParam ((apos.endLine==aT.line)=true) qQJ) (hs:autoParam (starEach (e::es) X.env=(false,eval e X.env)::starEach es X.env) qQJ) (Bx:autoParam ((backTo aT<|starEach es X.env).any (·.1)=false) qQJ): PE X (.Call (.Attribute o name apos) (e::es) [] aT) (tBM X.K T r to t):=by intro pins s σ H Q I h;refine wpAny_Call_method_late my O5 rm rfl<|bz (ho pins s σ H _ I h) λv s1 ⟨x,H1,I1,r1,ty,q1⟩=>?_;obtain⟨h1,h2⟩:=Hq I1 r1 ty;refine{T,id,pa,slot,O4,h1,h2,?_};have hA:=ha aT pins s1 σ H1 _ I1 q1;rw[hs]at hA⊢;refine Calls.callWith_builtin (by show(false||(backTo aT<|starEach es X.env).any (·.1))=false;rw[Bx]<;>rfl)<|Calls.evalArgs_plain ?_;exact bz hA <| by rintro us s2 ⟨vs,H2,I2,r2,q2⟩;exact hm pins s2 σ H2 x vs v us Q I2 r1 r2 q2
end
def V8(X:Cx)(id:String)(r:V->List V->Hp->VK->Prop):Prop:=∀(pins:List (Addr×Obj))(s:Shared)(σ:St)(H:Hp)(x:V)(xs:List V)(v:Value)(us:List Value)(Q:VK),Inv X pins σ H s->RelV x v->Vals xs us->r x xs H Q->wpAny (model X.prog X.w) X.A (call (.builtin id)<|v::us) (EP X pins σ Q) X.xe s
theorem Vals.one:∀{x:V}{us:List Value},Vals [x] us->∃u,us=[u]/\RelV x u:=by intro x us h;cases h with|cons r t=>cases t;exact{_,rfl,r}
theorem Vals.two:∀{x y:V}{us:List Value},Vals [x,y] us->∃u v,us=[u,v]/\RelV x u/\RelV y v:=by intro x y us h;cases h with|cons r t=>obtain⟨_,rfl,q⟩:=Vals.one t;exact{_,_,rfl,r,q}
theorem Vals.zero:∀{us:List Value},Vals [] us->us=[]|_,.nil=>rfl
theorem Vals.dropLast{xs:List V}{us:List Value}(h:Vals xs us):Vals xs.dropLast us.dropLast:=by induction h with|nil=>exact .nil|cons r t ih=>cases t with|nil=>exact .nil|cons q t'=>exact .cons r ih
theorem By{α:Type}(l:List α):l.eraseIdx (l.length-1)=l.dropLast:=by induction l with|nil=>rfl|cons a r ih=>cases r with|nil=>rfl|cons b r=>have e:(a::b::r).length-1=((b::r).length-1)+1:=(by have h1:(a::b::r).length=r.length+2:=rfl;have h2:(b::r).length=r.length+1:=rfl;lia);rw[e,List.eraseIdx_cons_succ,ih];all_goals rfl
section
variable{X:Cx}{pins:List (Addr×Obj)}{σ:St}{H:Hp}{s:Shared}{l:Addr}{xs ys:List V}
theorem Inv.KY{az its':List Value}{n:Nat}{f:Array Value->Array Value}{t':Nat}(I:Inv X pins σ H s)(hH:H l=some (.lst xs)) (e:s.heap.get? l=some {cls:=.type "list",data:=.seq az.toArray n}) (hf:f az.toArray=its'.toArray) (hv:Vals ys its') (hz:ys.length<=sizeLine): Inv X pins σ (upd H l<|.lst ys) {s with heap:=s.heap.update l<|Obj.mapSeq f,toks:=t'}:=by have q:=PySem.IsL.update e f;rw[hf]at q;refine I.write (x:=l) (e:=l) (by rw[hH];exact trivial) (.inl rfl) (λb' u hb hu=>(yo s.heap (Obj.mapSeq f)<|Ne.symm hb).trans hu) {_,q} ?_;exact{hz,its',_,hv,q}
theorem Inv.XS(I:Inv X pins σ H s)(hv:Vals ys az)(hz:ys.length<=sizeLine): Inv X pins σ (upd H s.heap.objs.size<|.lst ys) {s with heap:=s.heap.push {cls:=.type "list",data:=.seq az.toArray},toks:=t'}:=I.laid (λ_ _ q=>za _ q) (zo _) {hz,az,0,hv,zk _ rfl}
theorem Inv.fresh(I:Inv X pins σ H s):H s.heap.objs.size=none:=I.aQ.fresh<|zo _
theorem Inv.Fm(I:Inv X pins σ H s)(hH:H l=some (.lst xs)):xs.length<=sizeLine/\∃(az:List Value)(n:Nat),Vals xs az/\xs.length=az.length/\s.heap.get? l=some {cls:=.type "list",data:=.seq az.toArray n}:=by obtain⟨z,az,n,r,e⟩:=I.aQ l _ hH;exact⟨z,az,n,r,r.length,e⟩
theorem Hr{n:Nat}(h:n<=sizeLine):Builtin.List.listTooLong n=false:=by unfold Builtin.List.listTooLong;exact zu<|by lia
end
section
variable{X:Cx}
def KZ:V->List V->Hp->VK->Prop:=λx vs H Q=>∃l xs y,x=.ref l/\vs=[y]/\H l=some (.lst xs)/\xs.length<sizeLine/\Q .av (upd H l<|.lst<|xs++[y])
theorem Fn:V8 X "list.append" KZ:=by intro pins s σ H x vs v us Q I rx rv h;obtain⟨l,xs,y,rfl,rfl,hH,hz,q⟩:=h;cases rx;obtain⟨u,rfl,ru⟩:=rv.one;obtain⟨z,az,n,r,hl,e⟩:=I.Fm hH;refine call_meets F.slot_list_append {_,e,rfl} F.entry_list_append (F.args_list_append_2 _ _) (PySem.list_append l az.toArray n u<|by rw[zl];lia) {e,?_};refine{.av,_,I.KY (its':=az++[u]) hH e (by simp) (r.append<|.cons ru .nil) ?_,rfl,q};rw[zH,List.length_singleton];lia
def XT:V->List V->Hp->VK->Prop:=λx vs H Q=>∃l xs y,x=.ref l/\vs=[]/\H l=some (.lst xs)/\xs[xs.length-1]?=some y/\Q y (upd H l<|.lst xs.dropLast)
theorem O6:V8 X "list.pop" XT:=by
 intro pins s σ H x vs v us Q I rx rv h;obtain⟨l,xs,y,rfl,rfl,hH,hy,q⟩:=h;cases rx;have hus:=rv.zero;subst hus;obtain⟨z,az,n,r,hl,e⟩:=I.Fm hH;obtain⟨u,hu,ru⟩:=r.get hy;have SO:az.toArray[az.toArray.size-1]?=some u:=by show az.toArray[az.length-1]?=some u;rw[<-Array.getElem?_toList,<-hl];exact hu
 refine call_meets F.slot_list_pop {_,e,rfl} F.entry_list_pop (F.args_list_pop_1 _) (MeetsSeq.list_pop_last l az.toArray n u SO<|by rw[zl];lia) {e,?_};refine{y,_,I.KY (its':=az.dropLast) hH e ?_ r.dropLast ?_,ru,q};show az.toArray.eraseIdxIfInBounds (az.toArray.size-1)=az.dropLast.toArray;rw[zl,List.eraseIdxIfInBounds_toArray,By];rw[List.length_dropLast];lia
def XU:R2:=λx y H Q=>∃l b xs zs,x=.ref l/\y=.ref b/\H l=some (.lst xs)/\H b=some (.lst zs)/\xs.length+zs.length<=sizeLine/\∀p,H p=none->Q (.ref p) (upd H p<|.lst<|xs++zs)
theorem Hs:gy X (binaryOp .Add) XU:=by
 intro pins s σ H x y v u Q I rx ry h;obtain⟨l,b,xs,zs,rfl,rfl,hH,hB,hz,q⟩:=h;cases rx;cases ry;obtain⟨z,az,n,r,hl,e⟩:=I.Fm hH;obtain⟨z2,p5,n2,r2,vJ,e2⟩:=I.Fm hB;refine PySem.P.add_list e e2 ?_ (by rw[zl,zl];lia);have ea:az.toArray++p5.toArray=(az++p5).toArray:=by simp
 rw[ea];exact{.ref _,_,I.XS (t':=s.toks) (r.append r2)<|by rw[zH];lia,rfl,q _ I.fresh}
end
section
variable{κ:Type}[DecidableEq κ]
noncomputable def fO(kvs:List<|κ×V)(k:κ):Option V:=(kvs.find? λkv=>decide<|kv.1=k).map (·.2)
noncomputable def putK(kvs:List<|κ×V)(k:κ)(v:V):List (κ×V):=if (kvs.any λkv=>decide<|kv.1=k)=true then kvs.map (λkv=>if kv.1=k then (kv.1,v) else kv) else kvs++[(k,v)]
noncomputable def pe(kvs:List<|κ×V)(k:κ):List (κ×V):=kvs.filter λkv=>decide<|kv.1≠k
theorem rn{p:κ×V}{r:List<|κ×V}{k:κ}(e:p.1=k):fO (p::r) k=some p.2:=by simp[fO,zW,e]
theorem rq{p:κ×V}{r:List<|κ×V}{k:κ}(e:¬p.1=k):fO (p::r) k=fO r k:=by simp[fO,zW,e]
theorem pf(kvs:List<|κ×V)(k:κ)(v:V):(putK kvs k v).length<=kvs.length+1:=by unfold putK;split;rw[zb];lia;rw[zH,zN,List.length_nil];lia
theorem fN.gY(r:fN o u):o.isSome=u.isSome:=by cases o with|none=>(cases u with|none=>rfl|some _=>exact(show False from r).elim)|some _=>cases u with|none=>exact(show False from r).elim|some _=>rfl
theorem fN.getD{o:Option V}{u:Option Value}{d:V}{d':Value}(r:fN o u)(rd:RelV d d'):RelV (o.getD d) (u.getD d'):=by cases o with|none=>(cases u with|none=>exact rd|some _=>exact(show False from r).elim)|some _=>cases u with|none=>exact(show False from r).elim|some _=>exact r
theorem KV.val{kvs:List<|κ×V}{vs:List<|κ×Value}(r:KV kvs vs)(k:κ):fN (fO kvs k) (valueAt vs k):=by unfold KV at r;induction r with|nil=>exact True.intro|@cons p q ps qs h t ih=>obtain⟨h1,h2⟩:=h;by_cases e:p.1=k;have e':q.1=k:=h1.symm.trans e;have b:valueAt (q::qs) k=some q.2:=(by simp[valueAt,zW,e']);rw[rn e,b];exact h2;have e':¬q.1=k:=λz=>e<|h1.trans z;have b:valueAt (q::qs) k=valueAt qs k:=(by simp[valueAt,zW,e']);rw[rq e,b];exact ih
theorem KV.any{kvs:List<|κ×V}{vs:List<|κ×Value}(r:KV kvs vs)(k:κ):(kvs.any λkv=>decide<|kv.1=k)=vs.any λkv=>decide (kv.1=k):=by unfold KV at r;induction r with|nil=>rfl|cons h t ih=>rw[yN,yN,ih,h.1]
theorem KV.O7(r:KV kvs vs)(k:κ)(ry:RelV y u): KV (kvs.map λkv=>if kv.1=k then (kv.1,y) else kv) (vs.map λkv=>if kv.1=k then (kv.1,u) else kv):=by unfold KV at r⊢;induction r with|nil=>exact .nil|@cons p q ps qs h t ih=>rw[zy,zy];refine .cons ?_ ih;obtain⟨h1,h2⟩:=h;by_cases e:p.1=k;rw[if_pos e,if_pos<|h1.symm.trans e];exact⟨h1,ry⟩;rw[if_neg e,if_neg λz=>e<|h1.trans z];exact⟨h1,h2⟩
theorem KV.put(r:KV kvs vs)(k:κ)(ry:RelV y u):KV (putK kvs k y) (stored vs k u):=by unfold putK stored;rw[r.any k];by_cases e:(vs.any λkv=>decide<|kv.1=k)=true;rw[if_pos e,if_pos e];exact r.O7 k ry;rw[if_neg e,if_neg e];exact Paired.snoc r ⟨rfl,ry⟩
theorem KV.drop(r:KV kvs vs)(k:κ):KV (pe kvs k) (without vs k):=by unfold KV at r⊢;unfold pe without;induction r with|nil=>exact .nil|@cons p q ps qs h t ih=>obtain⟨h1,h2⟩:=h;rw[yp,yp];by_cases e:p.1=k;have a:¬decide (p.1≠k)=true:=(by simp[e]);have b:¬decide (q.1≠k)=true:=(by simp[h1.symm.trans e]);rw[if_neg a,if_neg b];exact ih;have e':¬q.1=k:=λz=>e<|h1.trans z;have a:decide (p.1≠k)=true:=(by simp[e]);have b:decide (q.1≠k)=true:=(by simp[e']);rw[if_pos a,if_pos b];exact .cons ⟨h1,h2⟩ ih
theorem KV.length{kvs:List<|κ×V}{vs:List<|κ×Value}(r:KV kvs vs):kvs.length=vs.length:=yG r
theorem Ht(kvs:List<|κ×V)(k:κ):(pe kvs k).length<=kvs.length:=List.length_filter_le _ _
end
theorem jv(r:RelV (kV k) u):(aH P w).is k u=true:=by cases k with|inl i=>(obtain⟨t,e⟩:=(show ∃t,u=Value.int i t from r);subst e;exact xq P w i t)|inr x=>obtain⟨t,e⟩:=(show ∃t,u=Value.str x t from r);subst e;exact jq P w x t
theorem uL:∀{ks:List Key}{us:List Value},Vals (ks.map kV) us->ItemsAre (aH P w) ks us|[],_,r=>(by rw[List.map_nil]at r;cases r;exact .nil)|k::ks,_,r=>by rw[zy]at r;cases r with|cons h t=>exact .cons (jv h)<|uL t
abbrev KT(H:Hp):List (List Key×V)->List (List Key×Addr×Value)->Prop:=Paired λp q=>p.1=q.1/\H q.2.1=some (.tup<|p.1.map kV)/\RelV p.2 q.2.2
theorem KT.val{H:Hp}{kvs:List<|List Key×V}{xs:List<|List Key×Addr×Value}(r:KT H kvs xs)(k:List Key):fN (fO kvs k) ((atKey xs k).map (·.2)):=by induction r with|nil=>exact True.intro|@cons p q ps qs h t ih=>obtain⟨h1,_,h2⟩:=h;by_cases e:p.1=k;have e':q.1=k:=h1.symm.trans e;have b:atKey (q::qs) k=some q.2:=(by simp[atKey,zW,e']);rw[rn e,b];exact h2;have e':¬q.1=k:=λz=>e<|h1.trans z;have b:atKey (q::qs) k=atKey qs k:=(by simp[atKey,zW,e']);rw[rq e,b];exact ih
section
variable{P:Program}{w:World}{H:Hp}{h:Heap}{a:Addr}
theorem M6(ok:lJ P w H h)(e:Rd H a u):bx P w H h a u:=e.ok ok
theorem mz(ok:lJ P w H h)(e:Rd H a<|.dK kvs):kvs.length<=sizeLine/\(a==sysModules)=false/\∃vs,KV kvs vs/\h.DictOf (aH P w) a vs:=show bx P w H h a (.dK kvs) from M6 ok e
theorem DK(ok:lJ P w H h)(e:H a=some (.dK kvs)):kvs.length<=sizeLine/\(a==sysModules)=false/\∃vs,KV kvs vs/\h.DictOf (aH P w) a vs:=mz ok<|.inl e
theorem rA(ok:lJ P w H h)(e:H a=some (.tup<|ks.map kV)):(tupleKind<|aH P w).is h ks a:=by obtain⟨_,az,r,o,h1,h2,_,n,h3⟩:=(show bx P w H h a (.tup<|ks.map kV) from ok a _ e);exact{o,az.toArray,n,h1,h2,h3,by simpa using uL r}
theorem rB(ok:lJ P w H h)(e:Rd H a<|.dT kvs):kvs.length<=sizeLine/\(a==sysModules)=false/\∃xs,KT H kvs xs/\h.DictOfH (tupleKind<|aH P w) a xs:=by exact False.elim<|show bx P w H h a (.dT kvs) from M6 ok e
end
def nZ(H:Hp)(a:Addr)(y:V)(r:Option V):Prop:=(∃kvs k,Rd H a (.dK kvs)/\y=kV k/\r=fO kvs k)\/∃kvs k b,Rd H a (.dT kvs)/\y=.ref b/\H b=some (.tup<|k.map kV)/\r=fO kvs k
def Hu(H:Hp)(a:Addr)(y v:V)(H':Hp):Prop:=(∃kvs k,H a=some (.dK kvs)/\y=kV k/\kvs.length<sizeLine/\H'=upd H a (.dK<|putK kvs k v))\/∃kvs k b,H a=some (.dT kvs)/\y=.ref b/\H b=some (.tup<|k.map kV)/\kvs.length<sizeLine/\H'=upd H a (.dT<|putK kvs k v)
theorem nZ.k{H:Hp}{a:Addr}{kvs:List<|Key×V}{k:Key}(e:H a=some (.dK kvs)):nZ H a (kV k) (fO kvs k):=.inl {kvs,k,.inl e,rfl,rfl}
theorem Hu.k{H:Hp}{a:Addr}{kvs:List<|Key×V}{k:Key}{v:V}(e:H a=some (.dK kvs))(hl:kvs.length<sizeLine):Hu H a (kV k) v (upd H a<|.dK<|putK kvs k v):=.inl ⟨kvs,k,e,rfl,hl,rfl⟩
section
variable{X:Cx}{pins:List (Addr×Obj)}{σ:St}{H:Hp}{s:Shared}{a:Addr}{y v:V}{u r:Value}{o:Option V}{A:Around}{E:Value->Shared->Prop}
theorem Inv.big(I:Inv X pins σ H s):sysModules<s.heap.objs.size:=by have h:mainGlobals<s.heap.objs.size:=(I.mod.glob.keeps I.bk).lt;exact Nat.lt_trans (by decide) h
theorem Fp(hu:A.units+1<cLine)(I:Inv X pins σ H s)(g:nZ H a y<|some v)(ry:RelV y u)(h:∀w' s',Inv X pins σ H s'->RelV v w'->Q w' s'): wpAny (model X.prog X.w) A (getItem (.ref a) u) Q E s:=by rcases g with⟨kvs,k,e,ey,l⟩|⟨kvs,k,b,e,ey,eb,l⟩;subst ey;obtain⟨z,hd,vs,rel,dd⟩:=mz I.aQ e;obtain⟨w',hw,tQ⟩:=fN.some_of (v:=v) (o:=valueAt vs k) (by rw[l];exact rel.val k);exact wpAny_getItem_of (jv ry) dd.mapOf hw<|h w' _ (I.tok _) tQ;subst ey;cases (show u=Value.ref b from ry);obtain⟨z,hd,xs,rel,dd⟩:=rB I.aQ e;obtain⟨w',hw,tQ⟩:=fN.some_of (v:=v) (o:=(atKey xs k).map (·.2)) (by rw[l];exact rel.val k);obtain⟨p,hp,gU⟩:=Option.map_eq_some_iff.mp hw;refine wpAny_getItem_heap (tupleKind_room_in1 hu) (rA I.aQ eb) dd hp ?_;rw[gU];exact h w' _ (I.tok _) tQ
theorem XW(hu:A.units+1<cLine)(I:Inv X pins σ H s)(g:nZ H a y o)(ry:RelV y u)(h:∀s',Inv X pins σ H s'->Q (.bool o.isSome) s'): wpAny (model X.prog X.w) A (compareOp .In u<|.ref a) Q E s:=by rcases g with⟨kvs,k,e,ey,l⟩|⟨kvs,k,b,e,ey,eb,l⟩;subst ey;obtain⟨z,hd,vs,rel,dd⟩:=mz I.aQ e;refine wpAny_in_of (jv ry) hd dd.mapOf ?_;rw[<-(rel.val k).gY,<-l];exact h _<|I.tok _;subst ey;cases (show u=Value.ref b from ry);obtain⟨z,hd,xs,rel,dd⟩:=rB I.aQ e;refine wpAny_in_heap (tupleKind_room_in1 hu) (rA I.aQ eb) hd dd ?_;have q:=(rel.val k).gY;rw[Option.isSome_map]at q;rw[<-q,<-l];exact h _<|I.tok _
theorem K0(hu:A.units+1<cLine)(I:Inv X pins σ H s)(g:nZ H a y o)(ry:RelV y u)(h:∀s',Inv X pins σ H s'->Q (.bool<|!o.isSome) s'): wpAny (model X.prog X.w) A (compareOp .NotIn u<|.ref a) Q E s:=by rcases g with⟨kvs,k,e,ey,l⟩|⟨kvs,k,b,e,ey,eb,l⟩;subst ey;obtain⟨z,hd,vs,rel,dd⟩:=mz I.aQ e;refine wpAny_notIn_of (jv ry) hd dd.mapOf ?_;rw[<-(rel.val k).gY,<-l];exact h _<|I.tok _;subst ey;cases (show u=Value.ref b from ry);obtain⟨z,hd,xs,rel,dd⟩:=rB I.aQ e;refine wpAny_notIn_heap (tupleKind_room_in1 hu) (rA I.aQ eb) hd dd ?_;have q:=(rel.val k).gY;rw[Option.isSome_map]at q;rw[<-q,<-l];exact h _<|I.tok _
theorem vK(I:Inv X pins σ H s)(mu:RZ<|H a)(hs:Heap.SameBut a s.heap h')(he:∃q,h'.get? a=some q)(new:bx X.prog X.w (upd H a ob) h' a ob): Inv X pins σ (upd H a ob) {s with heap:=h',toks:=t'}:=I.write (x:=a) (e:=a) mu (.inl rfl) (λb q hb z=>(hs.2 b hb).trans z) he new
theorem Bz(z:kvs.length<=sizeLine)(hd:(a==sysModules)=false)(rel:KV kvs vs)(dd:h'.DictOf (aH P w) a vs): bx P w H' h' a (.dK kvs):=⟨z,hd,vs,rel,dd⟩
theorem Fq(hu:A.units+1<cLine)(I:Inv X pins σ H s)(g:Hu H a y v H')(ry:RelV y u)(rv:RelV v r)(h:∀s',Inv X pins σ H' s'->Q () s'): wpAny (model X.prog X.w) A (setItem (.ref a) u r) Q E s:=by
 rcases g with⟨kvs,k,e,ey,l,eH⟩|⟨kvs,k,b,e,ey,eb,l,eH⟩;subst ey eH;obtain⟨z,hd,vs,rel,dd⟩:=DK I.aQ e;have hz:vs.length<=sizeLine:=by rw[<-rel.length];exact z
 have hl:(putK kvs k v).length<=sizeLine:=by have:=pf kvs k v;lia
 refine wpAny_setItem_pairs (hsz:=hz) (jv ry) dd λh' M7 hs=>h _ ?_;have he:∃q,h'.get? a=some q:=by obtain⟨q,_,_,hq,_⟩:=M7;exact⟨q,hq⟩
 exact vK I (by rw[e];exact True.intro) hs he<|Bz hl hd (rel.put k rv) M7;exact False.elim<|I.aQ _ _ e
end
section
variable{X:Cx}{pins:List (Addr×Obj)}{σ:St}{H:Hp}{s:Shared}{a:Addr}{kvs:List (Key×V)}{k:Key}{u:Value}{A:Around}{E:Value->Shared->Prop}
theorem SQ(I:Inv X pins σ H s)(e:H a=some (.dK kvs))(ry:RelV (kV k) u)(l:fO kvs k=some v)(hm:more=[]\/∃x,more=[x]) (h:∀w' s',Inv X pins σ (upd H a<|.dK<|pe kvs k) s'->RelV v w'->Q w' s'):wpAny (model X.prog X.w) A (call (.builtin "dict.pop")<|.ref a::u::more) Q E s:=by
 obtain⟨z,hd,vs,rel,dd⟩:=DK I.aQ e;obtain⟨w',hw,tQ⟩:=fN.some_of (v:=v) (o:=valueAt vs k) (by rw[<-l];exact rel.val k);have hp:(keyPart u).isSome=true:=by cases k with|inl i=>(obtain⟨t,q⟩:=(show ∃t,u=Value.int i t from ry);subst q;rfl)|inr x=>obtain⟨t,q⟩:=(show ∃t,u=Value.str x t from ry);subst q;rfl
 have ha:argsOk "dict.pop" {.ref a::u::more,[]}:=by rcases hm with q|⟨x,q⟩;subst q;exact PySem.F.args_dict_pop_2 _ _;subst q;exact PySem.F.args_dict_pop_3 _ _ _
 refine call_meetsIn PySem.F.slot_dict_pop dd.typeIs PySem.F.entry_dict_pop ha (meets_dict_pop_there (aH X.prog X.w) a (jv ry) more hm hp) {vs,w',dd,by rw[<-rel.length];exact z,hw,λh' M7 hs=>h w' _ ?_ tQ};have he:∃q,h'.get? a=some q:=by obtain⟨q,_,_,hq,_⟩:=M7;exact⟨q,hq⟩
 exact vK I (by rw[e];exact True.intro) hs he<|Bz (zG (Ht kvs k) z) hd (rel.drop k) M7
theorem SR(I:Inv X pins σ H s)(e:Rd H a<|.dK kvs)(h:∀t s',Inv X pins σ H s'->Q (.int kvs.length t) s'):wpAny (model X.prog X.w) A (call (.builtin "len") [.ref a]) Q E s:=by obtain⟨z,hd,vs,rel,dd⟩:=mz I.aQ e;refine call_len_dict hd dd (by rw[<-rel.length];rw[zX]at z;lia) ?_;rw[<-rel.length];exact h _ _<|I.tok _
end
theorem xD(I:Inv X pins σ H s)(g:nZ H a y o):s.TypeIs (.ref a) "dict":=by rcases g with⟨kvs,k,e,_,_⟩|⟨kvs,k,b,e,_,_,_⟩;obtain⟨_,_,vs,_,dd⟩:=mz I.aQ e;exact dd.typeIs;obtain⟨_,_,xs,_,dd⟩:=rB I.aQ e;exact dd.typeIs
def SS(td ty tv:TE):TS:=λD σ H=>tv σ H λv H1=>td σ H1 λx H2=>ty σ H2 λy H3=>∃a H4,x=.ref a/\Hu H3 a y v H4/\D.nx σ H4
section
variable{X:Cx}{o i value:Expr}{pos pos':Pos}{td ty tv:TE}
theorem K1(hu:X.A.units+1<cLine)(ho:PE X o td)(hi:PE X i ty)(hv:PE X value tv)(hs:swapsWith value (some<|.Subscript o i pos') pos.line X.env=pure false): PS X (.Assign [.Subscript o i pos'] value pos) (SS td ty tv):=by intro pins s σ H D I h;refine wpAny_Assign_Subscript (bz (hv pins s σ H _ I h) λr s1 ⟨v,H1,I1,rv,q1⟩=>bz (ho pins s1 σ H1 _ I1 q1) λu s2 ⟨x,H2,I2,rx,q2⟩=>bz (hi pins s2 σ H2 _ I2 q2) λiv s3 ⟨y,H3,I3,ry,a,H4,ex,g,q3⟩=>?_) hs;subst ex;obtain rfl:u=Value.ref a:=rx;exact Fq hu I3 g ry rv λs4 I4=>⟨σ,H4,I4,q3⟩
end
theorem Hv(h:Heap)(hb:sysModules<h.objs.size):bx P w H (h.push {cls:=.type "dict",data:=.dict #[]}) h.objs.size (.dK []):={zY _,beq_eq_false_iff_ne.mpr<|Ne.symm<|zA hb,[],.nil,Heap.DictOf.new h}
def O8:TE:=λ_ H Q=>∀p,H p=none->Q (.ref p) (upd H p<|.dK [])
section
variable{X:Cx}{pos:Pos}
theorem Hw:PE X (.Dict [] [] pos) O8:=λpins s σ H Q I h=>wpAny_Dict_empty {.ref s.heap.objs.size,_,I.laid (a:=s.heap.objs.size) (o:=.dK []) (t':=s.toks) (λ_ _ q=>za _ q) (zo _)<|Hv s.heap I.big,rfl,h _<|I.aQ.fresh<|zo _}
end
structure M1(X:Cx)(o:Expr)(m:Str)(apos:Pos)(e:Expr)(aT:Pos):Prop where
 base:attributeBase o m X.env (eval o X.env)=eval o X.env
 G0:((backTo aT<|starEach [e] X.env).all (λx=>!x.1)&&(backToKw aT<|keywordEach [] X.env).all (λx=>x.1.isSome)
  && decide (([e]:List Expr).length+([]:List Keyword).length+(if ([]:List Keyword).isEmpty then 0 else 1)<30))=true
 line:(apos.endLine==aT.line)=true
 trees:backTo aT (starEach [e] X.env)=[(false,eval e X.env)]
structure M2(X:Cx)(o:Expr)(m:Str)(apos:Pos)(e f:Expr)(aT:Pos):Prop where
 base:attributeBase o m X.env (eval o X.env)=eval o X.env
 G0:((backTo aT<|starEach [e,f] X.env).all (λx=>!x.1)&&(backToKw aT<|keywordEach [] X.env).all (λx=>x.1.isSome)
  && decide (([e,f]:List Expr).length+([]:List Keyword).length+(if ([]:List Keyword).isEmpty then 0 else 1)<30))=true
 line:(apos.endLine==aT.line)=true
 trees:backTo aT (starEach [e,f] X.env)=[(false,eval e X.env),(false,eval f X.env)]
def Rj(H:Hp)(a:Addr):Prop:=(∃kvs,Rd H a<|.dK kvs)\/∃kvs,Rd H a<|.dT kvs
theorem vL(I:Inv X pins σ H s)(d:Rj H a): s.TypeIs (.ref a) "dict"/\(∀b,Value.ref a=.ref b->∃ob,s.heap.get? b=some ob/\ob.dict=none)/\(a==sysModules)=false:=by rcases d with⟨kvs,e⟩|⟨kvs,e⟩;obtain⟨_,hd,vs,_,dd⟩:=mz I.aQ e;refine{dd.typeIs,λb q=>?_,hd};cases q;obtain⟨ob,_,_,h1,h2,_⟩:=dd;exact⟨ob,h1,h2.2.1⟩;obtain⟨_,hd,xs,_,dd⟩:=rB I.aQ e;refine{dd.typeIs,λb q=>?_,hd};cases q;obtain⟨ob,_,_,h1,h2,_⟩:=dd;exact⟨ob,h1,h2.2.1⟩
section
variable{X:Cx}{pins:List (Addr×Obj)}{σ:St}{H:Hp}{s:Shared}{a:Addr}{y d:V}{u r:Value}{o:Option V}{A:Around}{E:Value->Shared->Prop}
theorem O9(hu:A.units+1<cLine)(I:Inv X pins σ H s)(g:nZ H a y o)(ry:RelV y u)(h:∀w' s',Inv X pins σ H s'->RelV (o.getD .av) w'->Q w' s'): wpAny (model X.prog X.w) A (call (.builtin "dict.get") [.ref a,u]) Q E s:=by rcases g with⟨kvs,k,e,ey,l⟩|⟨kvs,k,b,e,ey,eb,l⟩;subst ey;obtain⟨z,hd,vs,rel,dd⟩:=mz I.aQ e;refine call_meetsIn yu dd.typeIs PySem.F.entry_dict_get (PySem.F.args_dict_get_2 _ _) (meets_dict_get (aH X.prog X.w) a (jv ry) hd) {_,dd.mapOf,h _ _ (I.tok _) ?_};rw[l];exact(rel.val k).getD rfl;subst ey;cases (show u=Value.ref b from ry);obtain⟨z,hd,xs,rel,dd⟩:=rB I.aQ e;refine call_meetsIn yu dd.typeIs PySem.F.entry_dict_get (PySem.F.args_dict_get_2 _ _) (meetsH_dict_get (tupleKind<|aH X.prog X.w) a b hd) {tupleKind_room_in1 hu,k,xs,rA I.aQ eb,dd,h _ _ (I.tok _) ?_};rw[l];exact(rel.val k).getD rfl
theorem O_(hu:A.units+1<cLine)(I:Inv X pins σ H s)(g:nZ H a y o)(ry:RelV y u)(rd:RelV d r)(h:∀w' s',Inv X pins σ H s'->RelV (o.getD d) w'->Q w' s'): wpAny (model X.prog X.w) A (call (.builtin "dict.get") [.ref a,u,r]) Q E s:=by rcases g with⟨kvs,k,e,ey,l⟩|⟨kvs,k,b,e,ey,eb,l⟩;subst ey;obtain⟨z,hd,vs,rel,dd⟩:=mz I.aQ e;refine call_meetsIn yu dd.typeIs PySem.F.entry_dict_get (PySem.F.args_dict_get_3 _ _ _) (meets_dict_get_default (aH X.prog X.w) a (jv ry) hd r) {_,dd.mapOf,h _ _ (I.tok _) ?_};rw[l];exact(rel.val k).getD rd;subst ey;cases (show u=Value.ref b from ry);obtain⟨z,hd,xs,rel,dd⟩:=rB I.aQ e;refine call_meetsIn yu dd.typeIs PySem.F.entry_dict_get (PySem.F.args_dict_get_3 _ _ _) (meetsH_dict_get_default (tupleKind<|aH X.prog X.w) a b hd r) {tupleKind_room_in1 hu,k,xs,rA I.aQ eb,dd,h _ _ (I.tok _) ?_};rw[l];exact(rel.val k).getD rd
end
def Pa(td ty:TE):TE:=λσ H Q=>td σ H λx H1=>∃a,x=.ref a/\Rj H1 a/\ty σ H1 λy H2=>∃o,nZ H2 a y o/\Q (o.getD .av) H2
def Pb(td ty tx:TE):TE:=λσ H Q=>td σ H λx H1=>∃a,x=.ref a/\Rj H1 a/\ty σ H1 λy H2=>tx σ H2 λz H3=>∃o,nZ H3 a y o/\Q (o.getD z) H3
def Pc(td ty:TE):TE:=λσ H Q=>td σ H λx H1=>∃a,x=.ref a/\Rj H1 a/\ty σ H1 λy H2=>∃kvs k v,H2 a=some (.dK kvs)/\y=kV k/\fO kvs k=some v/\Q v (upd H2 a<|.dK<|pe kvs k)
section
variable{X:Cx}{o e f:Expr}{apos aT:Pos}{td ty tx:TE}
theorem Hx(hu:X.A.units+1<cLine)(ho:PE X o td)(he:PE X e ty)(m:M1 X o "get" apos e aT):PE X (.Call (.Attribute o "get" apos) [e] [] aT) (Pa td ty):=by intro pins s σ H Q I h;refine wpAny_Call_method m.base m.G0 m.line PySem.F.plainAttrs_dict yu PySem.F.type_dict_get<|bz (ho pins s σ H _ I h) λu s1 ⟨x,H1,I1,rx,a,ex,d,q1⟩=>?_;subst ex;obtain rfl:u=Value.ref a:=rx;obtain⟨t1,t2,_⟩:=vL I1 d;refine{t1,t2,?_};rw[m.trees];refine Calls.callWith_builtin rfl<|Calls.evalArgs_plain<|yB<|bz (he pins s1 σ H1 _ I1 q1) λiv s2 ⟨y,H2,I2,ry,ov,g,q2⟩=>Calls.spliced_nil ?_;exact O9 hu I2 g ry λw' s3 I3 tQ=>{_,H2,I3,tQ,q2}
theorem Hy(hu:X.A.units+1<cLine)(ho:PE X o td)(he:PE X e ty)(hf:PE X f tx)(m:M2 X o "get" apos e f aT):PE X (.Call (.Attribute o "get" apos) [e,f] [] aT) (Pb td ty tx):=by intro pins s σ H Q I h;refine wpAny_Call_method m.base m.G0 m.line PySem.F.plainAttrs_dict yu PySem.F.type_dict_get<|bz (ho pins s σ H _ I h) λu s1 ⟨x,H1,I1,rx,a,ex,d,q1⟩=>?_;subst ex;obtain rfl:u=Value.ref a:=rx;obtain⟨t1,t2,_⟩:=vL I1 d;refine{t1,t2,?_};rw[m.trees];refine Calls.callWith_builtin rfl<|Calls.evalArgs_plain<|yB<|bz (he pins s1 σ H1 _ I1 q1) λiv s2 ⟨y,H2,I2,ry,q2⟩=>yB<|bz (hf pins s2 σ H2 _ I2 q2) λfv s3 ⟨z,H3,I3,rz,ov,g,q3⟩=>Calls.spliced_nil ?_;exact O_ hu I3 g ry rz λw' s4 I4 tQ=>{_,H3,I4,tQ,q3}
theorem Hz(ho:PE X o td)(he:PE X e ty)(m:M1 X o "pop" apos e aT):PE X (.Call (.Attribute o "pop" apos) [e] [] aT) (Pc td ty):=by intro pins s σ H Q I h;refine wpAny_Call_method m.base m.G0 m.line PySem.F.plainAttrs_dict PySem.F.slot_dict_pop PySem.F.type_dict_pop<|bz (ho pins s σ H _ I h) λu s1 ⟨x,H1,I1,rx,a,ex,d,q1⟩=>?_;subst ex;obtain rfl:u=Value.ref a:=rx;obtain⟨t1,t2,_⟩:=vL I1 d;refine{t1,t2,?_};rw[m.trees];refine Calls.callWith_builtin rfl<|Calls.evalArgs_plain<|yB<|bz (he pins s1 σ H1 _ I1 q1) λiv s2 ⟨y,H2,I2,ry,kvs,k,v,ea,ey,l,q2⟩=>Calls.spliced_nil ?_;subst ey;exact SQ I2 ea ry l (.inl rfl) λw' s3 I3 tQ=>{v,_,I3,tQ,q2}
end
end L2
namespace Att
open PySem PySem.W PySem.Calls PyProof.Rows
theorem p6{P:Params} : ∀(ns:List Int)(vs:List Value),WellAll P h vs (ns.map WData.int)->IntsAre vs ns:=by intro ns;induction ns with|nil=>(intro vs w;rw[List.map_nil]at w;cases w;exact .nil)|cons n ns ih=>intro vs w;rw[zy]at w;cases w with|cons a b=>cases a;exact .cons _ _<|ih _ b
theorem Fs{l:OpenLaw}{n:Nat}(hn:l.most=some n){P:Params}{h:Heap}{args:List WData}{vals:List Value} (K2:l.row.toRowW.claim.pre args=true) (XX:WellAll P h vals args): ∃a vs ns,vals=[Value.ref a]/\args=[WData.list<|ns.map WData.int]/\h.get? a=some {cls:=.type "list",data:=.seq vs.toArray}/\IntsAre vs ns/\ns.length<=n:=by
 have hsh:WShape.hasAll [] args [.list .int]=true:=(pre_splitW K2).1;have hc:l.pre.holds [] {args:=args}=true:=(pre_splitW K2).2;obtain⟨d,r,rfl,h1,h2⟩:=hasAllW_cons hsh;obtain rfl:=hasAllW_nil h2;obtain⟨xs,rfl,h3⟩:=hasW_list h1;obtain⟨ns,rfl⟩:=items_int h3;have hlen:ns.length<=n:=by unfold OpenLaw.pre at hc;have h4:(WTm.not<|.lt (.lit<|.int (n:Int))<|.len<|.arg 0).holds [] {args:=[.list<|ns.map .int]}=true:=(by have h4:=(holds_andW hc).1;rw[hn]at h4;exact h4);have h5:=condW_of h4<|w_not<|w_lt w_lit<|w_len_list<|w_arg rfl;rw[zb]at h5;refine Nat.le_of_not_lt λq=>?_;have q':(n:Int)<((ns.length:Nat):Int):=(by lia);first| (rw[zw q']at h5;exact absurd h5<|by decide)| (simp at h5;lia)
 cases XX with|cons w1 w2=>cases w2;cases w1 with|list ho XY=>exact{_,_,ns,rfl,rfl,ho,p6 ns _ XY,hlen}
theorem Ft(l:OpenLaw)(args:List WData):l.row.toRowW.claim.post args (.bool true) args=true:=postW_of (r:=l.row.toRowW) (X:=(true==true)) (show WShape.has [] (.bool true) .bool=true by first|rfl|decide|simp[WShape.has,WShape.arms,WShape.armsAll]) (show(WTm.eq .res<|.lit<|.bool true).value [] {args:=args,res:=some<|.bool true,after:=args}=some (.bool<|true==true) from w_eq_bool (w_res rfl) w_lit) rfl
theorem xE{l:OpenLaw}{n:Nat}{q:Program}{loose:List Str}{XP:(Str->Option Value)->Heap->Prop}{YP:World->Heap->Prop}{d:DefRec} (hn:l.most=some n) (XZ:d.params.defaults=[]) (call:∀(w:World)(cX bj:Shared)(mg mb:Str->Option Value)(fa:Addr)(o:Obj)(pm cd doc:Value)(a:Addr)(vs:List Value)(ns:List Int),Ground q loose [] XP w cX mg mb bj.heap->YP w bj.heap->bj.heap.get? fa=some o->o.data=.func (docDef d.name d.params d.body d.scope pm cd doc)->bj.heap.CodeRec cd d.name->mg d.name=some (.ref fa)->bj.heap.get? a=some {cls:=.type "list",data:=.seq vs.toArray}->IntsAre vs ns->ns.length<=n->bj.gens=#[]->codeAny (model l.prog w) callerA (.call (.ref fa) {[.ref a],[]}) (λr s'=>r=.ok (.ret<|.bool true)/\OldK bj.heap s'.heap/\s'.os=bj.os/\AllBare s'.gens) bj): WalkO q loose XP YP l.row.toRowW d [] (λf vs=>PySem.call f vs):=by intro w cX bj mg mb G Y fa o pm cd doc dV kV ho hd tK hD Pd hg args vals as K2 ab_ hrd XX hlo;obtain rfl:dV=.none:=Dflts.none hD XZ;obtain rfl:kV=.none:=Dflts.noKw hD;obtain⟨a,vs,ns,rfl,rfl,Pe,hints,hlen⟩:=Fs hn K2 XX;refine enter_call<|yQ (call w cX bj mg mb fa o pm cd doc a vs ns G Y ho (fd_plain hd) tK Pd Pe hints hlen hg) λr s' hq=>?_;obtain⟨rfl,h2,h3,h4⟩:=hq;exact{.inl {.bool true,.bool true,[],rfl,λ_=>rfl,.bool true,Ft l _,λ_=>{List.Pairwise.nil,λ_ hm=>(nomatch hm)}},h2,h3,h4}
end Att
namespace L2
open PySem PySem.Spec PyProof.Rows
theorem uM:∀{vs:List Value}{ns:List Int},IntsAre vs ns->Vals (ns.map V.int) vs|_,_,.nil=>.nil|_,_,.cons n t h=>.cons ⟨t,rfl⟩<|uM h
def inClass(s:Stmt)(j:Nat):Stmt:=match s with|.ClassDef _ _ _ body _ _ _ _ _ _ _=>body.getD j (.Pass {0,0,0,0})|_=>.Pass {0,0,0,0}
def bw(s:Stmt):Arguments:=match s with|.FunctionDef _ a _ _ _ _ _ _ _ _=>a|_=>{posonlyargs:=[],args:=[],vararg:=none,kwonlyargs:=[],kw_defaults:=[],kwarg:=none,defaults:=[]}
def bq(s:Stmt):List Stmt:=match s with|.FunctionDef _ _ b _ _ _ _ _ _ _=>b|_=>[]
def ae(s:Stmt):Scope:=match s with|.FunctionDef _ _ _ _ _ _ sc _ _ _=>sc|_=>{kind:=.function,names:=[],isGenerator:=false,isCoroutine:=false}
abbrev V9:Bt:=λ_ _ _ _ _ _=>False
abbrev E0:XK:=λ_ _ _=>False
structure Fun(K:Frag)(x qual:Str)(st:Stmt)(f:Addr)(fd:FuncData):Prop where
 ex:∃(oc:Value)(od:Option Addr)(kV doc pm:Value)(an:Option Addr)(eP ct:Value)(OU:Array (Option Value)),
  fd=fnOf x qual (bw st) (bq st) (ae st) .none kV doc pm an eP ct/\K.lookup f=some {oc,od,.func fd,OU}/\codeIn K eP qual=true
 kp:keepIn K (.ref f)=true
theorem ke(h:n<=1000):n<sizeLine:=Nat.lt_of_le_of_lt h<|by decide
section
variable{X:Cx}
theorem Fu:eU X (.builtin "len") (λxs H Q=>∃a kvs,xs=[V.ref a]/\H a=some (.dK kvs)/\Q (.int kvs.length) H):=by intro pins s σ H xs us Q I r h;obtain⟨a,kvs,rfl,ha,q⟩:=h;obtain⟨u,rfl,ru⟩:=vals1 r;cases ru;exact SR I (.inl ha) λt s' I'=>{.int kvs.length,H,I',⟨t,rfl⟩,q}
end
theorem br{A B:Prop}(h:B):if false=true then A else B:=by rw[if_neg zd];exact h
theorem dP{A B:Prop}(h:A):if true=true then A else B:=by rw[if_pos rfl];exact h
section
variable{κ:Type}[DecidableEq κ]
theorem mB:∀{l:List κ}{k:κ},l.Nodup->¬k∈l->(l++[k]).Nodup|[],k,_,_=>by simp|a::r,k,h,hk=>by obtain⟨h1,h2⟩:=yk.mp h;show(a::(r++[k])).Nodup;refine yk.mpr {λm=>?_,mB h2 λm=>hk<|zj.mpr<|Or.inr m};rcases zM.mp m with q|q;exact h1 q;exact hk<|zj.mpr<|Or.inl (zE.mp q).symm
end
end L2
set_option maxHeartbeats 4000000
namespace L2
open PySem PySem.Spec PyProof.Rows
section
variable{X:Cx}
noncomputable def G1(i j:Str):Bool:=!decide (j.cps.toList<i.cps.toList)
noncomputable def ph(i j:Str):Bool:=decide<|i.cps.toList<j.cps.toList
def X0(g:Str->Str->Bool):R2:=λx y H Q=>∃i j,x=.str i/\y=.str j/\Q (.bl<|g i j) H
theorem Fv:gy X (compareOp .LtE) (X0 G1):=by intro pins s σ H x y v u Q I rx ry h;obtain⟨i,j,rfl,rfl,q⟩:=h;obtain⟨t,rfl⟩:=rx;obtain⟨t',rfl⟩:=ry;exact P.le_str<|aK I q rfl
theorem Fw:gy X (compareOp .GtE) (X0 λi j=>G1 j i):=by intro pins s σ H x y v u Q I rx ry h;obtain⟨i,j,rfl,rfl,q⟩:=h;obtain⟨t,rfl⟩:=rx;obtain⟨t',rfl⟩:=ry;exact P.ge_str<|aK I q rfl
theorem Fx:gy X (compareOp .Gt) (X0 λi j=>ph j i):=by intro pins s σ H x y v u Q I rx ry h;obtain⟨i,j,rfl,rfl,q⟩:=h;obtain⟨t,rfl⟩:=rx;obtain⟨t',rfl⟩:=ry;exact P.gt_str<|aK I q rfl
def M8(_ j:Int):Prop:=0<j/\j.natAbs.log2<9000
theorem HA:gy X (binaryOp .FloorDiv) (rI M8 λi j=>.int<|i/j):=V4 λi j _ _ _ _ _ hc q=>by
 have hj:j≠0:=by have:=hc.1;omega
 exact floordiv_int hj (by rw[Int.fdiv_eq_ediv_of_nonneg _<|by have:=hc.1;omega];exact q)<|.inl<|PyProof.noPylong_of_log2 hc.2
end
noncomputable def X1(x:Str):It:={λi _=>i<x.cps.size,λi H v H'=>H'=H/\∃c,x.cps[i]?=some c/\v=.str ⟨#[c]⟩,λi _=>x.cps.size<=i}
theorem xG{P:Program}{w:World}{K:Frag}{tg:Expr}{T:String}(hT:["enumerate","zip","dict_itemiterator","dict_reverseitemiterator","odict_iterator","itertools.zip_longest","itertools.pairwise"].contains T=false)(it:Addr)(x:Str)(t:Tok)
  (W:∀A':Around,A'.handled=none->Walks P w A' it [it] [it] x.cps.size (SignAt x) (λi h=>h.IsStrIter it T x t i))
  (X2:∀(A:Around)(s:Shared)(E:Value->Shared->Prop)(i:Nat)(Q:Option Value->Shared->Prop),A.handled=none->s.heap.IsStrIter it T x t i->x.cps[i]?=none->(∀h',Heap.ExtBut it s.heap h'->Q none {s with heap:=h'})->wpAny (model P w) A (pyNext<|.ref it) Q E s)
  (SU:∀(A:Around)(s:Shared)(E:Value->Shared->Prop)(i:Nat)(Q:Value->Shared->Prop),s.heap.IsStrIter it T x t i->Q (.ref it) s->wpAny (model P w) A (pyIter<|.ref it) Q E s):
  Turn P w K tg (X1 x) [it] it (λi h=>h.IsStrIter it T x t i) where
 mem:=by simp
 obj:=λi h st b hb=>by
  have e:b=it:=by simpa using hb
  subst e
  obtain⟨o,e,c,d⟩:=st
  exact{o,e,λv z=>by rw[d]at z;cases z}
 keep:=λi h h' st k=>by
  obtain⟨o,e,c,d⟩:=st
  exact{o,k it (by simp) o e,c,d}
 item:=by
  intro X hP hw hK hc i pins s σ H E I hf st hg
  subst hP hw hK
  obtain⟨f0,f1,f2,f3,f4,f5⟩:=hf it<|by simp
  refine(W X.A<|I.ok.hd hc).item i s _ _ hg st λv h' tk hv eM kk=>?_
  obtain⟨c,u,K3,rfl⟩:=hv
  have I1:Inv X pins σ H {s with heap:=h',toks:=tk}:=I.turned (λb o hb e=>kk b o (by simpa using hb) e) f0 f1 f3 f4 f5
  obtain⟨o,e,c',d⟩:=id eM
  exact{_,rfl,uE (s:={s with heap:=h',toks:=tk}) e c' d hT {.str ⟨#[c]⟩,H,I1,⟨u,rfl⟩,⟨rfl,c,K3,rfl⟩,eM,λb hb=>(hf b hb).1}}
 done:=by
  intro X hP hw hK hc i pins s σ H E I hf st hg
  subst hP hw hK
  obtain⟨f0,f1,f2,f3,f4,f5⟩:=hf it<|by simp
  have hg:x.cps.size<=i:=hg
  exact X2 X.A s E i _ (I.ok.hd hc) st (by simp;exact hg) λh' eb=>{rfl,I.turned (t':=s.toks) (λb o hb e=>eb b o hb e) f0 f1 f3 f4 f5}
 self:=λA' i s Q E st h=>SU A' s E i Q st h
section
variable{X:Cx}{tg:Expr}
def X3(tl:TE):TI:=λσ H R=>tl σ H λx H1=>∃z,x=.str z/\R (X1 z) H1
theorem Pf(hl:PE X l tl):PI X tg l (X3 tl):=by
 intro pins s σ H R I h;refine bz (hl pins s σ H _ I h) λv s1 ⟨x,H1,I1,r1,q1⟩=>?_;obtain⟨z,e,q⟩:=q1;subst e;obtain⟨t,rfl⟩:=r1;have fin:∀(T:String)(_:Turn X.prog X.w X.K tg (X1 z) [s1.heap.objs.size] s1.heap.objs.size (λi h=>h.IsStrIter s1.heap.objs.size T z t i)),Xq X pins σ tg R (.ref s1.heap.objs.size) {s1 with heap:=s1.heap.push {cls:=.type T,data:=.fields #[.str z t,.int 0 0]}}:=λT tn=>by refine{s1.heap.objs.size,[s1.heap.objs.size],_,_,H1,rfl,I1.kept (t':=s1.toks) λb o e=>za _ e,tn,{_,zk _ rfl,rfl,rfl},λb hb=>?_,q};have e:b=s1.heap.objs.size:=(by simpa using hb);subst e;exact I1.nV (zo _)<|I1.aQ.fresh<|zo _
 cases ha:z.cps.all (·<128);exact wpAny_pyIter_wide ha<|fin _<|xG (by decide) _ z t (λA' hA=>Walks.strWide hA _ z t) (λA s E i Q hh st hx hQ=>wpAny_pyNext_wide_end hh st hx hQ) λA s E i Q st hq=>wpAny_pyIter_striter_wide st hq;exact wpAny_pyIter_ascii ha<|fin _<|xG (by decide) _ z t (λA' hA=>Walks.strAscii hA _ z t) (λA s E i Q hh st hx hQ=>wpAny_pyNext_ascii_end hh st hx hQ) λA s E i Q st hq=>wpAny_pyIter_striter_ascii st hq
end
noncomputable def clOf(cells:List<|Str×Addr)(names:List<|Str×NameKind):List (Str×Addr):=names.foldl (λcs p=>if p.2==.free then match cells.lookup p.1 with|some a=>(p.1,a)::cs|none=>cs else cs) []
theorem rC(cells:List<|Str×Addr):∀(names:List (Str×NameKind))(cs:List (Str×Addr)),(∀x c,cs.lookup x=some c->cells.lookup x=some c)->∀x c,(names.foldl (λcs p=>if p.2==.free then match cells.lookup p.1 with|some a=>(p.1,a)::cs|none=>cs else cs) cs).lookup x=some c->cells.lookup x=some c|[],cs,h=>h| (n,k)::r,cs,h=>by rw[yL];refine rC cells r _ λx c e=>?_;dsimp only at e;split at e;split at e;rename_i a ha;rw[yb]at e;split at e;rename_i hx;have:=LawfulBEq.eq_of_beq hx;cases e;rw[this];exact ha;exact h x c e;exact h x c e;exact h x c e
theorem uN(cells:List<|Str×Addr):∀(names:List (Str×NameKind))(cs:List (Str×Addr))(x:Str)(c:Addr),(∀y c,cs.lookup y=some c->cells.lookup y=some c)->cs.lookup x=some c->(names.foldl (λcs p=>if p.2==.free then match cells.lookup p.1 with|some a=>(p.1,a)::cs|none=>cs else cs) cs).lookup x=some c
 |[],cs,x,c,_,h=>h
 | (n,k)::r,cs,x,c,hs,h=>by
  rw[yL];have V_:∀y c,(if (k==NameKind.free)=true then match cells.lookup n with|some a=>(n,a)::cs|none=>cs else cs).lookup y=some c->cells.lookup y=some c:=by intro y c e;split at e;split at e;rename_i a ha;rw[yb]at e;split at e;rename_i hx;have:=LawfulBEq.eq_of_beq hx;cases e;rw[this];exact ha;exact hs y c e;exact hs y c e;exact hs y c e
  refine uN cells r _ x c V_ ?_;dsimp only;split;split;rename_i a ha;rw[yb];split;rename_i hx;have:=LawfulBEq.eq_of_beq hx;rw[this]at h;have:=hs _ _ h;rw[ha]at this;exact this;exact h;exact h;exact h
theorem jw(cells:List<|Str×Addr):∀(names:List (Str×NameKind))(cs:List (Str×Addr))(x:Str)(c:Addr),(∀y c,cs.lookup y=some c->cells.lookup y=some c)->(x,NameKind.free)∈names->cells.lookup x=some c->(names.foldl (λcs p=>if p.2==.free then match cells.lookup p.1 with|some a=>(p.1,a)::cs|none=>cs else cs) cs).lookup x=some c
 |[],cs,x,c,_,h,_=>nomatch h
 | (n,k)::r,cs,x,c,hs,h,hc=>by
  rw[yL];have V_:∀y c,(if (k==NameKind.free)=true then match cells.lookup n with|some a=>(n,a)::cs|none=>cs else cs).lookup y=some c->cells.lookup y=some c:=by intro y c e;split at e;split at e;rename_i a ha;rw[yb]at e;split at e;rename_i hx;have:=LawfulBEq.eq_of_beq hx;cases e;rw[this];exact ha;exact hs y c e;exact hs y c e;exact hs y c e
  rcases zj.mp h with e|h;cases e;refine uN cells r _ _ c V_ ?_;dsimp only;rw[if_pos<|show(NameKind.free==NameKind.free)=true by decide,hc];simp[yb];exact jw cells r _ x c V_ h hc
theorem gz{scope:Scope}{env:Env}(h:∀x∈scope.names,x.2=.free->∃c,env.cells.lookup x.1=some c):closureFor scope env=pure (clOf env.cells scope.names):=by
 have go:∀(names:List (Str×NameKind))(cs:List (Str×Addr)),(∀x∈names,x.2=.free->∃c,env.cells.lookup x.1=some c)->(forIn names cs λx r=>match x with|(name,kind)=>if (kind==NameKind.free)=true then do let a <-cellOf env name;pure (ForInStep.yield<|(name,a)::r) else pure (ForInStep.yield r):Sem (List<|Str×Addr))=pure (names.foldl (λcs p=>if p.2==.free then match env.cells.lookup p.1 with|some a=>(p.1,a)::cs|none=>cs else cs) cs):=by intro names;induction names with|nil=>intro cs _;rfl|cons p r ih=>intro cs hp;obtain⟨n,k⟩:=p;rw[List.forIn_cons,yL];by_cases hk:k=.free;subst hk;obtain⟨c,hc⟩:=hp _ zr rfl;have hc:env.cells.lookup n=some c:=hc;have e1:cellOf env n=pure c:=(by unfold cellOf;rw[hc]);have ef:(NameKind.free==NameKind.free)=true:=(by decide);dsimp only;rw[if_pos ef,if_pos ef,e1,hc];exact ih _ λx hx=>hp x<|zg _ hx;have HB:(k==NameKind.free)=false:=(by simpa using hk);dsimp only;rw[HB,if_neg zd,if_neg zd];exact ih _ λx hx=>hp x<|zg _ hx
 have e:=go scope.names [] h;have e2:closureFor scope env=(forIn scope.names [] (λx r=>match x with|(name,kind)=>if (kind==NameKind.free)=true then do let a <-cellOf env name;pure (ForInStep.yield<|(name,a)::r) else pure (ForInStep.yield r)):Sem (List<|Str×Addr)) >>=λcs=>pure cs:=rfl;rw[e2,e];rfl
theorem jx{env:Env}{names:List<|Str×NameKind}{x:Str} : (names.map λ(n,k)=>if (k==NameKind.free&&env.scope.kind==.function&&env.kindOf n==some .cell) then (n,NameKind.cell) else (n,k)).lookup x=(names.lookup x).map λk=>if (k==NameKind.free&&env.scope.kind==.function&&env.kindOf x==some .cell) then NameKind.cell else k:=by induction names with|nil=>rfl|cons p r ih=>obtain⟨n,k⟩:=p;rw[zy,yb];by_cases hc:(k==NameKind.free&&env.scope.kind==.function&&env.kindOf n==some .cell)=true;dsimp only;rw[if_pos hc,yb];(cases hx:x==n with|true=>have:=LawfulBEq.eq_of_beq hx;subst this;dsimp only[Option.map];rw[if_pos hc]|false=>exact ih);dsimp only;rw[if_neg hc,yb];cases hx:x==n with|true=>have:=LawfulBEq.eq_of_beq hx;subst this;dsimp only[Option.map];rw[if_neg hc]|false=>exact ih
noncomputable def i4(X:Cx)(N:List Str)(scope:Scope)(C:Addr)(s:Shared)(H:Hp)(ex:List Addr)(pn:List<|Addr×Obj):Cx:={X with N:=N,cX:=s,vE:=H,env:=compEnvC scope (clOf X.env.cells scope.names) C X.env,outer:=X.stack,ex:=ex,fn:=λ_=>false,pn:=pn,xe:=λ_ _=>False}
noncomputable def pick(σ:St)(src:List<|Option Nat):St:=src.map λo=>match o with|some j=>(σ[j]?).join|none=>none
structure bN(X:Cx)(N:List Str)(src:List (Option Nat))(scope:Scope):Prop where
 kind:scope.kind=.function
 gA:∀y∈scope.names,y.2≠.cell
 loc:∀y∈scope.names,y.2=.local->scope.names.lookup y.1=some .local
 BA:∀y∈scope.names,y.2=.free->X.env.kindOf y.1=some .cell\/X.env.kindOf y.1=some .free
 len:src.length=N.length
 src:∀(i j:Nat)(x:Str),src[i]?=some (some j)->N[i]?=some x->X.N[j]?=some x/\scope.names.lookup x=some .free/\Q_ X.env.scope x
def Ext(σ aF:St):Prop:=aF.length=σ.length/\∀(j:Nat) v,σ[j]?=some (some v)->aF[j]?=some (some v)
def BB(g:TG)(src:List<|Option Nat):Prop:=∀x σ H Q,g x (pick σ src) H Q->g x (pick σ src) H λaF H'=>Ext (pick σ src) aF/\Q aF H'
def HC(wi:TI)(src:List<|Option Nat)(g:TG)(tc:TT)(te:TE):TE:=λσ H Q=>wi σ H λJ H1=>∃W:Nat->Nat->List V->Hp->Prop,(∃m,W 0 m [] H1)/\∀i m out H',W i m out H'->(J.stop i H'/\∀D,H' D=none->Q (.ref D) (upd H' D<|.lst out))\/(J.go i H'/\out.length<sizeLine/\∀x H2,J.Sh i H' x H2->g x (pick σ src) H2 λjj H3=>tc jj H3 λb H4=>if b=true then te jj H4 λv H5=>∃m',m'<m/\W (i+1) m' (out++[v]) H5 else ∃m',m'<m/\W (i+1) m' out H4)
section
variable{X:Cx}{N:List Str}{src:List (Option Nat)}{scope:Scope}{tg iter elt:Expr}{ifs:List Expr}{pos:Pos}{wi:TI}{g:TG}{tc:TT}{te:TE}
def Rk(X:Cx)(ifs:List Expr)(t:TT):Prop:=∀(pins:List (Addr×Obj))(s:Shared)(σ:St)(H:Hp)(Q:Bool->Hp->Prop),Inv X pins σ H s->t σ H Q->wpAny (model X.prog X.w) X.A (forIn ifs true λc r=>if r=true then do let ok <-isTrue c X.env (eval c X.env);pure (ForInStep.yield ok) else pure (ForInStep.yield r)) (TP X pins σ Q) X.xe s
def SV:TT:=λ_ H Q=>Q true H
theorem K4:Rk X [] SV:=λpins s σ H Q I h=>wpAny_tests_nil ⟨H,I,h⟩
theorem K5{t:TT}(h:PT X c t):Rk X [c] t:=λpins s σ H Q I hw=>wpAny_tests_one<|h pins s σ H Q I hw
theorem kH(Rl:∀x s',EE x s'->notedBy (model prog w) A env (λe s'=>R (.error e) s') x s')(I:Nat->Shared->Prop)
  (turn:∀n s,I n s->wpAny (model prog w) A (pyNext it) (λr bj=>match r with
   |none=>R (.ok .next) bj
   |some v=>wpAny (model prog w) A (letOwnedTupleGo target it v) (λ_ M9=>wpAny (model prog w) A (assign target env v) (λ_ bW =>
     wpAny (model prog w) A (forIn ifs true λc r=>if r=true then do let ok <-isTrue c env (eval c env);pure (ForInStep.yield ok) else pure (ForInStep.yield r)) (λok Bi =>
      if ok=true then wpAny (model prog w) A (eval elt env) (λx xH =>
       wpAny (model prog w) A (call (.builtin "list.append") [acc,x]) (λ_ SW=>∃m,m<n/\I m SW) EE xH) EE Bi
      else ∃m,m<n/\I m Bi) EE bW) EE M9) EE bj) EE s)
  (n:Nat) (h:I n s):
  codeAny (model prog w) A (.compLoop (.ListComp elt [{target,iter,ifs,0}] scope pos) 0 it acc env) R s:=by
 refine codeAny_loop rfl I (λn s hI=>?_) n h
 show wpAny _ A ((compTurn (.ListComp elt [{target,iter,ifs,0}] scope pos) 0 it acc env).onRaise λx=>do noteFrame x env;theTreesLotGoes x) _ _ s
 refine wpAny_noted ?_
 rw[compTurn_list]
 refine zc<|wpAny_standAt<|zc<|yF (turn n s hI) (λr bj h₁=>?_) Rl
 cases r with
 |none=>exact zm h₁
 |some v =>
  refine zc<|yF h₁ (λ_ M9 SX=>?_) Rl
  refine zc<|yF SX (λ_ bW X4=>zc<|yF X4 (λok Bi SY=>?_) Rl) Rl
  cases ok with
  |false=>exact zm ⟨rfl,SY⟩
  |true =>
   exact zc<|zc<|yF SY (λx xH X5=>zc<|yF X5 (λ_ SW X6=>zm<|zm ⟨rfl,X6⟩) Rl) Rl
def CompEnd(X:Cx)(pins:List<|Addr×Obj)(σ:St)(Q:VK)(D C:Addr)(s':Shared):Prop:=∃H' m,Inv X pins σ H' s'/\Q (.ref D) H'/\s'.heap.Ns C m/\H' C=none/\C≠X.env.locals/\X.cX.heap.objs.size<=C/\(∀x c,X.env.cells.lookup x=some c->c≠C)/\(∀p∈X.pn++pins,p.1≠C)
theorem uO{pins:List<|Addr×Obj}{bW:Shared}{σ:St}{jk:Hp}{Q:VK}{it:Addr}{fp:List Addr}{tn:Nat->Heap->Prop}{J:It}{E:Value->Shared->Prop}(S:bN X N src scope)(hc:X.calm=true) (hg:∀C s H ex pn,PG (i4 X N scope C s H ex pn) tg g) (hx:BB g src) (hi:∀C s H ex pn,Rk (i4 X N scope C s H ex pn) ifs tc) (he:∀C s H ex pn,PE (i4 X N scope C s H ex pn) elt te) (I:Inv X pins σ jk bW) (T:Turn X.prog X.w X.K tg J fp it tn) (st:tn 0 bW.heap) (ff:∀b∈fp,q8 X pins jk b) (W:Nat->Nat->List V->Hp->Prop) (w0:∃m,W 0 m [] jk) (turn:∀i m out H',W i m out H'->(J.stop i H'/\∀D,H' D=none->Q (.ref D) (upd H' D<|.lst out))\/(J.go i H'/\out.length<sizeLine/\∀x H2,J.Sh i H' x H2->g x (pick σ src) H2 λjj H3=>tc jj H3 λb H4=>if b=true then te jj H4 λv H5=>∃m',m'<m/\W (i+1) m' (out++[v]) H5 else ∃m',m'<m/\W (i+1) m' out H4)) {RR:Value->Addr->Result->Shared->Prop} (hRR:∀D C s',CompEnd X pins σ Q D C s'->RR (.ref D) C (.ok .next) s'): wpAny (model X.prog X.w) X.A (newList []) (λacc Bi=>wpAny (model X.prog X.w) X.A (newFunctionEnv scope X.env.globals (clOf X.env.cells scope.names) [] X.env.qual none .none<|some X.env) (λS_ xH=>codeAny (model X.prog X.w) X.A (.compStart (.ListComp elt [{tg,iter,ifs,0}] scope pos) 0 (.ref it) acc {S_ with scope:=relabel scope X.env}) (RR acc S_.locals) xH) E Bi) E bW:=by
 refine yi<|wpAny_newFunctionEnv S.gA (by intro y hy;simp at hy) (λh₁ vM rD=>?_) S.kind;dsimp only at vM rD⊢;generalize X7:bW.heap.push {cls:=.type "list",dict:=none,data:=.seq ([]:List Value).toArray}=G2 at vM rD⊢;have hC:G2.objs.size=bW.heap.objs.size+1:=by rw[<-X7,zZ]
 have Rm:bW.heap.objs.size≠G2.objs.size:=by rw[hC];exact zA<|yH _
 have K6:bW.heap.objs.size<=G2.objs.size:=by rw[hC];exact yR _
 have old:∀b o,bW.heap.get? b=some o->h₁.get? b=some o:=λb o e=>rD.extBut b o (zA<|zq (zx e) K6)<|za _<|X7 ▸ za _ e;have rE:h₁.get? bW.heap.objs.size=some {cls:=.type "list",dict:=none,data:=.seq ([]:List Value).toArray}:=rD.extBut _ _ Rm<|za _<|X7 ▸ zk _ rfl;generalize hCC:G2.objs.size=C at hC Rm K6 vM rD⊢;have mC:bW.heap.objs.size<=C:=K6;generalize hD:bW.heap.objs.size=D at hC Rm K6 rE⊢;have i5:∀x c,(clOf X.env.cells scope.names).lookup x=some c->X.env.cells.lookup x=some c:=rC X.env.cells scope.names [] (by intro x c h;simp at h);have HD:∀x c,X.env.cells.lookup x=some c->c<bW.heap.objs.size:=λx c e=>by obtain⟨v,q⟩:=I.cell x c e;exact q.lt
 have Pg:∀b∈fp,b<bW.heap.objs.size:=λb hb=>by obtain⟨o,e,_⟩:=T.obj _ _ st b hb;exact zx e
 have ok:(i4 X N scope C bW jk fp<|X.pn++pins).Ok:=by refine{I.ok.mod,S.kind,I.ok.glob,I.ok.blt,mC,λx y c h1 h2=>I.ok.inj x y c (i5 _ _ h1)<|i5 _ _ h2,λx hk=>?_,λx c h=>(nomatch h),I.ok.hd,I.ok.frames,.inl rfl,λb hb=>{?_,λx c h=>?_},I.bs,zG I.ok.Kk I.sz,λb o e hb=>?_,λb hb hf=>?_,I.stack,I.qw};have hk:(relabel scope X.env).names.lookup x=some .cell\/(relabel scope X.env).names.lookup x=some .free:=hk;unfold relabel at hk;dsimp only at hk;rw[jx]at hk;(cases hl:scope.names.lookup x with|none=>(rw[hl]at hk;rcases hk with z|z<;>cases z)|some k=>rw[hl]at hk;have hm:=yh hl;have Tc:k=.free:=(by by_cases Tc:k=.free;exact Tc;exfalso;have e1:(k==NameKind.free)=false:=(by simpa using Tc);simp only[Option.map,e1,zS,Bool.false_eq_true,if_false]at hk;rcases hk with z|z;exact S.gA _ hm<|zP z;exact Tc<|zP z);subst Tc;obtain⟨c,K3⟩:=I.ok.has x<|S.BA _ hm rfl;exact{c,jw X.env.cells scope.names [] x c (by intro x c h;simp at h) hm K3});exact zA<|zq (Pg b hb) mC;exact(ff b hb).2.2.2.2.1 x c<|i5 _ _ h;have q:b∈X.ex\/X.cX.heap.objs.size<=b:=(ff b hb).2.2.2.1;rcases q with q|q;exact I.ok.Ob b o e q;exact absurd (zq (zx e)<|zG I.ok.Kk q)<|yy _;rcases zj.mp (I.nS b hf) with z|z;exact(ff b hb).2.1 z;exact(ff b hb).2.2.1 z
 have Td:∀p∈X.pn++pins,p.1∉nR X.stack:=λp hp z=>by obtain⟨_,_,ne,nf,_⟩:=I.pin p hp;rcases zj.mp (I.nS _ z) with q|q;exact ne q;exact nf q
 have HE:∀p∈X.pn++pins,p.1<bW.heap.objs.size:=λp hp=>zx (I.pin p hp).1;have Te:∀b∈nR X.stack,b<bW.heap.objs.size:=λb hb=>by rcases zj.mp (I.nS b hb) with z|z;rw[z];exact I.lt;obtain⟨_,o,ho,_⟩:=I.ok.pW.mem z;exact zq (zx ho) I.sz
 have X8:∀(i:Nat)(x:Str)(v:V),N[i]?=some x->(pick σ src)[i]?=some (some v)->∃u c,RelV v u/\(clOf X.env.cells scope.names).lookup x=some c/\bW.heap.IsCell c (some u)/\scope.names.lookup x=some .free:=λi x v e1 e2=>by unfold pick at e2;rw[zp]at e2;cases es:src[i]? with|none=>(rw[es]at e2;cases e2)|some o=>rw[es]at e2;cases o with|none=>(cases e2)|some j=>have e3:(σ[j]?).join=some v:=zP e2;have e4:σ[j]?=some (some v):=(by cases q:σ[j]? with|none=>(rw[q]at e3;cases e3)|some z=>rw[q]at e3;exact congrArg some e3);obtain⟨a1,a2,a3⟩:=S.src i j x es e1;obtain⟨m0,_,hl⟩:=I.loc;obtain⟨u,r,l⟩:=hl j x v a1 e4 a3;have hm:=yh a2;have hk:=S.BA _ hm rfl;rcases l with⟨k,_⟩|⟨_,c,K3,z⟩;rcases hk with hk|hk<;>(rw[k]at hk;cases hk);exact{u,c,r,jw X.env.cells scope.names [] x c (by intro x c h;simp at h) hm K3,z,a2}
 have kinds:∀x,scope.names.lookup x=some .free->(compEnvC scope (clOf X.env.cells scope.names) C X.env).kindOf x=some .cell\/(compEnvC scope (clOf X.env.cells scope.names) C X.env).kindOf x=some .free:=λx hx=>by show(relabel scope X.env).names.lookup x=some .cell\/(relabel scope X.env).names.lookup x=some .free;unfold relabel;dsimp only;rw[jx,hx];dsimp only[Option.map];split;exact .inl rfl;exact .inr rfl
 have Ic:Inv (i4 X N scope C bW jk fp<|X.pn++pins) [] (pick σ src) jk {bW with heap:=h₁,toks:=bW.toks+([]:List (Str×Value)).length}:=by refine{ok,rfl,I.bare,Un.kept old,{_,vM,λi x v e1 e2 e3=>?_},λx c e=>?_,I.aQ.fresh mC,λx c e=>I.fR x c<|i5 x c e,λp hp=>?_,I.aQ.kept old,?_};obtain⟨u,c,r,e5,⟨o,ho,hd⟩,hf⟩:=X8 i x v e1 e2;exact{u,r,.inr {kinds x hf,c,e5,{o,old _ _ ho,hd}}};obtain⟨v,o,ho,hd⟩:=I.cell x c<|i5 x c e;exact{v,o,old _ _ ho,hd};have hp:p∈X.pn++pins:=(by simpa [i4]using hp);obtain⟨e,n,_,_,d⟩:=I.pin p hp;exact{old _ _ e,n,zA<|zq (HE p hp) mC,Td p hp,d};show(pick σ src).length=N.length;unfold pick;rw[zb,S.len]
 have xI:bW.heap.objs.size<=D:=Nat.le_of_eq hD;have Ph:D∉nR X.stack:=λz=>absurd (zq (Te D z) xI)<|yy _;have M_:D∉fp:=λz=>absurd (zq (Pg D z) xI)<|yy _;have nV:∀{pl:List (Addr×Obj)}{H':Hp},(∀b∈fp,H' b=none)->(∀p∈pl,p.1∉fp)->∀b∈fp,q8 (i4 X N scope C bW jk fp<|X.pn++pins) pl H' b:=λ{pl H'} hn dO b hb=>by obtain⟨f0,f1,f2,f3,f4,f5⟩:=ff b hb;refine{hn b hb,zA<|zq (Pg b hb) mC,λz=>?_,.inl hb,λx c e=>f4 x c<|i5 x c e,λp hp=>?_};rcases zj.mp (I.nS b z) with q|q;exact f1 q;exact f2 q;have hp:p∈(X.pn++pins)++pl:=hp;rcases zM.mp hp with hp|hp;exact f5 p hp;exact λz=>dO p hp<|z ▸ hb
 have back:∀{s':Shared}{H':Hp}{out:List V}{az:List Value}{nn:Nat}{aF:St},Inv (i4 X N scope C bW jk fp<|X.pn++pins) [] aF H' s'->H' D=none->out.length<=sizeLine->Vals out az->s'.heap.get? D=some {cls:=.type "list",data:=.seq az.toArray nn}->(∀D,H' D=none->Q (.ref D) (upd H' D<|.lst out))->CompEnd X pins σ Q D C s':=λ{s' H' out az nn aF} I' hn hl hv ho q=>by obtain⟨m,hm,_⟩:=I'.loc;have un:Un (nR X.stack) fp jk H' bW.heap s'.heap:=I'.base;have neD:∀b o,bW.heap.get? b=some o->b≠D:=λb o e=>zA<|zq (zx e) xI;have fD:jk D=none:=I.aQ.fresh xI;refine{upd H' D<|.lst out,m,?_,q D hn,hm,by rw[ax<|Ne.symm Rm];exact I'.free,ym<|zq I.lt mC,zG I.sz mC,λx c e=>zA<|zq (HD x c e) mC,λp hp=>zA<|zq (HE p hp) mC};refine I.R7 (ch:=fp) I'.os {un.keep,un.slot,λb o e n hb=>?_,un.there,λb xs e=>?_,λb o u e=>?_,λb ps e=>?_} (λb o e=>?_) I'.bare λb hb=>?_;rw[ax<|neD b o e];exact un.free b o e n hb;rw[ax<|aD e fD];exact un.mr b xs e;rw[ax<|aD e fD];exact un.lK b o u e;rw[ax<|aD e fD];exact un.lL b ps e;by_cases hb:b=D;subst hb;rw[aE]at e;cases e;exact⟨hl,az,nn,hv,ho⟩;rw[ax hb]at e;refine(I'.aQ b o e).pV (λc v _ q=>q) (λc q=>?_) λc xs q=>?_;rw[ax<|aD q hn];exact q;rw[ax<|aD q hn];exact q;obtain⟨f0,f1,f2,f3,f4,f5⟩:=ff b hb;exact⟨f3,f1,f4,f5⟩
 obtain⟨m0,w0⟩:=w0;have loop:∀xH:Shared,xH={bW with heap:=h₁,toks:=bW.toks+([]:List (Str×Value)).length}->codeAny (model X.prog X.w) X.A (.compLoop (.ListComp elt [{tg,iter,ifs,0}] scope pos) 0 (.ref it) (.ref D)<|compEnvC scope (clOf X.env.cells scope.names) C X.env) (RR (.ref D) C) xH:=by rintro xH rfl;refine kH (EE:=λ_ _=>False) (λ_ _ f=>f.elim) (λn s'=>∃i out az nn H',Inv (i4 X N scope C bW jk fp<|X.pn++pins) [] (pick σ src) H' s'/\H' D=none/\out.length<=sizeLine/\Vals out az/\s'.heap.get? D=some {cls:=.type "list",data:=.seq az.toArray nn}/\tn i s'.heap/\(∀b∈fp,H' b=none)/\W i n out H') ?_ m0 {0,[],[],0,jk,Ic,I.aQ.fresh xI,zY _,.nil,rE,T.keep _ _ _ st λb hb o e=>old b o e,λb hb=>(ff b hb).1,w0};rintro n s3 ⟨i,out,az,nn,H3,I3,Tf,X9,Wa,ho3,Sk,Sl,w3⟩;have Pj:∀(az:List Value) (nn:Nat) (v:Option Value),({cls:=.type "list",data:=.seq az.toArray nn} : Obj).data≠.cell v:=λ_ _ _ z=>nomatch z;have I3p:Inv (i4 X N scope C bW jk fp<|X.pn++pins) [(D,{cls:=.type "list",data:=.seq az.toArray nn})] (pick σ src) H3 s3:=I3.mw λp hp=>(by have e:p=(D,{cls:=.type "list",data:=.seq az.toArray nn}):=(by simpa using hp);subst e;exact{ho3,Tf,Rm,Ph,Pj az nn});have X_:∀p∈[((D,{cls:=.type "list",data:=.seq az.toArray nn}):Addr×Obj)],p.1∉fp:=λp hp=>(by have e:p=(D,{cls:=.type "list",data:=.seq az.toArray nn}):=(by simpa using hp);subst e;exact M_);rcases turn i n out H3 w3 with⟨stop,qn⟩|⟨go,eN,step⟩;refine bz (T.done (i4 X N scope C bW jk fp<|X.pn++pins) rfl rfl rfl hc i _ s3 _ H3 _ I3p (nV Sl X_) Sk stop) λr s4 ⟨hr,I4⟩=>?_;subst hr;have p4:=(I4.pin (D,{cls:=.type "list",data:=.seq az.toArray nn})<|zC _<|by simp).1;exact hRR D C s4<|back (I4.mw (pins':=[]) λp hp=>nomatch hp) Tf X9 Wa p4 qn;refine bz (T.item (i4 X N scope C bW jk fp<|X.pn++pins) rfl rfl rfl hc i _ s3 _ H3 _ I3p (nV Sl X_) Sk go) λr s4 ⟨u,hr,h4⟩=>?_;subst hr;refine bz h4 λ_ s5 ⟨x,H5,I5,r5,y5,st5,fr5⟩=>?_;have Xt:=I5.pinned (nV fr5 X_)<|T.obj _ _ st5;refine bz (hg _ _ _ _ _ _ s5 _ H5 x u _ Xt r5<|hx x σ H5 _<|step x H5 y5) λ_ s6 ⟨Sm,H6,I6,e6,q6⟩=>?_;have fin:∀{s7:Shared}{H7:Hp},Inv (i4 X N scope C bW jk fp<|X.pn++pins) ([(D,{cls:=.type "list",data:=.seq az.toArray nn})]++q9 fp s5.heap) Sm H7 s7->Inv (i4 X N scope C bW jk fp<|X.pn++pins) [] (pick σ src) H7 s7/\H7 D=none/\s7.heap.get? D=some {cls:=.type "list",data:=.seq az.toArray nn}/\tn (i+1) s7.heap/\∀b∈fp,H7 b=none:=λ{s7 H7} I7=>(by have pD:=I7.pin (D,{cls:=.type "list",data:=.seq az.toArray nn})<|zC _ (by simp);refine{(I7.mw (pins':=[]) λp hp=>nomatch hp).weak e6.1.symm e6.2,pD.2.1,pD.1,T.keep _ _ _ st5 λb hb o e=>(I7.pin (b,o)<|zC _<|zC _<|iz hb e).1,λb hb=>?_};obtain⟨o,e,d⟩:=T.obj _ _ st5 b hb;exact(I7.pin (b,o)<|zC _<|zC _<|iz hb e).2.1);refine bz (hi _ _ _ _ _ _ s6 Sm H6 _ I6 q6) λb s7 ⟨H7,I7,q7⟩=>?_;cases b with|false=>(rw[if_neg zd]at q7⊢;obtain⟨m',hm,w7⟩:=q7;obtain⟨J7,d7,o7,t7,f7⟩:=fin I7;exact{m',hm,i+1,out,az,nn,H7,J7,d7,X9,Wa,o7,t7,f7,w7})|true=>rw[if_pos rfl]at q7⊢;refine bz (he _ _ _ _ _ _ s7 Sm H7 _ I7 q7) λv s8 ⟨y,H8,I8,r8,m',hm,w8⟩=>?_;obtain⟨J8,d8,o8,t8,f8⟩:=fin I8;have hsz:az.toArray.size<=sizeLine:=(by rw[zl,<-Wa.length];exact X9);refine wpAny_list_append_plain (items:=az.toArray) (hsz:=hsz) ⟨nn,o8⟩ λh9 ⟨n9,e9⟩ sb=>?_;have J9:Inv (i4 X N scope C bW jk fp<|X.pn++pins) [] (pick σ src) H8 {s8 with heap:=h9}:=J8.turned (t':=s8.toks) (it:=D) (λb o hb e=>(sb.2 b hb).trans e) d8 Rm (.inr xI) (λx c e=>zA<|zq (HD x c<|i5 x c e) xI) λp hp=>(by have hp:p∈X.pn++pins:=(by simpa [i4]using hp);exact zA<|zq (HE p hp) xI);refine{m',hm,i+1,out++[y],az++[v],n9,H8,J9,d8,?_,Wa.append<|.cons r8 .nil,?_,T.keep _ _ _ t8 λb hb o e=>(sb.2 b λz=>M_<|z ▸ hb).trans e,f8,w8};rw[zH];exact eN;rw[e9];simp
 exact codeAny_compStart_list (loop _ rfl)<|T.self _ _ _ _ _ (T.keep _ _ _ st λb hb o e=>old b o e)<|loop _ rfl
theorem K7(S:bN X N src scope)(hc:X.calm=true)(hit:PI X tg iter wi) (hg:∀C s H ex pn,PG (i4 X N scope C s H ex pn) tg g) (hx:BB g src) (hi:∀C s H ex pn,Rk (i4 X N scope C s H ex pn) ifs tc) (he:∀C s H ex pn,PE (i4 X N scope C s H ex pn) elt te) (hs:autoParam (∀x,foldedSetIterable iter X.env x=pure x) qQ0):PE X (.ListComp elt [{tg,iter,ifs,0}] scope pos) (HC wi src g tc te):=by intro pins s σ H Q I h;rw[eval_ListComp];have Fy:closureFor scope X.env=pure (clOf X.env.cells scope.names):=gz λy hy hf=>I.ok.has y.1<|S.BA y hy hf;refine wpAny_comprehension_free (use:=none) rfl hs Fy S.kind S.loc<|bz (hit pins s σ H _ I h) λv s1 h1=>bz h1 λV2 s2 h2=>?_;obtain⟨it,fp,tn,J,H2,e,I2,T,Kw,f2,W,w0,turn⟩:=h2;subst e;refine uO (RR:=λacc C=>compPost (model X.prog X.w) X.A X.xe none (EP X pins σ Q) acc C) S hc hg hx hi he I2 T Kw f2 W w0 turn λD C s' ⟨H',m,I',q,hm,hn,h1,h2,h3,h4⟩=>?_;exact{m,hm,λh' sb=>{.ref D,H',I'.turned (t':=s'.toks) (it:=C) (λb o hb e=>(sb.2 b hb).trans e) hn h1 (.inr h2) h3 h4,rfl,q}}
theorem BC{i:Nat}{x:Str}{pos' K8:Pos}(hN:X.N.Nodup)(Ya:X.N[i]?=some x)(Wb:X.env.scope.names.lookup x=some .local) (S:bN X N src scope) (hc:X.calm=true) (hit:PI X tg iter wi) (hg:∀C s H ex pn,PG (i4 X N scope C s H ex pn) tg g) (hx:BB g src) (hi:∀C s H ex pn,Rk (i4 X N scope C s H ex pn) ifs tc) (he:∀C s H ex pn,PE (i4 X N scope C s H ex pn) elt te) (Yb:autoParam (swapsWith (.ListComp elt [{tg,iter,ifs,0}] scope pos) (some<|.Name x pos') K8.line X.env=pure true) qQJ) (hs:autoParam (∀x,foldedSetIterable iter X.env x=pure x) qQ0):PS X (.Assign [.Name x pos'] (.ListComp elt [{tg,iter,ifs,0}] scope pos) K8) (Oy (HC wi src g tc te)<|i0 i):=by
 intro pins s σ H D I h;rw[exec_Assign_Name_used _ _ _ _ Yb];refine zc<|wpAny_standAt<|zc ?_;have Fy:closureFor scope X.env=pure (clOf X.env.cells scope.names):=gz λy hy hf=>I.ok.has y.1<|S.BA y hy hf;show wpAny _ X.A (do let _ <-comprehension (.ListComp elt [⟨tg,iter,ifs,0⟩] scope pos) scope X.env _ (newList []) false (eval iter X.env) (some (assign (.Name x pos') X.env))) _ _ s;refine zc<|yF (wpAny_comprehension_free (use:=some<|assign (.Name x pos') X.env) (Q:=λ_ s'=>∃aF H',Inv X pins aF H' s'/\D.nx aF H') rfl hs Fy S.kind S.loc<|bz (hit pins s σ H _ I h) λv s1 h1=>bz h1 λV2 s2 h2=>?_) (λ_ s' hq=>zm<|zm hq) λ_ _ e=>e;obtain⟨it,fp,tn,J,H2,e,I2,T,Kw,f2,W,w0,turn⟩:=h2;subst e;refine uO (Q:=λv H1=>D.nx (σ.set i<|some v) H1) (RR:=λacc C=>compPost (model X.prog X.w) X.A X.xe (some<|assign (.Name x pos') X.env) (λ_ s'=>∃aF H',Inv X pins aF H' s'/\D.nx aF H') acc C) S hc hg hx hi he I2 T Kw f2 W w0 turn λD' C s' ⟨H',m,I',q,hm,hn,h1,h2,h3,h4⟩=>?_;show wpAny _ X.A (assign (.Name x pos') X.env<|.ref D') _ _ _;refine wpAny_assign_Name<|uD I' hN Ya (.inl Wb) (v:=.ref D') rfl (λBu I'' ⟨a,sb,ha⟩=>?_)<|.inr Wb;have hCa:C≠a:=by rcases ha with ha|ha;rw[ha];exact h1;exact Ne.symm<|h3 _ _ ha
 refine{m,hm.sameBut sb hCa,λh'' G4=>{_,H',I''.turned (t':=Bu.toks) (it:=C) (λb o hb e=>(G4.2 b hb).trans e) hn h1 (.inr h2) h3 h4,q}}
end
theorem n6{σ:St}{src:List<|Option Nat}{i:Nat}(h:src[i]?=some none):(pick σ src)[i]?=some none:=by unfold pick;rw[zp,h];rfl
theorem Ext.set(h:σ0[i]?=some none)(e:Ext σ0 σ):Ext σ0 (σ.set i<|some v):=by
 refine{by rw[List.length_set];exact e.1,λj w hj=>?_};have:i≠j:=by rintro rfl;rw[h]at hj;cases hj
 rw[List.getElem?_set_ne this];exact e.2 j w hj
theorem Ext.refl(σ:St):Ext σ σ:={rfl,λ_ _ h=>h}
theorem aO{src:List<|Option Nat}{i:Nat}(h:src[i]?=some none):BB (i0 i) src:=λx σ H Q q=>{(Ext.refl _).set<|n6 h,q}
theorem qE{K:Frag}{n:Nat}{src:List<|Option Nat}{i j:Nat}(h:src[i]?=some none)(h':src[j]?=some none):BB (Ku K n<|qY (i0 i)<|qY (i0 j) Kt) src:=λx σ H Q q=>by obtain⟨a,xs,e1,hs,hl,v,r,e2,v2,r2,e3,e4,q⟩:=q;exact{a,xs,e1,hs,hl,v,r,e2,v2,r2,e3,e4,((Ext.refl _).set<|n6 h).set<|n6 h',q}
theorem all_bools{xs:List V}{az:List Value}{bs:List Bool}(hv:Vals xs az)(hb:xs=bs.map V.bl):∀(i:Nat)(v:Value),az.toArray[i]?=some v->v=Value.bool ((bs[i]?).getD false):=by
 subst hb;intro i v h;have h':az[i]?=some v:=by simpa using h
 have hl:=hv.length;rw[zb]at hl;have hi:i<az.length:=(zf.mp h').1;have hb:bs[i]?=some (bs[i]'(by lia)):=by simp
 obtain⟨u,hu,r⟩:=hv.get (i:=i) (x:=V.bl<|bs[i]'(by lia)) (by rw[zp,hb];rfl);rw[h']at hu;cases hu;rw[hb];exact r
theorem range_all{bs:List Bool} : (List.range bs.length).all (λi=>(bs[i]?).getD false)=bs.all id:=by rw[yw,yc,yc];constructor;intro h b hb;obtain⟨i,hi,rfl⟩:=List.mem_iff_getElem.mp hb;have:=h i<|zQ.mpr hi;simpa [hi]using this;intro h i hi;have hi:=zQ.mp hi;simpa [hi]using h _ (List.getElem_mem hi)
theorem range_any{bs:List Bool} : (List.range bs.length).any (λi=>(bs[i]?).getD false)=bs.any id:=by rw[yw,List.any_eq_true,List.any_eq_true];constructor;rintro⟨i,hi,h⟩;have hi:=zQ.mp hi;exact{bs[i],List.getElem_mem hi,by simpa [hi]using h};rintro⟨b,hb,h⟩;obtain⟨i,hi,rfl⟩:=List.mem_iff_getElem.mp hb;exact{i,zQ.mpr hi,by simpa [hi]using h}
section
variable{X:Cx}
theorem tT(hc:X.calm=true):eU X (.builtin "all") (λxs H Q=>∃(a:Addr)(bs:List Bool),xs=[.ref a]/\iZ X.K H a (bs.map V.bl)/\Q (.bl<|bs.all id) H):=by
 intro pins s σ H xs us Q I r h;obtain⟨a,bs,rfl,hq,q⟩:=h;obtain⟨u,rfl,ru⟩:=vals1 r;cases ru;obtain⟨az,rv,p,hz⟩:=I.list hq;have hl:=rv.length;rw[zb]at hl;refine call_all_walk<|wpAny_pyIter_list p.isList ?_;refine{s.heap.objs.size,_,_,_,_,_,λi=>(bs[i]?).getD false,rfl,Walks.list (A:=X.A.in1) (I.ok.hd hc) s.heap.objs.size a (zA p.lt) az.toArray,{{_,zk _ rfl,rfl,rfl},p.isList.at λo e=>za _ e},?_,λh' tk hk=>?_};intro i v s' Q' E' hv hQ;rw[all_bools rv rfl i v hv];exact yr hQ;have e:az.toArray.size=bs.length:=by rw[zl,<-hl]
 rw[e,range_all];exact{.bl<|bs.all id,H,I.kept (h':=h') (t':=tk) λb o e=>hk b o (by simpa using zA (zx e))<|za _ e,rfl,q}
theorem tU(hc:X.calm=true):eU X (.builtin "any") (λxs H Q=>∃(a:Addr)(bs:List Bool),xs=[.ref a]/\iZ X.K H a (bs.map V.bl)/\Q (.bl<|bs.any id) H):=by
 intro pins s σ H xs us Q I r h;obtain⟨a,bs,rfl,hq,q⟩:=h;obtain⟨u,rfl,ru⟩:=vals1 r;cases ru;obtain⟨az,rv,p,hz⟩:=I.list hq;have hl:=rv.length;rw[zb]at hl;refine call_any_walk<|wpAny_pyIter_list p.isList ?_;refine{s.heap.objs.size,_,_,_,_,_,λi=>(bs[i]?).getD false,rfl,Walks.list (A:=X.A.in1) (I.ok.hd hc) s.heap.objs.size a (zA p.lt) az.toArray,{{_,zk _ rfl,rfl,rfl},p.isList.at λo e=>za _ e},?_,λh' tk hk=>?_};intro i v s' Q' E' hv hQ;rw[all_bools rv rfl i v hv];exact yr hQ;have e:az.toArray.size=bs.length:=by rw[zl,<-hl]
 rw[e,range_any];exact{.bl<|bs.any id,H,I.kept (h':=h') (t':=tk) λb o e=>hk b o (by simpa using zA (zx e))<|za _ e,rfl,q}
end
noncomputable def ownOf:HO->Option Addr|.ins _ dx _=>some dx|.lI _ u=>ownOf u|_=>none
structure Fg(H H' G:Hp):Prop where
 sub:∀b o,G b=some o->H' b=some o
 dom:∀b o,H b=some o->∃o',G b=some o'
 own:∀a o dx,G a=some o->ownOf o=some dx->(∃o',H a=some o'/\ownOf o'=some dx)\/∃o',G dx=some o'
theorem aG:bootBuiltins "len"= some (.builtin "len"):=PySem.boot_len
theorem gB:bootBuiltins "all"= some (.builtin "all"):=boot_all
theorem Pk:bootBuiltins "any"= some (.builtin "any"):=boot_any
theorem ak:bootBuiltins "isinstance"= some (.builtin "isinstance"):=boot_isinstance
theorem gC:bootBuiltins "int"= some (.type "int"):=PyProof.Rows.boot_int
theorem vN:bootBuiltins "bool"= some (.type "bool"):=PyProof.Rows.boot_bool
theorem gD:bootBuiltins "str"= some (.type "str"):=PyProof.Rows.boot_str
theorem aW:bootBuiltins "tuple"= some (.type "tuple"):=PyProof.Rows.boot_tuple
theorem K9:bootBuiltins "list"= some (.type "list"):=PyProof.Rows.boot_list
theorem DL:bootBuiltins "dict"= some (.type "dict"):=PyProof.Rows.boot_dict
theorem Pl:bootBuiltins "set"= some (.type "set"):=PyProof.Rows.boot_set
set_option genInjectivity true in
set_option genSizeOfSpec true in
inductive Kd where
 |av|bl|int|str|lst|tup|cO
 deriving DecidableEq
noncomputable def Kd.name:Kd->String|.av=>"NoneType" |.bl=>"bool" |.int=>"int" |.str=>"str" |.lst=>"list" |.tup=>"tuple" |.cO=>"dict"
inductive rF (H:Hp):V->Kd->Prop where
 |av:rF H .av .av
 |bl (b:Bool):rF H (.bl b) .bl
 |int (i:Int):rF H (.int i) .int
 |str (x:Str):rF H (.str x) .str
 |lst {a:Addr}{xs:List V} (e:H a=some (.lst xs)):rF H (.ref a) .lst
 |tup {a:Addr}{xs:List V} (e:H a=some (.tup xs)):rF H (.ref a) .tup
 |cO {a:Addr}{kvs:List<|Key×V} (e:H a=some (.dK kvs)):rF H (.ref a) .cO
theorem rF.ty{K:Frag}{H:Hp}{x:V}{k:Kd}(h:rF H x k):nX K H x (.type k.name):=by cases h with|av=>exact .av|bl b=>exact .bl b|int i=>exact .int i|str x=>exact .str x|lst e=>exact .lst e|tup e=>exact .tup e|cO e=>exact .dK e
noncomputable def vO(T:String):Option (Kd->Bool):=if T ="int" then some λk=>match k with|.int=>true|.bl=>true|_=>false else if T ="bool" then some λk=>match k with|.bl=>true|_=>false else if T ="str" then some λk=>match k with|.str=>true|_=>false else if T ="tuple" then some λk=>match k with|.tup=>true|_=>false else if T ="list" then some λk=>match k with|.lst=>true|_=>false else if T ="dict" then some λk=>match k with|.cO=>true|_=>false else none
theorem HF{K:Frag}{T:String}{g:Kd->Bool}(h:vO T=some g)(k:Kd):kitOne K (.type k.name) (.type T)=some (g k):=by unfold vO at h;split at h;rename_i e;subst e;cases h;cases k<;>rfl;split at h;rename_i e;subst e;cases h;cases k<;>rfl;split at h;rename_i e;subst e;cases h;cases k<;>rfl;split at h;rename_i e;subst e;cases h;cases k<;>rfl;split at h;rename_i e;subst e;cases h;cases k<;>rfl;split at h;rename_i e;subst e;cases h;cases k<;>rfl;cases h
section
variable{X:Cx}
theorem HG:eU X (.builtin "isinstance") (λxs H Q=>∃x T k g,xs=[x,.ty T]/\vO T=some g/\rF H x k/\Q (.bl<|g k) H):=by intro pins s σ H xs us Q I r h;obtain⟨x,T,k,g,rfl,hg,hk,q⟩:=h;obtain⟨v,w',rfl,rv,tQ⟩:=vals2 r;cases tQ;exact Fj I rv hk.ty (HF hg k) λtk=>{.bl<|g k,H,I.tok tk,rfl,q}
end
mutual
def Dt(K:Frag)(H:Hp):PyData->V->Prop|.none,v=>v=.av|.bool b,v=>v=.bl b|.int i,v=>v=.int i|.str z,v=>v=.str z|.list ds,v=>∃a xs,v=.ref a/\iZ K H a xs/\DtAll K H ds xs|.tuple ds,v=>∃a xs,v=.ref a/\gT K H a xs/\DtAll K H ds xs|.dict _,_=>False
def DtAll(K:Frag)(H:Hp):List PyData->List V->Prop|[],xs=>xs=[]|d::ds,xs=>∃y ys,xs=y::ys/\Dt K H d y/\DtAll K H ds ys
end
section
variable{X:Cx}{pins:List (Addr×Obj)}{σ:St}{H:Hp}{s:Shared}
mutual
theorem Inv.reads(I:Inv X pins σ H s):∀(d:PyData){x:V}{u:Value},Dt X.K H d x->RelV x u->∃as,Reads s.heap u d as
 |.none,x,u,h,r=>by
  have h:x=.av:=by simpa only[Dt]using h
  subst h;cases r;exact{_,.none}
 |.bool b,x,u,h,r=>by
  have h:x=.bl b:=by simpa only[Dt]using h
  subst h;cases r;exact{_,.bool b}
 |.int i,x,u,h,r=>by
  have h:x=.int i:=by simpa only[Dt]using h
  subst h;obtain⟨t,rfl⟩:=r;exact{_,.int i t}
 |.str z,x,u,h,r=>by
  have h:x=.str z:=by simpa only[Dt]using h
  subst h;obtain⟨t,rfl⟩:=r;exact{_,.str z t}
 |.list ds,x,u,h,r=>by
  have h:∃a xs,x=.ref a/\iZ X.K H a xs/\DtAll X.K H ds xs:=by simpa only[Dt]using h
  obtain⟨a,xs,rfl,hq,hd⟩:=h;cases r;obtain⟨az,rv,p,_⟩:=I.list hq;obtain⟨as,ra⟩:=Inv.readsAll I ds hd rv;obtain⟨o,e,c,n,d⟩:=p.isList;exact{_,.list e c d<|by simpa using ra}
 |.tuple ds,x,u,h,r=>by
  have h:∃a xs,x=.ref a/\gT X.K H a xs/\DtAll X.K H ds xs:=by simpa only[Dt]using h
  obtain⟨a,xs,rfl,hq,hd⟩:=h;cases r;obtain⟨az,rv,p,_⟩:=I.tuple hq;obtain⟨as,ra⟩:=Inv.readsAll I ds hd rv;obtain⟨o,e,c,n,d⟩:=p;exact{_,.tuple e c d<|by simpa using ra}
 |.dict _,x,u,h,r=>by
  have h:False:=by simpa only[Dt]using h
  exact h.elim
theorem Inv.readsAll(I:Inv X pins σ H s):∀(ds:List PyData){xs:List V}{us:List Value},DtAll X.K H ds xs->Vals xs us->∃as,ReadsAll s.heap us ds as
 |[],xs,us,h,r=>by
  have h:xs=[]:=by simpa only[DtAll]using h
  subst h;cases r;exact{_,.nil}
 |d::ds,xs,us,h,r=>by
  have h:∃y ys,xs=y::ys/\Dt X.K H d y/\DtAll X.K H ds ys:=by simpa only[DtAll]using h
  obtain⟨y,ys,rfl,h1,h2⟩:=h;cases r with|cons r1 r2=>obtain⟨as,ra⟩:=Inv.reads I d h1 r1;obtain⟨bs,rb⟩:=Inv.readsAll I ds h2 r2;exact{_,.cons ra rb}
end
end
def Th(K:Frag)(neg:Bool):R2:=λx y H Q=>∃d e,Dt K H d x/\Dt K H e y/\d.canLay0=true/\e.canLay0=true/\(d.depth<=64\/e.depth<=64)/\Q (.bl<|if neg then !PyData.eqv d e else PyData.eqv d e) H
section
variable{X:Cx}
theorem HH(hu:X.A.units+64<cLine):gy X (compareOp .Eq) (Th X.K false):=by intro pins s σ H x y v u Q I rx ry h;obtain⟨d,e,hd,he,cd,ce,dp,q⟩:=h;obtain⟨as,ra⟩:=I.reads d hd rx;obtain⟨bs,rb⟩:=I.reads e he ry;exact SeqAt.compareEq_reads ra rb cd ce (by rcases dp with dp|dp<;>lia)<|aK I q rfl
theorem HI(hu:X.A.units+64<cLine):gy X (compareOp .NotEq) (Th X.K true):=by intro pins s σ H x y v u Q I rx ry h;obtain⟨d,e,hd,he,cd,ce,dp,q⟩:=h;obtain⟨as,ra⟩:=I.reads d hd rx;obtain⟨bs,rb⟩:=I.reads e he ry;exact SeqAt.compareNe_reads ra rb cd ce (by rcases dp with dp|dp<;>lia)<|aK I q rfl
end
theorem kf(a b:Nat):G1 ⟨#[a]⟩ ⟨#[b]⟩=decide (a<=b):=by
 unfold G1;have e:([b]<[a])↔b<a:=by rw[List.cons_lt_cons_iff];constructor;rintro (h|⟨_,h⟩);exact h;exact absurd h<|List.not_lt_nil _;exact .inl
 rw[yw];show(!decide ([b]<[a]))=true↔_;rw[Bool.not_eq_true',decide_eq_false_iff_not,e,decide_eq_true_iff];lia
noncomputable def chkC(sc:Scope)(N0 N:List Str)(src:List<|Option Nat)(scope:Scope):Bool :=
 decide (scope.kind=.function)&&(scope.names.all (λy=>decide (y.2≠.cell)&&(decide (y.2≠.local)||decide (scope.names.lookup y.1=some .local))&&(decide (y.2≠.free)||(decide (sc.names.lookup y.1=some .cell)||decide (sc.names.lookup y.1=some .free)))) &&
  (decide (src.length=N.length)&&(List.range src.length).all λi=>match src[i]?,N[i]? with
   |some (some j),some x=>decide (N0[j]?=some x)&&(decide (scope.names.lookup x=some .free)&&(decide (sc.names.lookup x=some .cell)||decide (sc.names.lookup x=some .free)))
   |_,_=>true))
theorem i6(sc:Scope)(N0:List Str)(hs:X.env.scope=sc)(hN:X.N=N0)(h:chkC sc N0 N src scope=true):bN X N src scope:=by unfold chkC at h;simp only[zL,yj,yc,Bool.or_eq_true]at h;obtain⟨h1,h2,h3,h4⟩:=h;refine{h1,λy hy=>(h2 y hy).1.1,λy hy e=>?_,λy hy e=>?_,h3,λi j x e1 e2=>?_};rcases (h2 y hy).1.2 with z|z;exact absurd e z;exact z;rcases (h2 y hy).2 with z|z;exact absurd e z;show X.env.scope.names.lookup y.1=some .cell\/X.env.scope.names.lookup y.1=some .free;rw[hs];exact z;have hi:i<src.length:=(zf.mp e1).1;have q:=h4 i<|zQ.mpr hi;rw[e1,e2]at q;simp only[zL,yj,Bool.or_eq_true]at q;refine{by rw[hN];exact q.1,q.2.1,?_};unfold Q_;rw[hs];exact .inr q.2.2
theorem DM(h0:0<=i)(h1:i<l.length):∃v,rl l i=some v/\l[i.toNat]?=some v:=by
 obtain⟨j,rfl⟩:=Int.eq_ofNat_of_zero_le h0;have hj:j<l.length:=by lia
 exact{l[j],d_<|by simp[hj],by simp[hj]}
theorem bB{c:Bool}{A B:Prop}(h:c=true->A)(h':c=false->B):if c=true then A else B:=by cases c with|true=>exact h rfl|false=>exact h' rfl
theorem nt(h:(!b)=true):b=false:=by cases b<;>simp_all
theorem nf(h:(!b)=false):b=true:=by cases b<;>simp_all
noncomputable def BD:Kd->Bool|.int=>true|.bl=>true|_=>false
noncomputable def vP:Kd->Bool|.bl=>true|_=>false
noncomputable def BE:Kd->Bool|.str=>true|_=>false
noncomputable def rG:Kd->Bool|.tup=>true|_=>false
noncomputable def K_:Kd->Bool|.lst=>true|_=>false
theorem La:vO "int"= some BD:=if_pos rfl
theorem rH:vO "bool"= some vP:=(if_neg<|by decide).trans<|if_pos rfl
theorem bX:vO "str"= some BE:=(if_neg<|by decide).trans<|(if_neg<|by decide).trans<|if_pos rfl
theorem aR:vO "tuple"= some rG:=(if_neg<|by decide).trans<|(if_neg<|by decide).trans<|(if_neg<|by decide).trans<|if_pos rfl
theorem len_pos{z:Str}(h:1<=z.cps.size):∃c r,z.cps.toList=c::r:=by cases e:z.cps.toList with|nil=>have:z.cps.toList.length=0:=(by rw[e];rfl);rw[zT]at this;lia|cons c r=>exact⟨c,r,rfl⟩
theorem at0(e:l=c::r):rl l 0=some c:=by
 have:l[0]?=some c:=by rw[e];rfl
 exact d_ (j:=0) this
noncomputable def isPlain:Expr->Bool|.Starred _ _=>false|_=>true
theorem BF(h:isPlain e=true):starEach (e::es) env=(false,eval e env)::starEach es env:=by cases e<;>first|rfl|exact absurd h zd
theorem Yc{t:TA}(ha:PE X e te)(hr:PA X es t)(hp:autoParam (isPlain e=true) qQJ):PA X (e::es) (M4 te t):=KJ ha hr<|BF hp
end L2
namespace HT
open PySem PyProof.Rows
open PySem.SeqAt
open PySem.AutoSeq1 (wpAny_loadPart')
open PySem.MeetsSeq PySem.MeetsSeq2 PySem.MeetsSeq3
end HT
namespace L2
open PySem PySem.Spec PyProof.Rows
def HJ(c:Value)(e:Addr)(h:Heap):Prop:=∃o vs,h.get? e=some o/\o.data=.fields vs/\vs[2]?=some c
section
variable{M:Model}{A:Around}{E:Value->Shared->Prop}{s:Shared}{base:Heap}{env:Env}{outer:List Env}{L e:Addr}{a0 c fl:Value}
theorem Tj(xn:A.frames=some (env::outer))(hl:s.heap.FunFrames base<|env::outer)(hf:env.frame=some L) (he:s.heap.get? e=some oe) (G5:base.StaysIn s.heap) (A6:base.get? e=none) (hd:oe.data=.fields vs) (h0:vs[0]?=some a0) (h2:vs[2]?=some c) (h:∀h',Heap.NotedW base (env::outer) e oe.cls a0 (rawInt L) s.heap h'->HJ c e h'->Q () {s with heap:=h'}): wpAny M A (do let x <-frameOf env;let y <-entryPlaceOf L nx;let z <-EntryCells.newEntry head x .none (rawInt L) .none y;setField (.ref e) 1 z) Q E s:=by
 have hsz:1<vs.size:=by have:=(Array.getElem?_eq_some_iff.mp h2).1;lia
 have nfr:e∉(env::outer).filterMap (·.frame):=λm=>by obtain⟨_,o,q,n⟩:=hl.mem m;rw[he]at q;cases q;exact n vs hd
 refine zc<|wpAny_frameOf_fun xn hl hf λg sg=>?_;refine zc<|wpAny_entryPlaceOf λpl dO=>?_;unfold EntryCells.newEntry newFields;refine zc<|yi ?_<|dO.sizeOk5 _ _ _ _ _;have g1:g.get? e=some oe:=(sg.2.1 e nfr).trans he;have kg:base.StaysIn g:=λb o q=>(sg.2.1 b λm=>by rw[(hl.mem m).1]at q;cases q).trans<|G5 b o q;have t3:((([head,.ref L,.none,rawInt L,.none]++(if pl.isEmpty then List.replicate 6 Value.none else pl)).toArray:Array Value))[3]?=some (rawInt L):=by rcases dO with rfl|⟨_,_,_,_,_,_,_,rfl⟩<;>simp
 generalize Yd:(([head,.ref L,.none,rawInt L,.none]++(if pl.isEmpty then List.replicate 6 Value.none else pl)).toArray:Array Value)=ts at t3;have g2:=za (h:=g) {cls:=.type "traceback",dict:=none,data:=.fields ts} g1;refine yP g2 hd hsz<|h _ ?_ ?_;have ne:g.objs.size≠e:=ym<|zx g1;have d3:=yx hd (·.setIfInBounds 1 (Value.ref g.objs.size));have e3:=yt (Obj.mapFields (·.setIfInBounds 1 (Value.ref g.objs.size))) g2<|Obj.isFreed_of_fields d3;have T3:=(yo (g.push {cls:=.type "traceback",dict:=none,data:=.fields ts}) (Obj.mapFields (·.setIfInBounds 1 (Value.ref g.objs.size)))<|Ne.symm ne).trans<|zk g rfl;have keep:∀b o,b≠e->g.get? b=some o->((g.push {cls:=.type "traceback",dict:=none,data:=.fields ts}).update e (Obj.mapFields (·.setIfInBounds 1 (Value.ref g.objs.size)))).get? b=some o:=λb o n q=>by rw[yo _ _<|Ne.symm n];exact za _ q
 have xJ:∀b o,s.heap.get? b=some o->(∀vs,o.data≠.fields vs)->b≠e:=λb o q n z=>by rw[z,he]at q;cases q;exact n vs hd
 refine{λb o q=>keep b o (λz=>by rw[z,A6]at q;cases q)<|kg b o q,hl.of_keeps λb o q n=>?_,?_,λb o q n=>?_};obtain⟨sl,z⟩:=sg.2.2 b o q;exact{_,keep b _ (xJ b o q n) z,rfl};exact{_,_,g.objs.size,_,_,e3,{Obj.cls_mapFields _ _,by rw[Array.getElem?_setIfInBounds_ne<|by decide];exact h0},d3,by simp[hsz],kg.fresh,ne,T3,rfl,t3};obtain⟨sl,z⟩:=sg.2.2 b o q;exact{sl,keep b _ (xJ b o q n) z};have d3:=yx hd (·.setIfInBounds 1 (Value.ref g.objs.size));exact{_,_,yt (Obj.mapFields (·.setIfInBounds 1 (Value.ref g.objs.size))) g2<|Obj.isFreed_of_fields d3,d3,by rw[Array.getElem?_setIfInBounds_ne<|by decide];exact h2}
theorem setC(G5:base.StaysIn s.heap)(A6:base.get? e=none)(hl:s.heap.FunFrames base l)(ht:s.heap.TracedAtW base e cls a0 fl)(hc:HJ c e s.heap) (h:∀h',Heap.FlyingW base l e cls a0 h'->s.heap.UpToSlots h'->HJ c e h'->Q () {s with heap:=h'}):wpAny M A (setFlight (.ref e) none) Q E s:=by
 obtain⟨o,vs,T,oT,ts,q,hk,hd,q1,nT,ne,qT,dT,q3⟩:=ht;obtain⟨o',Ye,q',Bh,q2⟩:=hc;rw[q]at q';cases q';rw[hd]at Bh;cases Bh;have hs3:3<ts.size:=(Array.getElem?_eq_some_iff.mp q3).1;have Lb:∀b,b≠T->(s.heap.update T (Obj.mapFields (·.setIfInBounds 3 ((none:Option Addr).elim Value.none λf=>rawInt f)))).get? b=s.heap.get? b:=λb n=>yo _ _<|Ne.symm n;have xJ:∀b o,s.heap.get? b=some o->(∀vs,o.data≠.fields vs)->b≠T:=λb o z n w=>by rw[w,qT]at z;cases z;exact n ts dT
 have qe:=(Lb e<|Ne.symm ne).trans q;unfold setFlight;refine zc<|zU q hd q1 ?_;rw[if_pos<|show(Value.ref T != Value.none)=true by simp];refine yP qT dT hs3<|h _ {λb o z=>(Lb b λw=>by rw[w,nT]at z;cases z).trans<|G5 b o z,A6,hl.of_keeps λb o z n=>{o,(Lb b<|xJ b o z n).trans z,rfl},?_} (λb o z n=>{o.slots,(Lb b<|xJ b o z n).trans z}) ⟨o,vs,qe,hd,q2⟩;exact{o,vs,T,_,_,qe,hk,hd,q1,nT,ne,yt _ qT<|Obj.isFreed_of_fields<|yx dT _,yx dT _,by simp[hs3]}
theorem Tp(xn:A.frames=some (env::outer))(hf:env.frame=some L)(G5:base.StaysIn s.heap)(A6:base.get? e=none)(hl:s.heap.FunFrames base<|env::outer)(ht:s.heap.TracedAtW base e cls a0 fl)(hc:HJ c e s.heap) (h:∀h',Heap.HeldW base (env::outer) e cls a0 L h'->s.heap.UpToSlots h'->HJ c e h'->Q () {s with heap:=h'}):wpAny M A (noteFrame (.ref e) env) Q E s:=by
 by_cases BG:fl=rawInt L;subst BG;exact wpAny_noteFrame_againW hf ht<|h s.heap ⟨G5,A6,hl,ht⟩ (.refl _) hc;obtain⟨o,vs,T,oT,ts,q,⟨hk,h0⟩,hd,q1,nT,ne,qT,dT,q3⟩:=ht;obtain⟨o',Ye,q',Bh,q2⟩:=hc;rw[q]at q';cases q';rw[hd]at Bh;cases Bh;subst hk;have Lb:∀b,b≠T->(s.heap.update T (Obj.mapFields (·.setIfInBounds 3 Value.none))).get? b=s.heap.get? b:=λb n=>yo _ _<|Ne.symm n;have xJ:∀b o,s.heap.get? b=some o->(∀vs,o.data≠.fields vs)->b≠T:=λb o z n w=>by rw[w,qT]at z;cases z;exact n ts dT
 unfold noteFrame;simp only[hf];refine zc<|zU q hd q1 ?_;rw[if_pos<|show(Value.ref T != Value.none)=true by simp];refine zc<|zU qT dT q3 ?_;rw[if_neg<|show ¬((fl==rawInt L)=true) by simpa using BG];refine zc<|yP qT dT (Array.getElem?_eq_some_iff.mp q3).1 ?_;refine Tj xn (hl.of_keeps λb o z n=>{o,(Lb b<|xJ b o z n).trans z,rfl}) hf ((Lb e<|Ne.symm ne).trans q) (λb o z=>(Lb b λw=>by rw[w,nT]at z;cases z).trans<|G5 b o z) A6 hd h0 q2 λh' x y=>?_;obtain⟨x1,x2,x3,x4⟩:=x;exact h h' ⟨x1,A6,x2,x3⟩ (λb o z n=>x4 b o ((Lb b<|xJ b o z n).trans z) n) y
theorem Pm(xn:A.frames=some (env::outer))(hf:env.frame=some L)(G5:base.StaysIn s.heap)(A6:base.get? e=none)(hl:s.heap.FunFrames base<|env::outer) (he:s.heap.get? e=some oe) (hd:oe.data=.fields vs) (h0:vs[0]?=some a0) (h1:vs[1]?=some .none) (h2:vs[2]?=some c) (h:∀h',Heap.HeldW base (env::outer) e oe.cls a0 L h'->s.heap.UpToSlots h'->HJ c e h'->Q () {s with heap:=h'}):wpAny M A (noteFrame (.ref e) env) Q E s:=by unfold noteFrame;simp only[hf];refine zc<|zU he hd h1 ?_;rw[if_neg<|by decide];refine Tj xn hl hf he G5 A6 hd h0 h2 λh' x y=>?_;obtain⟨x1,x2,x3,x4⟩:=x;exact h h' ⟨x1,A6,x2,x3⟩ x4 y
theorem Pn(xn:A.frames=some (env::outer))(hf:env.frame=some L)(G5:base.StaysIn s.heap)(A6:base.get? e=none)(hl:s.heap.FunFrames base<|env::outer)(ht:s.heap.TracedAtW base e cls a0 fl)(hc:HJ c e s.heap) (h:∀h',Heap.FlyingW base outer e cls a0 h'->s.heap.UpToSlots h'->HJ c e h'->Q () {s with heap:=h'}):wpAny M A (leaving env<|.ref e) Q E s:=by unfold leaving;refine zc<|Tp xn hf G5 A6 hl ht hc λh' x u y=>?_;obtain⟨x1,x2,x3,x4⟩:=x;refine setC x1 x2 x3 x4 y λh2 z u2 y2=>?_;obtain⟨z1,z2,⟨_,_,z3⟩,z4⟩:=z;exact h h2 ⟨z1,z2,z3,z4⟩ (u.trans u2) y2
theorem Ld(xn:A.frames=some (env::outer))(hf:env.frame=some L)(G5:base.StaysIn s.heap)(A6:base.get? e=none)(hl:s.heap.FunFrames base<|env::outer) (he:s.heap.get? e=some oe) (hd:oe.data=.fields vs) (h0:vs[0]?=some a0) (h1:vs[1]?=some .none) (h2:vs[2]?=some c) (h:∀h',Heap.FlyingW base outer e oe.cls a0 h'->s.heap.UpToSlots h'->HJ c e h'->Q () {s with heap:=h'}):wpAny M A (leaving env<|.ref e) Q E s:=by unfold leaving;refine zc<|Pm xn hf G5 A6 hl he hd h0 h1 h2 λh' x u y=>?_;obtain⟨x1,x2,x3,x4⟩:=x;refine setC x1 x2 x3 x4 y λh2 z u2 y2=>?_;obtain⟨z1,z2,⟨_,_,z3⟩,z4⟩:=z;exact h h2 ⟨z1,z2,z3,z4⟩ (u.trans u2) y2
end
theorem bx.get(x:bx P w H h a o):∃u,h.get? a=some u:=by cases o with|lst xs=>(obtain⟨_,_,_,_,e⟩:=x;exact{_,e})|tup xs=>(obtain⟨_,_,_,ob,e,_⟩:=x;exact{_,e})|dK kvs=>(obtain⟨_,_,_,_,o,_,_,e,_⟩:=x;exact{_,e})|dT kvs=>exact False.elim x|set S n=>(obtain⟨o,_,_,_,e,_⟩:=x;exact{_,e})|ins C dx fs=>(obtain⟨_,_,_,e,_⟩:=x;exact{_,e})|own y=>(obtain⟨_,e⟩:=x;exact{_,e})|xd fs=>(obtain⟨_,⟨_,_,_,e,_⟩,_⟩:=x;exact{_,e})|VW lo hi=>(obtain⟨_,_,_,e⟩:=x;exact{_,e})|lI ob u=>(obtain⟨e,_⟩:=x;exact{_,e})|qv ps=>exact{_,show h.get? a=some _ from x}|met f y=>exact{_,show h.get? a=some _ from x}|ext φ=>obtain⟨_,e,_⟩:=x;exact e
structure Yf(P:Program)(w:World)(mg:Str->Option Value)(outer:List Env)(H H':Hp)(h0:Heap)(a:Addr)(cls a0:Value)(B h:Heap):Prop where
 fl:Heap.FlyingW B outer a cls a0 h
 aQ:lJ P w H' B
 keep:∀b o,h0.get? b=some o->H b=none->b∉nR outer->B.get? b=some o
 there:∀b o,h0.get? b=some o->b∉nR outer->∃o',B.get? b=some o'
 slot:∀b o,h0.get? b=some o->b∈nR outer->∃sl,h.get? b=some {o with slots:=sl}
 free:∀b o,h0.get? b=some o->H b=none->H' b=none
 mr:∀b xs,H b=some (.tup xs)->H' b=some (.tup xs)
 lK:∀b o u,H b=some (.lI o u)->H' b=some (.lI o u)
 lL:∀b ps,H b=some (.qv ps)->∃more,H' b=some (.qv<|ps++more)
 cx:HJ .none a h\/mg "NoMark"= some cls
def fk(P:Program)(w:World)(mg:Str->Option Value):Bt:=λouter H s E e s'=>∃a cls a0 B H',e=.ref a/\s'.os=s.os/\AllBare s'.gens/\Yf P w mg outer H H' s.heap a cls a0 B s'.heap/\E cls none H'
structure cP(X:Cx)(E:XK):Prop where
 ex:X.ex=[]
 st:X.stack=X.env::X.outer
 fr:X.env.frame=some X.env.locals
 xe:∀e s',wpAny (model X.prog X.w) X.A (leaving X.env e) (λ_ Bu=>fk X.prog X.w X.mg X.outer X.vE X.cX E e Bu) (λe' Bu=>fk X.prog X.w X.mg X.outer X.vE X.cX E e' Bu) s'->X.xe e s'
theorem uP{P:Program}{w:World}{K:Frag}{mg:Str->Option Value}{base:Heap}{N:List Str}{qual:Str}{scope:Scope}{f:Addr}{cd:Value}{A:Around}{outer:List Env}{s:Shared}{H:Hp}{E:XK} : cP (jt (fk P w mg) P w K mg base N qual scope f cd A outer s H E) E:={rfl,rfl,rfl,λ_ _ h=>h}
section
variable{X:Cx}{pins:List (Addr×Obj)}{σ:St}{H H':Hp}{s:Shared}{E E':XK}
theorem cP.mem(L:cP X E):b∈nR X.stack↔b=X.env.locals\/b∈X.fs:=by unfold Cx.fs nR;rw[L.st,List.filterMap_cons,L.fr];exact zj
theorem cP.E6(L:cP X E)(I:Inv X pins σ H s)(e:X.cX.heap.get? b=some o)(h:b∉X.fs):b∉nR X.stack:=λz=>by rcases L.mem.mp z with z|z;have:=zx e;have h2:=I.ok.above;rw[z]at this;exact absurd (zq this h2)<|yy _;exact h z
theorem cP.fly(L:cP X E)(I:Inv X pins σ H s)(F:Yf X.prog X.w X.mg X.stack H H' s.heap a cls a0 B h)(f2:Heap.FlyingW B X.outer a cls a0 h2)(u2:h.UpToSlots h2)(c2:HJ .none a h2\/X.mg "NoMark"= some cls):
  Yf X.prog X.w X.mg X.outer X.vE H' X.cX.heap a cls a0 B h2 where
 cx:=c2
 fl:=f2
 aQ:=F.aQ
 keep:=λb o e n hf=>F.keep b o (I.base.keep b o e n hf<|by rw[L.ex];simp) (I.base.free b o e n<|by rw[L.ex];simp)<|L.E6 I e hf
 there:=λb o e hf=>by
  obtain⟨o',q⟩:=I.base.there b o e<|by rw[L.ex];simp
  exact F.there b o' q<|L.E6 I e hf
 slot:=λb o e hf=>by
  obtain⟨sl,q⟩:=I.base.slot b o e (I.ok.Oc b hf) hf<|by rw[L.ex];simp
  obtain⟨sl1,q1⟩:=F.slot b _ q<|L.mem.mpr<|.inr hf
  obtain⟨_,o2,q2,hd⟩:=F.fl.2.2.1.mem<|L.mem.mpr<|.inr hf
  obtain⟨J1,q3⟩:=u2 b o2 q2 hd
  rw[q1]at q2;cases q2
  exact⟨J1,q3⟩
 free:=λb o e n=>by
  obtain⟨o',q⟩:=I.base.there b o e<|by rw[L.ex];simp
  exact F.free b o' q<|I.base.free b o e n<|by rw[L.ex];simp
 mr:=λb xs e=>F.mr b xs<|I.base.mr b xs e
 lK:=λb o u e=>F.lK b o u<|I.base.lK b o u e
 lL:=λb ps e=>by
  obtain⟨m1,q1⟩:=I.base.lL b ps e
  obtain⟨m2,q2⟩:=F.lL b _ q1
  exact{m1++m2,by rw[q2,Array.append_assoc]}
theorem Tq(L:cP X E)(hE:∀c d H',E' c d H'->E c d H'):Passes (fk X.prog X.w X.mg) X E':=λpins σ H s e s' I h=>by
 obtain⟨a,cls,a0,B,H',rfl,os,bare,F,q⟩:=h;refine L.xe _ _ ?_;have xn:X.A.frames=some (X.env::X.outer):=by rw[I.ok.frames,L.st]
 have fl:Heap.FlyingW B (X.env::X.outer) a cls a0 s'.heap:=by rw[<-L.st];exact F.fl
 rcases F.cx with hc|hc;obtain⟨f1,f2,f3,f4⟩:=fl;exact Pn xn L.fr f1 f2 f3 f4.at hc λh2 f2 u2 c2=>{a,cls,a0,B,H',rfl,os.trans I.os,bare,L.fly I F f2 u2<|.inl c2,hE _ _ _ q};exact wpAny_leaves_onW xn L.fr fl λh2 f2 u2=>{a,cls,a0,B,H',rfl,os.trans I.os,bare,L.fly I F f2 u2<|.inr hc,hE _ _ _ q}
theorem Po(I:Inv X pins σ H s):lJ X.prog X.w H (hideAll s.heap<|nR X.stack):=λa o e=>(I.aQ a o e).pV (λb u hb q=>hideAll_get _ q λz=>by have n:=I.qw b z;rcases hb with rfl|hb;rw[e]at n;cases n;rw[hb]at n;cases n) (λ_ q=>q) λ_ _ q=>q
theorem BH(L:cP X E)(I:Inv X pins σ H s)(hk:∀b o,s.heap.get? b=some o->h'.get? b=some o)(hn:s.heap.get? a=none)(he:h'.get? a=some oe)(hd:oe.data=.fields vs) (h0:vs[0]?=some a0) (h1:vs[1]?=some .none) (h2:vs[2]?=some c) (hc:c=.none\/X.mg "NoMark"= some oe.cls) (hE:E oe.cls none H):X.xe (.ref a) {s with heap:=h'}:=by
 refine L.xe _ _ ?_;have xn:X.A.frames=some (X.env::X.outer):=by rw[I.ok.frames,L.st]
 have Na:∀env∈X.stack,∀b,env.frame=some b->b∈nR X.stack:=λenv he b hb=>List.mem_filterMap.mpr ⟨env,he,hb⟩;have ff:s.heap.FunFrames (hideAll s.heap<|nR X.stack) (X.env::X.outer):=by rw[<-L.st];exact PySem.W.funFrames_hide I.stack Na
 have hb:(hideAll s.heap<|nR X.stack).get? a=none:=by cases z:(hideAll s.heap<|nR X.stack).get? a with|none=>rfl|some o=>have:=of_hideAll _ z;rw[hn]at this;cases this
 refine Ld (base:=hideAll s.heap<|nR X.stack) xn L.fr (λb o q=>hk b o<|of_hideAll _ q) hb (ff.of_keeps λb o q _=>{o,hk b o q,rfl}) he hd h0 h1 h2 λh2 x1 x4 c2=>?_;refine{a,oe.cls,a0,_,H,rfl,I.os,I.bare,{x1,Po I,λb o e n hf=>?_,λb o e hf=>?_,λb o e hf=>?_,λb o e n=>I.base.free b o e n<|by rw[L.ex];simp,I.base.mr,I.base.lK,I.base.lL,?_},hE};exact hideAll_get _ (I.base.keep b o e n hf<|by rw[L.ex];simp)<|L.E6 I e hf;obtain⟨o',q⟩:=I.base.there b o e (by rw[L.ex];simp);exact{o',hideAll_get _ q<|L.E6 I e hf};obtain⟨sl,q⟩:=I.base.slot b o e (I.ok.Oc b hf) hf (by rw[L.ex];simp);obtain⟨_,o2,q2,hd⟩:=I.pW.mem hf;obtain⟨J1,q3⟩:=x4 b o2 (hk _ _ q2) hd;rw[q]at q2;cases q2;exact⟨J1,q3⟩;rcases hc with rfl|hc;exact .inl c2;exact .inr hc
theorem pj(L:cP X E)(I:Inv X pins σ H s)(hx:Heap.MadeExcOf s.heap h' a cls args)(hE:E cls none H):X.xe (.ref a) {s with heap:=h'}:=by obtain⟨t,he,_,_⟩:=hx.there;exact BH L I (λb o q=>hx.keeps b o q) hx.new he rfl rfl rfl rfl (.inl rfl) hE
end
abbrev mD:List Value:=[.type "ValueError",.type "Exception",.type "BaseException",.type "object"]
structure XC(K:Frag)(C:Addr):Prop where
 q:excIn K C mD "ValueError.__new__"= true
def Yg(h:Heap)(C:Addr)(bm:List Value):Prop:=∃N nm q bs hdct sn sub ab col dd k0 k1 k2 k3 k5 mN,h.get? C=some (excClassObj nm q C N bs bm hdct sn sub ab col dd k0 k1 k2 k3 k5 "ValueError.__new__")/\h.Ns N mN/\mN "__init__"= none/\OwnTail h mD bm
theorem XC.at{K:Frag}{C:Addr}{h:Heap}(x:XC K C)(X:K.In h):∃bm,Yg h C bm:=by have q:=x.q;unfold excIn at q;split at q;rename_i dd cd sl ho;split at q;rename_i C' bm' k0 k1 k2 k3 n k5 hm hs;simp only[zL,beq_iff_eq,Bool.not_eq_true']at q;obtain⟨⟨⟨⟨⟨q1,q2⟩,Tr⟩,ht⟩,aQ⟩,Wc⟩:=q;subst q1;subst q2;obtain⟨nm,bs,mro,ns,qn,hd,sn,sub,ab,col,del⟩:=cd;dsimp only at hm Tr aQ Wc;subst hm;subst Tr;obtain⟨sl⟩:=sl;dsimp only at hs;subst hs;exact{bm',ns,nm,qn,bs,hd,sn,sub,ab,col,dd,k0,k1,k2,k3,k5,_,X _ _ ho,.of_isNs<|PySem.W.isNs_of_in X aQ,PySem.W.nsMap_none_of_in X aQ Wc,PySem.W.tail_of_in X ht};cases q;cases q
def Yh(a:Addr)(cls:Value):HO:=.ext λh=>∃o vs,h.get? a=some o/\o.cls=cls/\o.data=.fields vs
abbrev TX:=(St->XK)->TS
noncomputable def Ends.less(D:Ends)(i:Nat):Ends:={nx:=λσ H=>D.nx (σ.set i none) H,rt:=D.rt,bk:=λσ H=>D.bk (σ.set i none) H,ct:=λσ H=>D.ct (σ.set i none) H}
structure XA(K:Frag)(C:Addr):Prop where
 ga:findIn K (.ref C) "__getattribute__"= some (some<|.builtin "BaseException.__getattribute__")
 gh:findIn K (.ref C) "__getattr__"= some none
 cl:findIn K (.ref C) "__class__"= some (some<|.builtin "object.__class__")
section
variable{X:Cx}
theorem Nb(L:cP X E):Passes (fk X.prog X.w X.mg) X E:=Tq L λ_ _ _ h=>h
end
noncomputable def i7(l:List Str):List Str:=l.foldl (λc x=>if x∈c then c else c++[x]) []
theorem xM(l:List Str)(x:Str):i7 (l++[x])=if x∈i7 l then i7 l else i7 l++[x]:=by unfold i7;rw[List.foldl_append];rfl
theorem Le:∀(l:List Str),(i7 l).length<=l.length:=λl=>by
 have all:∀(r c:List Str),(r.foldl (λc x=>if x∈c then c else c++[x]) c).length<=c.length+r.length:=by intro r;induction r with|nil=>intro c;simp|cons x r ih=>intro c;rw[yL];refine zG (ih _) ?_;split<;>simp<;>try lia
 simpa [i7]using all l []
section
variable{prog:Program}{w:World}{A:Around}{R:Result->Shared->Prop}{I:Addr}{fp wr:List Addr}{G:Array GenState->Array GenState->Prop}{n:Nat}{P:Nat->Value->Prop}{St:Nat->Shared->Prop}
theorem HK(W:WalksS prog w A.in1 I fp wr G n P St)(S:Addr)(hSf:S∉fp)(xs:List Str)(hx:xs.length=n)(Pp:∀i v,P i v->∃x t,xs[i]?=some x/\v=.str x t)(hb:n+1<scanBound): ∀(k i:Nat)(s:Shared),i+k=n->St i s->s.heap.SetOf (strKind prog w) S (λy=>decide<|y∈i7 (xs.take i)) (i7<|xs.take i).length->(∀s',Moved (S::wr) G s s'->s'.heap.SetOf (strKind prog w) S (λy=>decide<|y∈i7 xs) (i7 xs).length->R (.ok<|.ret .none) s')->codeAny (model prog w) A (.builtin "set.update.loop" {[.ref S,.ref I],[]}) R s:=by have nw:S∉wr:=λh=>hSf<|W.sub _ h;have up:∀b∈wr,b∈S::wr:=λb hb=>zg _ hb;have mv:∀{i:Nat}{s s':Shared},Moved wr G s s'->s.heap.SetOf (strKind prog w) S (λy=>decide<|y∈i7 (xs.take i)) (i7<|xs.take i).length->s'.heap.SetOf (strKind prog w) S (λy=>decide<|y∈i7 (xs.take i)) (i7<|xs.take i).length:=λhm ⟨o,es,ep,tb,ho,rest⟩=>{o,es,ep,tb,hm.heap S _ nw ho,rest};intro k;induction k with|zero=>intro i s hk xt hS hR;have e:i=n:=(by lia);subst e;refine yM F.entry_set_update_loop ?_;rw[Around.under_plainId F.plain_set_update_loop _];show wpAny _ A.in1 (pyNext (.ref I) >>=_) _ _ s;refine zc<|W.done s _ _ xt λs' hm=>?_;show wpAny _ A.in1 (ret Value.none) _ _ s';have q:=mv hm hS;rw[<-hx,List.take_length]at q;exact zm (hR s' (hm.mono up) q)|succ k ih=>intro i s hk xt hS hR;have lt:i<n:=(by lia);refine yM F.entry_set_update_loop ?_;rw[Around.under_plainId F.plain_set_update_loop _];show wpAny _ A.in1 (pyNext (.ref I) >>=_) _ _ s;refine zc<|W.item i s _ _ lt xt λv s' hP Pq hm=>?_;obtain⟨x,t,ex,rfl⟩:=Pp i v hP;have q:=mv hm hS;show wpAny _ A.in1 (holding [Value.str x t] (setAdd S<|.str x t) >>=_) _ _ s';refine zc<|yE ?_;unfold setAdd;refine yE ?_;refine zc<|(strKind prog w).pyHash (k:=x) (strKind_is _ _ _ _) ?_;have room:(i7<|xs.take i).length+1<scanBound:=(by have:=Le<|xs.take i;rw[zV]at this;lia);refine wpAny_setAddHashed_of (knd:=strKind prog w) (s:={s' with toks:=s'.toks+1}) (strKind_is _ _ _ _) rfl q room λh' Lg q2=>?_;have tk:xs.take (i+1)=xs.take i++[x]:=(by rw[List.take_succ,ex];rfl);have qi:h'.SetOf (strKind prog w) S (λy=>decide<|y∈i7 (xs.take<|i+1)) (i7<|xs.take<|i+1).length:=(by refine SetOf_congr q2 (λy=>?_) ?_;rw[tk,xM];by_cases h:x∈i7 (xs.take i);rw[if_pos h];by_cases hy:y=x;subst hy;simp[h];simp[hy];rw[if_neg h];simp;rw[tk,xM];by_cases h:x∈i7 (xs.take i);rw[if_pos h,if_pos<|by simpa using h];rw[if_neg h,if_neg<|by simpa using h];simp);refine zm {plainId_quiet F.plain_set_update_loop _,ih (i+1) _ (by lia) (W.frame _ s' _ _ Pq (yR _) λb hb o e=>?_) qi λBu Pr Yk=>?_};rw[Lg.2 b (λh:b=S=>hSf<|by rw[<-h];exact hb)];exact e;refine hR Bu (Moved.trans W.gtrans ((hm.mono up).then_heap (yR _) λb o hb e=>?_) Pr) Yk;rw[Lg.2 b (λh:b=S=>hb<|by rw[h];exact zr)];exact e
theorem xN(hh:A.handled=none)(hl:s.heap.IsList l items)(hx:xs.length=items.size) (hi:∀(i:Nat)(v:Value),items[i]?=some v->∃x t,xs[i]?=some x/\v=.str x t) (hb:items.size+1<scanBound) (h:∀(h':Heap)(tk:Nat),h'.SetOf (strKind prog w) s.heap.objs.size (λy=>decide<|y∈i7 xs) (i7 xs).length->(∀b o,b<s.heap.objs.size->s.heap.get? b=some o->h'.get? b=some o)->Q (.ref s.heap.objs.size) {s with heap:=h',toks:=tk}): wpAny (model prog w) A (call (.type "set") [.ref l]) Q E s:=by
 obtain⟨c,tl,m0⟩:=F.called_set.mro;have m1:=F.called_set.made;have m2:=F.called_set.sub;refine wpAny_call<|codeAny_of_tree ?_;show wpAny _ _ (callAny (.type "set") _) _ _ _;refine zm {Code.quiet_builtin _<|by trivial,yM F.entry_type_call ?_};rw[Around.under_plain (weight_type_call_type "set" [.ref l] []) rfl];have m3:=F.called_set.notType;have m4:=F.called_set.canCreate;have m5:=F.typeCall_set_1<|.ref l;repeat (any_goals (first|assumption|wp_step))
 refine yQ (code_set_new_1 (.ref l) (E:=E) (Q₁:=λob s1=>∃led:Bool,ob=.ref s.heap.objs.size/\s1={s with heap:=s.heap.push {cls:=.type "set",dict:=none,data:=.set #[] 0 (.fresh 0 0 led)}}) λled=>⟨led,rfl,rfl⟩) λr s1 hr=>?_
 cases r with
 |error e=>exact hr
 |ok fl =>
  cases fl with
  |ret ob =>
   obtain⟨led,rfl,rfl⟩:=hr;generalize hO:({cls:=.type "set",dict:=none,data:=.set #[] 0 (.fresh 0 0 led)} : Obj)=O;have gS:(s.heap.push O).get? s.heap.objs.size=some O:=zk _ (by rw[<-hO];rfl);have tS:Shared.TypeIs {s with heap:=s.heap.push O} (.ref s.heap.objs.size) "set":={_,gS,by rw[<-hO]};have i1:=F.called_set.init.lookup;have i2:=F.called_set.init.bind<|.ref s.heap.objs.size;(repeat (any_goals (first|assumption|wp_step)));refine yQ (codeAny_call_builtin (R:=wants (λr s2=>r=.none/\∃h' tk,s2={s with heap:=h',toks:=tk}/\h'.SetOf (strKind prog w) s.heap.objs.size (λy=>decide<|y∈i7 xs) (i7 xs).length/\(∀b o,b<s.heap.objs.size->s.heap.get? b=some o->h'.get? b=some o)) E) F.called_set.init.plain F.entry_set_init<|check_set_init_1 tS ?_) λr2 s2 Yl=>?_
   ·obtain⟨ol,gl,cl,nl,dl⟩:=hl;obtain⟨aci,Tu,aaJ,Pt⟩:=ol;simp only at cl dl;subst cl;subst dl;have Tv:(s.heap.push O).get? l=some {cls:=.type "list",dict:=Tu,data:=.seq items nl,slots:=Pt}:=za _ gl;have j1:=F.sub_list_set;have j2:=F.sub_list_frozenset;have j3:(Value.type "list"== Value.type "dict")=false:=(by decide);have il:(s.heap.push O).IsList l items:={_,Tv,rfl,nl,rfl};subst hO;unfold Builtin.«set.__init__» noKeywords Builtin.Frozenset.updateFrom;generalize hPI:pyIter=PI;wp_walk;subst hPI;refine wpAny_pyIter_list il ?_;refine zc<|wpAny_runValue ?_;have ll:l<s.heap.objs.size:=zx gl;have h3:A.in1.in1.in1.handled=none:=(by simp[hh]);have ne:l≠(s.heap.push {cls:=.type "set",dict:=none,data:=.set #[] 0 (.fresh 0 0 led)}).objs.size:=(by rw[zZ];exact zA<|Nat.lt_succ_of_lt ll);have nf:s.heap.objs.size∉[(s.heap.push {cls:=.type "set",dict:=none,data:=.set #[] 0 (.fresh 0 0 led)}).objs.size,l]:=(by rw[zZ];simp only[zj,zE,zI,or_false,not_or];exact{zA<|yH _,ym ll});refine HK ((Walks.list h3 _ l ne items).toS) s.heap.objs.size nf xs hx hi hb (items.size-0) 0 _ (by lia) {{_,zk _ rfl,rfl,rfl},(il.push _)} ?hS0 ?hR
    case hS0 =>
     have gg:=za {cls:=.type "list_iterator",data:=.fields #[.ref l,.int 0 0]} gS
     exact SetOf_congr ((setObjOf_fresh (knd:=strKind prog w) led).setOf gg<|by unfold scanBound;lia) (λ_=>rfl) rfl
    case hR =>
     intro s' hm q
     obtain⟨h',g',d',Rn,SE⟩:=s'
     have eg:g'=s.gens:=hm.gens;have ed:d'=s.drawn:=hm.drawn;have eo:SE=s.os:=hm.os
     subst eg;subst ed;subst eo
     show wpAny _ _ _ _ _ _;refine zm ?_;show wpAny _ _ (ret Value.none) _ _ _
     refine zm {rfl,h',Rn,rfl,q,λb o hb e=>?_}
     have b2:b≠(s.heap.push {cls:=.type "set",dict:=none,data:=.set #[] 0 (.fresh 0 0 led)}).objs.size:=by rw[zZ];exact zA<|Nat.lt_succ_of_lt hb
     refine hm.heap b o ?_<|za _<|za _ e
     simp only[zj,zE,zI,or_false,not_or];exact{zA hb,b2}
   {cases r2 with|error e=>exact Yl|ok f2=>cases f2 with|ret r=>(obtain⟨rfl,h',tk,rfl,q,k'⟩:=Yl;(repeat (any_goals (first|assumption|wp_step)));exact h _ _ q k')|_=>exact Yl.elim}
  |_=>exact hr.elim
end
noncomputable def Pu(P:Program)(w:World)(a:Addr)(xs:List Str):HO:=.ext λh=>h.SetOf (strKind P w) a (λy=>decide<|y∈i7 xs) (i7 xs).length
theorem Lh(q:h.SetOf (strKind P w) a (λy=>decide<|y∈i7 xs) (i7 xs).length):bx P w H h a (Pu P w a xs):=by obtain⟨o,es,ep,t,ho,rest⟩:=id q;exact{q,⟨o,ho⟩,by rintro h1 h2 ⟨o,es,ep,t,ho,rest⟩ k;exact{o,es,ep,t,k _ ho,rest}}
theorem xO:∀{xs:List Str}{az:List Value},Vals (xs.map V.str) az->∀(i:Nat)(v:Value),az[i]?=some v->∃x t,xs[i]?=some x/\v=.str x t|[],_,.nil,i,v,e=>by simp at e|x::xs,_,.cons r rs,0,v,e=>(by obtain⟨t,q⟩:=r;simp at e;exact{x,t,rfl,by rw[<-e];exact q})|x::xs,_,.cons r rs,i+1,v,e=>by obtain⟨y,t,e1,e2⟩:=xO rs i v (by simpa using e);exact{y,t,by simpa using e1,e2}
section
variable{X:Cx}
theorem Fz{P:Program}{w:World}{K:Frag}(hP:X.prog=P)(hw:X.w=w)(hK:X.K=K)(hc:X.calm=true): eU X (.type "set") (λvs H Q=>∃p xs,vs=[.ref p]/\iZ K H p (xs.map V.str)/\xs.length<4000/\∀l,H l=none->Q (.ref l) (upd H l<|Pu P w l xs)):=by
 subst hP;subst hw;subst hK;intro pins s σ H vs us Q I r h;obtain⟨p,xs,rfl,hq,hz,q⟩:=h;obtain⟨u,rfl,rx⟩:=vals1 r;cases rx;obtain⟨az,r',pl,_⟩:=I.list hq;have hlen:xs.length=az.toArray.size:=by have:=r'.length;simpa using this
 refine xN (I.ok.hd hc) pl.isList hlen (λi v e=>xO r' i v<|by simpa using e) (by rw[<-hlen];unfold scanBound;lia) λh' tk qs kp=>?_;refine{.ref s.heap.objs.size,_,I.laid (t':=tk) (λb o e=>kp b o (zx e) e) (zo _)<|Lh qs,rfl,q _<|I.aQ.fresh<|zo _}
theorem FA(hP:X.prog=P)(hw:X.w=w):eU X (.builtin "len") (λvs H Q=>∃a xs,vs=[.ref a]/\H a=some (Pu P w a xs)/\Q (.int (i7 xs).length) H):=by subst hP;subst hw;intro pins s σ H vs us Q I r h;obtain⟨a,xs,rfl,ha,q⟩:=h;obtain⟨u,rfl,rx⟩:=vals1 r;cases rx;obtain⟨⟨o,es,ep,t,ho,hex,hd,Ro,Pw,hb,hf,hn⟩,_⟩:=I.aQ a _ ha;refine call_len_set ho hex hd hf (by unfold scanBound at hb;lia) ?_;exact{.int (i7 xs).length,H,I.tok _,{_,by rw[hn]},q}
end
theorem uQ(l:List Str):(i7 l).length=l.length↔l.Nodup:=by
 have all:∀(r c:List Str),c.Nodup->((r.foldl (λc x=>if x∈c then c else c++[x]) c).length=c.length+r.length↔(c++r).Nodup):=by intro r;induction r with|nil=>intro c hc;simpa using hc|cons x r ih=>intro c hc;rw[yL];by_cases h:x∈c;{rw[if_pos h];have le:(r.foldl (λc x=>if x∈c then c else c++[x]) c).length<=c.length+r.length:=(by have all2:∀(r c:List Str),(r.foldl (λc x=>if x∈c then c else c++[x]) c).length<=c.length+r.length:=(by intro r;induction r with|nil=>intro c;simp|cons x r ih=>intro c;rw[yL];refine zG (ih _) ?_;split<;>simp<;>try lia);exact all2 r c);refine{λe=>by simp at e;lia,λe=>?_};exact absurd rfl<|(List.nodup_append.mp e).2.2 x h x<|by simp};rw[if_neg h];have JZ:(c++[x]).Nodup:=mB hc h;have:=ih (c++[x]) JZ;simp only[zH,zN,List.length_nil,List.append_assoc,List.singleton_append]at this⊢;rw[<-this];constructor<;>intro e<;>lia
 simpa [i7]using all l [] List.nodup_nil
theorem i8:entryFor table "dict.update.loop"= some Builtin.«dict.update.loop»:=entryFor_of_tree<|by kernel_rfl
theorem cS:plainId "dict.update.loop"= true:=by trivial
theorem tV:typeLookup (.type "tuple") "keys"= pure none:=by rw[typeLookup_type,builtinLookup_eq_fast];kernel_rfl
section
variable{prog:Program}{w:World}{A:Around}{E:Value->Shared->Prop}{s:Shared}
theorem tW(hx:s.heap.get? a=some o)(hc:o.cls=.type "tuple")(Tw:o.data=.seq xs k)(hd:o.dict=none)(hA:A.handled=none) (h:∀h' tk,(∀b ob,s.heap.get? b=some ob->h'.get? b=some ob)->Q none {s with heap:=h',toks:=tk}):wpAny (model prog w) A (getAttr? (.ref a) "keys") Q E s:=by
 obtain⟨c,cO,dat,sl⟩:=o;simp only at hc Tw hd;subst hc Tw hd;obtain⟨hp,g,d,tk,os⟩:=s;have hT:∀Rn,(⟨hp,g,d,Rn,os⟩:Shared).TypeIs (.ref a) "tuple":=λ_=>{_,hx,rfl};have f1:=sub_AttributeError;have f3:=F.slot_tuple_getattribute.lookup;have f4:=F.slot_tuple_getattribute.bind<|.ref a;have f5:=am_tuple_getattr_none;unfold getAttr? getAttrBy? getAttrBy;repeat (any_goals (first|assumption|exact hT _|((with_reducible show wpAny _ _ (call (Value.builtin "tuple.__getattribute__") _ _) _ _ _);refine call_meets F.slot_tuple_getattribute (hT _) am_entry_tuple_getattribute (F.args_tuple_getattribute_2 _ _) (meets_getattribute_miss_tuple a xs k sl "keys" _ tV (by trivial)<|by size_fits) {hx,hA,λh' Rn e Tx=>?_})|wp_step))
 obtain⟨t',u',he⟩:=Tx.there;show wpAny _ _ (getattributeRaised _ _ _ _ _ _ _) _ _ _;unfold getattributeRaised;repeat (any_goals (first|assumption|wp_step))
 exact h _ _ Tx.keeps
end
section
variable{prog:Program}{w:World}{A:Around}{R:Result->Shared->Prop}{I:Addr}{fp wr:List Addr}{G:Array GenState->Array GenState->Prop}{n:Nat}{P:Nat->Value->Prop}{St:Nat->Shared->Prop}
theorem FC(W:WalksS prog w A.in1 I fp wr G n P St)(D:Addr)(hDf:D∉fp)(kvs:List<|Key×Value)(hx:kvs.length=n)(base:Heap) (Pp:∀i v,P i v->∃(b:Addr) (k:Key) (key val:Value) (o:Obj) (m:Nat),kvs[i]?=some (k,val)/\v=.ref b/\(aH prog w).is k key=true/\base.get? b=some o/\o.cls=.type "tuple"/\o.data=.seq #[key,val] m/\b≠D/\b∉wr) (hb:n<=sizeLine): ∀(k i:Nat) (s:Shared) (c:Int) (t:Tok),i+k=n->St i s->s.heap.DictOf (aH prog w) D (merged []<|kvs.take i)->(∀b o,base.get? b=some o->b≠D->b∉wr->s.heap.get? b=some o)->(∀s',Moved (D::wr) G s s'->s'.heap.DictOf (aH prog w) D (merged [] kvs)->R (.ok<|.ret .none) s')->codeAny (model prog w) A (.builtin "dict.update.loop" {[.ref D,.ref I,.int c t,.none],[]}) R s:=by have nw:D∉wr:=λh=>hDf<|W.sub _ h;have up:∀b∈wr,b∈D::wr:=λb hb=>zg _ hb;intro k;induction k with|zero=>(intro i s c t hk xt hS hB hR;have e:i=n:=(by lia);subst e;refine yM i8 ?_;rw[Around.under_plainId cS _];show wpAny _ A.in1 (pyNext (.ref I) >>=_) _ _ s;refine zc<|W.done s _ _ xt λs' hm=>?_;show wpAny _ A.in1 (Builtin.Dict.addKeywords D [] >>=_) _ _ s';have q:s'.heap.DictOf (aH prog w) D (merged []<|kvs.take i):=(by obtain⟨o,es,ep,ho,rest⟩:=hS;exact{o,es,ep,hm.heap D _ nw ho,rest});rw[<-hx,List.take_length]at q;exact zc<|zm<|zm<|hR s' (hm.mono up) q)|succ k ih=>intro i s c t hk xt hS hB hR;have lt:i<n:=(by lia);refine yM i8 ?_;rw[Around.under_plainId cS _];show wpAny _ A.in1 (pyNext (.ref I) >>=_) _ _ s;refine zc<|W.item i s _ _ lt xt λv s' hP Pq hm=>?_;obtain⟨b,ky,key,val,o,m,ek,rfl,OO,ho,hc,hd,hbD,hbw⟩:=Pp i v hP;have q:s'.heap.DictOf (aH prog w) D (merged []<|kvs.take i):=(by obtain⟨o,es,ep,ho,rest⟩:=hS;exact{o,es,ep,hm.heap D _ nw ho,rest});have Tz:s'.heap.get? b=some o:=hm.heap b o hbw<|hB b o ho hbD hbw;have room:(merged []<|kvs.take i).length<=sizeLine:=(by have:=merged_length_le ([]:List (Key×Value))<|kvs.take i;rw[zV]at this;simp at this;lia);have tk:merged [] (kvs.take<|i+1)=stored (merged []<|kvs.take i) ky val:=merged_take_succ [] kvs i (ky,val) ek;refine zc<|yE<|zc<|wpAny_tryCatch ?_;unfold Builtin.Dict.pairItems;refine zc<|wpAny_typeOf (T:="tuple") ⟨o,Tz,hc⟩ ?_;show wpAny _ A.in1 (seqItems? (.ref b) >>=_) _ _ s';refine zc<|wpAny_seqItems Tz hd<|zm ?_;show wpAny _ A.in1 (holding [key,val]<|dictSet D key val) _ _ s';refine yE<|wpAny_dictSet_pairs OO q (λh' q2 Lg=>?_) room;rw[<-tk]at q2;refine zm {plainId_quiet cS _,ih (i+1) _ _ _ (by lia) (W.frame _ s' _ _ Pq (yR _) λb hb o e=>?_) q2 (λb o e h1 h2=>?_) λBu Pr Yk=>?_};rw[Lg.2 b (λh:b=D=>hDf<|by rw[<-h];exact hb)];exact e;rw[Lg.2 b h1];exact hm.heap b o h2<|hB b o e h1 h2;refine hR Bu (Moved.trans W.gtrans ((hm.mono up).then_heap (yR _) λb o hb e=>?_) Pr) Yk;rw[Lg.2 b (λh:b=D=>hb<|by rw[h];exact zr)];exact e
theorem tX(hh:A.handled=none)(gl:s.heap.get? l=some ol)(cl:ol.cls=.type "tuple")(dl:ol.data=.seq items m)(nl:ol.dict=none)(hx:kvs.length=items.size) (hi:∀(i:Nat) (v:Value),items[i]?=some v->∃(b:Addr) (k:Key) (key val:Value) (o:Obj) (m:Nat),kvs[i]?=some (k,val)/\v=.ref b/\(aH prog w).is k key=true/\s.heap.get? b=some o/\o.cls=.type "tuple"/\o.data=.seq #[key,val] m) (hb:items.size<=sizeLine) (h:∀(h':Heap) (tk:Nat),h'.DictOf (aH prog w) s.heap.objs.size (merged [] kvs)->(∀b o,s.heap.get? b=some o->h'.get? b=some o)->Q (.ref s.heap.objs.size) {s with heap:=h',toks:=tk}): wpAny (model prog w) A (call (.type "dict") [.ref l]) Q E s:=by
 refine callType_codes (Q₁:=λobj bj=>obj=.ref s.heap.objs.size/\bj={s with heap:=s.heap.push {cls:=.type "dict",data:=.dict #[]}}) F.kt_called_dict (F.kt_typeCall_dict_1 _) F.entry_dict_init (kt_code_dict_new _ ⟨rfl,rfl⟩) ?_;rintro obj bj ⟨rfl,rfl⟩;have Px:(s.heap.push {cls:=.type "dict",data:=.dict #[]}).DictOf (aH prog w) s.heap.objs.size []:=Heap.DictOf.new s.heap;have Tv:(s.heap.push {cls:=.type "dict",data:=.dict #[]}).get? l=some ol:=za _ gl;refine{Px.typeIs,F.args_dict_init_2 _ _,?_};unfold Builtin.«dict.__init__»;refine zc ?_;unfold Builtin.Dict.selfAndRest;refine zc<|wpAny_notOrdered_dict Px.typeIs ?_;show wpAny _ _ (pure (s.heap.objs.size,[Value.ref l])) _ _ _;refine zm ?_;show wpAny _ _ (Builtin.Dict.updateFrom "dict.__init__" s.heap.objs.size (.ref l) [] .none) _ _ _;unfold Builtin.Dict.updateFrom;refine zc<|wpAny_typeOf (T:="tuple") ⟨ol,Tv,cl⟩ ?_;rw[if_pos<|by decide];have h3:A.in1.in1.handled=none:=by simp[hh]
 refine zc<|tW Tv cl dl nl h3 λh1 tk1 Wd=>?_;have g1:h1.get? l=some ol:=Wd _ _ Tv;have d1:h1.DictOf (aH prog w) s.heap.objs.size []:=by obtain⟨o,es,ep,ho,rest⟩:=Px;exact{o,es,ep,Wd _ _ ho,rest}
 have lD:s.heap.objs.size<h1.objs.size:=by obtain⟨o,es,ep,ho,rest⟩:=d1;exact zx ho
 have ll:l<s.heap.objs.size:=zx gl;show wpAny _ _ (rule _ >>=_) _ _ _;refine zc<|wpAny_rule ?_;have it1:h1.IsTuple l items:=⟨ol,g1,cl,m,dl⟩;refine zc<|wpAny_pyIter_tuple (s:=⟨h1,s.gens,s.drawn,tk1,s.os⟩) it1 ?_;have ne:l≠h1.objs.size:=zA<|Nat.lt_trans ll lD;have nf:s.heap.objs.size∉[h1.objs.size,l]:=by simp only[zj,zE,zI,or_false,not_or];exact{zA lD,ym ll}
 refine zm {plainId_quiet cS _,?_};refine FC ((Walks.tuple h3 _ l ne items).toS) s.heap.objs.size nf kvs hx s.heap (λi v e=>?_) hb (items.size-0) 0 _ _ _ (by lia) {{_,zk _ rfl,rfl,rfl},it1.push _} ?hS0 ?hB ?hR;obtain⟨b,k,key,val,o,m',e1,e2,e3,e4,e5,e6⟩:=hi i v e;have lb:=zx e4;exact{b,k,key,val,o,m',e1,e2,e3,e4,e5,e6,zA lb,by simp;exact zA<|Nat.lt_trans lb lD};case hS0=>exact d1.push _
 case hB=>exact λb o e FD Ym=>za _<|Wd _ _<|za _ e
 case hR =>
  intro s' hm q
  obtain⟨h',g',d',Rn,SE⟩:=s'
  have eg:g'=s.gens:=hm.gens;have ed:d'=s.drawn:=hm.drawn;have eo:SE=s.os:=hm.os
  subst eg;subst ed;subst eo
  refine{rfl,h h' Rn q λb o e=>?_}
  have lb:=zx e
  refine hm.heap b o ?_<|za _<|Wd _ _<|za _ e
  simp only[zj,zE,zI,or_false,not_or];exact{zA lb,zA<|Nat.lt_trans lb lD}
end
noncomputable def DN(l:List<|Str×V):List (Key×V):=l.foldl (λc p=>putK c (.inr p.1) p.2) []
def Prs(H:Hp)(ps:List V)(kvs:List<|Str×V):Prop:=kvs.length=ps.length/\∀(i:Nat)(x:V)(p:Str×V),ps[i]?=some x->kvs[i]?=some p->∃b,x=.ref b/\H b=some (.tup [.str p.1,p.2])
section
variable{X:Cx}
theorem BI(hc:X.calm=true):eU X (.type "dict") (λvs H Q=>∃p ps kvs,vs=[.ref p]/\H p=some (.tup ps)/\Prs H ps kvs/\∀l,H l=none->Q (.ref l) (upd H l<|.dK<|DN kvs)):=by
 intro pins s σ H vs us Q I r h;obtain⟨p,ps,kvs,rfl,hp,⟨hl,hq⟩,q⟩:=h;obtain⟨u,rfl,rx⟩:=vals1 r;cases rx;obtain⟨hz,az,rv,ol,gl,cl,nl,m,dl⟩:=(show bx X.prog X.w H s.heap p (.tup ps) from I.aQ p _ hp);have hlen:=rv.length;have each:∀(i:Nat)(x:V)(pr:Str×V),ps[i]?=some x->kvs[i]?=some pr->∃(b:Addr)(key val:Value)(o:Obj)(m:Nat),az[i]?=some (.ref b)/\(aH X.prog X.w).is (.inr pr.1) key=true/\RelV pr.2 val/\s.heap.get? b=some o/\o.cls=.type "tuple"/\o.data=.seq #[key,val] m:=by intro i x pr e1 e2;obtain⟨b,rfl,hb⟩:=hq i x pr e1 e2;obtain⟨u,e3,ru⟩:=rv.get e1;cases ru;obtain⟨_,it2,r2,o,go,co,no,m2,do2⟩:=(show bx X.prog X.w H s.heap b (.tup [.str pr.1,pr.2]) from I.aQ b _ hb);obtain⟨k',v',rfl,⟨tk,rfl⟩,rv'⟩:=r2.two;exact{b,_,v',o,m2,e3,jq _ _ _ _,rv',go,co,by simpa using do2}
 have kv:∃vals:List (Key×Value),KV (kvs.map λp=>((.inr p.1:Key),p.2)) vals/\∀(i:Nat)(x:V),ps[i]?=some x->∃(b:Addr)(k:Key)(key val:Value)(o:Obj)(m:Nat),vals[i]?=some (k,val)/\az[i]?=some (.ref b)/\(aH X.prog X.w).is k key=true/\s.heap.get? b=some o/\o.cls=.type "tuple"/\o.data=.seq #[key,val] m:=by clear hp q rv dl hz;induction kvs generalizing ps az with|nil=>refine{[],.nil,λi x e=>?_};have:ps=[]:=List.eq_nil_of_length_eq_zero (by simpa using hl.symm);subst this;simp at e|cons pr r ih=>cases ps with|nil=>simp at hl|cons y ys=>cases az with|nil=>simp at hlen|cons w0 ws=>obtain⟨b,key,val,o,m,e1,e2,e3,e4,e5,e6⟩:=each 0 y pr rfl rfl;obtain⟨vals,k1,k2⟩:=ih ys (by simpa using hl) (λi x p a b=>hq (i+1) x p (by simpa using a)<|by simpa using b) ws (by simpa using hlen) (λi x p a b=>by simpa using each (i+1) x p (by simpa using a) (by simpa using b));refine{(.inr pr.1,val)::vals,.cons ⟨rfl,e3⟩ k1,λi x e=>?_};cases i with|zero=>exact{b,.inr pr.1,key,val,o,m,rfl,e1,e2,e4,e5,e6}|succ i=>simpa using k2 i x (by simpa using e)
 obtain⟨vals,kv1,kv2⟩:=kv;have lv:vals.length=az.length:=by have:=kv1.length;rw[zb]at this;lia
 refine tX (kvs:=vals) (I.ok.hd hc) gl cl dl nl (by simpa using lv) (λi v e=>?_) (by simp;lia) λh' tk qs kp=>?_;have e':az[i]?=some v:=by simpa using e
 have hi:i<az.length:=(zf.mp e').1;obtain⟨b,k,key,val,o,m',e1,e2,e3,e4,e5,e6⟩:=kv2 i (ps[i]'(by lia))<|zh _;rw[e']at e2;exact{b,k,key,val,o,m',e1,zP e2,e3,e4,e5,e6};have rel:KV (DN kvs) (merged [] vals):=by have all:∀(l:List (Str×V))(vl:List (Key×Value))(c:List (Key×V))(cv:List (Key×Value)),KV (l.map λp=>((.inr p.1:Key),p.2)) vl->KV c cv->KV (l.foldl (λc p=>putK c (.inr p.1) p.2) c) (merged cv vl):=(by intro l;induction l with|nil=>(intro vl c cv h1 h2;cases h1;exact h2)|cons p r ih=>intro vl c cv h1 h2;cases h1 with|@cons _ q _ qs r1 r2=>obtain⟨k,v⟩:=q;obtain⟨rfl,rv⟩:=r1;exact ih qs _ _ r2<|h2.put _ rv);exact all kvs vals [] [] kv1 .nil
 have big:=I.big;refine{.ref s.heap.objs.size,_,I.laid (t':=tk) (λb o e=>kp b o e) (zo _) (o:=.dK<|DN kvs) {?_,?_,_,rel,qs},rfl,q _<|I.aQ.fresh<|zo _};have e1:=rel.length;have e2:=merged_length_le ([]:List (Key×Value)) vals;simp at e2;lia;simp;exact ym big
def TB(K:Frag):R2:=λx y H Q=>∃a b xs ys,x=.ref a/\y=.ref b/\gT K H a xs/\gT K H b ys/\xs.length+ys.length<=sizeLine/\(xs=[]->Q (.ref b) H)/\(xs≠[]->ys=[]->Q (.ref a) H)/\(xs≠[]->ys≠[]->∀p,H p=none->Q (.ref p) (upd H p<|.tup<|xs++ys))
theorem Li:gy X (binaryOp .Add) (TB X.K):=by intro pins s σ H x y v u Q I rx ry h;obtain⟨a,b,xs,ys,rfl,rfl,ha,hb,hz,q0,q1,q2⟩:=h;by_cases hx:xs=[];cases rx;cases ry;obtain⟨az,r1,p1,_⟩:=I.tuple ha;obtain⟨p5,r2,p2,_⟩:=I.tuple hb;obtain⟨⟨cls,dd,data,sl⟩,ho,hc,n,hd⟩:=id p1;obtain⟨⟨XH,OV,data2,J1⟩,KN,KO,n2,hd2⟩:=id p2;simp only at hc hd KO hd2;subst hc hd KO hd2;have e:az=[]:=r1.qC.mpr hx;exact concat_meets {_,ho,rfl} {_,KN,rfl} noFill_tuple_add seq_tuple_add PySem.F.slot_tuple_add PySem.F.entry_tuple_add (PySem.F.args_tuple_add_2 _ _) (tuple_addW0 a b az.toArray p5.toArray n n2 dd OV sl J1<|by simp[e]) {ho,KN,.ref b,H,I,rfl,q0 hx};exact KU pins s σ H _ _ v u Q I rx ry {a,b,xs,ys,rfl,rfl,ha,hb,hx,hz,q1 hx,q2 hx}
theorem Yn(h:n<=1000):n<=sizeLine:=yK<|ke h
end
abbrev mE(h:Heap)(T:Addr)(arr:Array Value):Prop:=h.get? T=some {cls:=.type "tuple",data:=.seq arr}
theorem vQ(hs:Heap.ExtBut b h h')(n:a≠b)(x:h.IsTupleIter a l i):h'.IsTupleIter a l i:=x.extBut hs n
theorem Nc{h h':Heap}{a l:Addr}{i:Nat}(k:∀o,h.get? a=some o->h'.get? a=some o)(x:h.IsTupleIter a l i):h'.IsTupleIter a l i:=by obtain⟨o,e,r⟩:=x;exact{o,k o e,r}
section
variable{prog:Program}{w:World}{A:Around}{E:Value->Shared->Prop}{s:Shared}
theorem Yo(h:n<=3):n<=sizeLine:=Yn<|zG h<|by decide
theorem FE(hT:mE s.heap T arr)(hz:arr.size<=3)(h:∀h',mE h' T (arr.setIfInBounds k x)->Heap.SameBut T s.heap h'->Q () {s with heap:=h'}):wpAny (model prog w) A (updateSeq T (·.setIfInBounds k x)) Q E s:=by refine wpAny_updateSeq hT rfl (h _ ?_<|yz ..) (hz:=Yo hz) (_hz':=by have:=Yo hz;simp;lia);show Heap.get? _ _=_;rw[yt _ hT rfl];simp[Obj.mapSeq]
theorem BJ(hit:s.heap.IsTupleIter it l i)(hl:s.heap.IsTuple l items)(hx:items[i]?=some x)(hQ:∀h',h'.IsTupleIter it l (i+1)->Heap.SameBut it s.heap h'->Q x {s with heap:=h'}): wpAny (model prog w) A (Builtin.SmallTypes.nextOf<|.ref it) Q E s:=by obtain⟨o,ho,hc,hd⟩:=id hit;obtain⟨ol,TC,_,nl,Yp⟩:=hl;unfold Builtin.SmallTypes.nextOf;refine zc<|wpAny_callSpecial?_slot (name:=Str.ofString "__next__") hit.typeIs F.slot_tuple_iterator_next<|yD F.slot_tuple_iterator_next hit.typeIs F.entry_tuple_iterator_next ?_<|F.args_tuple_iterator_next_1 _;show wpAny _ _ (field (.ref it) 0 >>=_) _ _ s;refine zc<|zU ho hd (x:=.ref l) rfl ?_;show wpAny _ _ (if (Value.ref l==Value.none)=true then _ else _) _ _ s;rw[if_neg<|show ¬((Value.ref l==Value.none)=true) from zd];show wpAny _ _ (field (.ref it) 1 >>=_) _ _ s;refine zc<|zU ho hd (x:=.int i 0) rfl ?_;show wpAny _ _ (seqItems? (.ref l) >>=_) _ _ s;refine zc<|wpAny_seqItems TC Yp ?_;simp only[Int.toNat_natCast,hx];refine zc<|yP ho hd (by simp)<|zm {x,rfl,zm<|hQ _ {_,yt _ ho<|Obj.isFreed_of_fields<|yx hd _,(Obj.cls_mapFields ..).trans hc,by rw[yx hd];simp[rawInt]}<|yz ..}
theorem rJ(hh:A.handled=none)(hit:s.heap.IsTupleIter it l i)(hl:s.heap.IsTuple l items)(hx:items[i]?=none) (hE:∀h' e,Heap.ExtBut it s.heap h'->(∃o,h'.get? e=some o/\o.cls=.type "StopIteration")->E (.ref e) {s with heap:=h'}):wpAny (model prog w) A (Builtin.SmallTypes.nextOf<|.ref it) Q E s:=by
 obtain⟨o,ho,hc,hd⟩:=id hit;obtain⟨ol,TC,_,nl,Yp⟩:=hl;unfold Builtin.SmallTypes.nextOf;refine zc<|wpAny_callSpecial?_slot (name:=Str.ofString "__next__") hit.typeIs F.slot_tuple_iterator_next<|yD F.slot_tuple_iterator_next hit.typeIs F.entry_tuple_iterator_next ?_<|F.args_tuple_iterator_next_1 _;show wpAny _ _ (field (.ref it) 0 >>=_) _ _ s;refine zc<|zU ho hd (x:=.ref l) rfl ?_;show wpAny _ _ (if (Value.ref l==Value.none)=true then _ else _) _ _ s;rw[if_neg<|show ¬((Value.ref l==Value.none)=true) from zd];show wpAny _ _ (field (.ref it) 1 >>=_) _ _ s;refine zc<|zU ho hd (x:=.int i 0) rfl ?_;show wpAny _ _ (seqItems? (.ref l) >>=_) _ _ s;refine zc<|wpAny_seqItems TC Yp ?_;simp only[Int.toNat_natCast,hx];refine zc<|wpAny_rule<|zc<|yP ho hd (by simp) ?_;show wpAny _ _ (newExc (.type "StopIteration") [] >>=_) _ _ _;refine zc ?_;simp only[newExc,newTuple];refine zc<|yi ?_ (by size_fits);refine zc (m:=firstArgMember _ _)<|yS (a:=Value.none) (by first|rfl|(simp only[firstArgMember];rfl)) ?_;refine yi ?_ (by size_fits);simp only[raiseNew];refine zc<|wpAny_handled ?_;first|rw[show A.in1.handled=none from hh]|rw[hh]
 refine zc<|zm<|wpAny_throw<|hE _ _ (((yz ..).extBut.push _).push _) {_,zk _ rfl,rfl}
end
def ZS2(n l0 l1:Nat)(i:Nat)(h:Heap):Prop:=IsZip h (n+4) (n+2) (n+3) .none/\mE h (n+2) #[.ref n,.ref<|n+1]/\(∃arr:Array Value,arr.size=2/\mE h (n+3) arr)/\h.IsTupleIter n l0 i/\h.IsTupleIter (n+1) l1 i
section
variable{X:Cx}{pins:List (Addr×Obj)}{σ:St}{H:Hp}{s:Shared}{h':Heap}
theorem Inv.DP(I:Inv X pins σ H s)(wr:List Addr)(hw:∀b∈wr,q8 X pins H b)(k:∀b o,b∉wr->s.heap.get? b=some o->h'.get? b=some o):Inv X pins σ H {s with heap:=h',toks:=t'}:=by refine I.step (g':=s.gens) (d':=s.drawn) (ch:=wr) (λb hb=>by obtain⟨_,a,_,c,d,e⟩:=hw b hb;exact⟨c,a,d,e⟩) (λb o _ _ hc e _=>k b o hc e) (λb o _ _ hc e _=>{o.slots,k b o hc e}) (λ_ _ _ _ n=>n) (λb o hc e=>{o,k b o hc e}) (λ_ _ e=>e) (λ_ _ _ e=>e) (λb ps e=>{#[],by rw[e];simp}) (λm hm=>?_) (λb u e=>?_) I.bare;obtain⟨o,es,ep,ho,r⟩:=hm;exact{o,es,ep,k _ o (λz=>(hw _ z).2.1 rfl) ho,r};refine(I.aQ b u e).pV (λc v hc q=>k c v (λz=>?_) q) (λ_ q=>q) λ_ _ q=>q;have n:=(hw c z).1;rcases hc with rfl|hc;rw[n]at e;cases e;rw[n]at hc;cases hc
theorem Inv.DQ(I:Inv X pins σ H s)(wr:List Addr)(hw:∀b∈wr,q8 X pins H b)(k:∀b o,b∉wr->s.heap.get? b=some o->h'.get? b=some o)(hT:s.heap.get? T=none)(new:bx X.prog X.w (upd H T o) h' T o): Inv X pins σ (upd H T o) {s with heap:=h',toks:=t'}:=by
 have fr:H T=none:=by cases q:H T with|none=>rfl|some u=>obtain⟨z,e⟩:=(I.aQ T u q).get;rw[hT]at e;cases e
 have ne:∀b u,H b=some u->b≠T:=λb u e z=>by rw[z,fr]at e;cases e
 refine I.step (g':=s.gens) (d':=s.drawn) (ch:=wr) (λb hb=>by obtain⟨_,a,_,c,d,e⟩:=hw b hb;exact⟨c,a,d,e⟩) (λb o _ _ hc e _=>k b o hc e) (λb o _ _ hc e _=>{o.slots,k b o hc e}) (λb ob _ e n=>?_) (λb o hc e=>{o,k b o hc e}) (λb xs e=>by rw[ax<|ne b _ e];exact e) (λb ob u e=>by rw[ax<|ne b _ e];exact e) (λb ps e=>{#[],by rw[ax<|ne b _ e,e];simp}) (λm hm=>?_) (λb u e=>?_) I.bare;have:b≠T:=λz=>by rw[z,hT]at e;cases e
 rw[ax this];exact n;obtain⟨o,es,ep,ho,r⟩:=hm;exact{o,es,ep,k _ o (λz=>(hw _ z).2.1 rfl) ho,r};by_cases hb:b=T;subst hb;rw[aE]at e;cases e;exact new;rw[ax hb]at e;refine(I.aQ b u e).pV (λc v hc q=>k c v (λz=>?_) q) (λc q=>by rw[ax<|ne c _ q];exact q) λc xs q=>by rw[ax<|ne c _ q];exact q
 have n:=(hw c z).1;rcases hc with rfl|hc;rw[n]at e;cases e;rw[n]at hc;cases hc
end
noncomputable abbrev Lj(h:Heap)(l0:Addr):Heap:=(h).push {cls:=.type "tuple_iterator",data:=.fields #[.ref l0,.int 0 0]}
noncomputable abbrev Lk(h:Heap)(l0 l1:Addr):Heap:=(Lj h l0).push {cls:=.type "tuple_iterator",data:=.fields #[.ref l1,.int 0 0]}
noncomputable abbrev Ll(h:Heap)(l0 l1:Addr):Heap:=(Lk h l0 l1).push {cls:=.type "tuple",data:=.seq #[.ref h.objs.size,.ref (Lj h l0).objs.size]}
noncomputable abbrev Ln(h:Heap)(l0 l1:Addr):Heap:=(Ll h l0 l1).push {cls:=.type "tuple",data:=.seq #[.none,.none]}
noncomputable abbrev BM(h:Heap)(l0 l1:Addr):Heap:=(Ln h l0 l1).push {cls:=.type "zip",data:=.fields #[.none,.bool false,.bool false,.ref (Lk h l0 l1).objs.size,.ref (Ll h l0 l1).objs.size]}
theorem BN(l0 l1:Addr)(BK BL:Array Value):Meets (Builtin.«zip.__new__» {[.type "zip",.ref l0,.ref l1],[]}) (λ_ R s=>s.heap.IsTuple l0 BK/\s.heap.IsTuple l1 BL/\R (.ok<|.ret<|.ref (Ln s.heap l0 l1).objs.size) {s with heap:=BM s.heap l0 l1}):=.of_wp λprog w A R s h=>by obtain⟨hp,g,d,tk,os⟩:=s;obtain⟨t0,t1,h⟩:=h;have Yq:=sub_zip;have L0:Heap.IsTuple (Shared.heap ⟨hp,g,d,tk,os⟩) l0 BK:=t0;have L1:Heap.IsTuple (Shared.heap {hp.push {cls:=.type "tuple_iterator",data:=.fields #[.ref l0,.int 0 0]},g,d,tk,os}) l1 BL:=Heap.IsTuple.push (t1) _;wp_walk using wpAny_pyIter_tuple L0,wpAny_pyIter_tuple L1;exact{_,rfl,h}
theorem BO(t0:s.heap.IsTuple l0 BK)(t1:s.heap.IsTuple l1 BL) (h:∀h',ZS2 s.heap.objs.size l0 l1 0 h'->(∀c o,s.heap.get? c=some o->h'.get? c=some o)->Q (.ref<|s.heap.objs.size+4) {s with heap:=h'}):wpAny (model prog w) A (call (.type "zip") [.ref l0,.ref l1]) Q E s:=by
 refine callType_new F.called_zip (by decide) (F.typeCall_zip_2 _ _) (F.newCall_zip_2 _ _) (λobj=>F.args_object_init_3 obj _ _) F.entry_zip_new (BN l0 l1 BK BL) {t0,t1,?_};have z1:(Lj s.heap l0).objs.size=s.heap.objs.size+1:=zZ ..;have z2:(Lk s.heap l0 l1).objs.size=s.heap.objs.size+2:=by rw[zZ,z1]
 have z3:(Ll s.heap l0 l1).objs.size=s.heap.objs.size+3:=by rw[zZ,z2]
 have z4:(Ln s.heap l0 l1).objs.size=s.heap.objs.size+4:=by rw[zZ,z3]
 have z5:(BM s.heap l0 l1).objs.size=s.heap.objs.size+5:=by rw[zZ,z4]
 have g0:(BM s.heap l0 l1).get? (s.heap).objs.size=some _:=za _<|za _<|za _<|za _<|zk _ rfl;have g1:(BM s.heap l0 l1).get? (Lj s.heap l0).objs.size=some _:=za _<|za _<|za _<|zk _ rfl;have g2:(BM s.heap l0 l1).get? (Lk s.heap l0 l1).objs.size=some _:=za _<|za _<|zk _ rfl;have g3:(BM s.heap l0 l1).get? (Ll s.heap l0 l1).objs.size=some _:=za _<|zk _ rfl;have g4:(BM s.heap l0 l1).get? (Ln s.heap l0 l1).objs.size=some _:=zk _ rfl;show _/\_;rw[z2,z3,z4]at g4;rw[z3]at g3;rw[z1,z2]at g2;rw[z1]at g1;rw[z4];exact{{_,g4,rfl},h _ {g4,g2,!⟨g3⟩,{_,g0,rfl,rfl},{_,g1,rfl,rfl}} λc o x=>za _<|za _<|za _<|za _<|za _ x}
def Lo(K:Frag):V->List V->Hp->VK->Prop:=λx vs H Q=>∃(a:Addr)(xs:List V)(y z:V)(j:Nat),x=.ref a/\vs=[y]/\iZ K H a xs/\gW y=true/\xs.all gW=true/\xs[j]?=some z/\eqV z y=true/\(∀m u,m<j->xs[m]?=some u->eqV u y=false)/\Q (.int j) H
theorem FF:Ri X "list.index" (Lo X.K):=by
 intro pins s σ H x vs v us Q I rx rv h;obtain⟨a,xs,y,z,j,rfl,rfl,hq,fy,fx,hj,hit,XI,q⟩:=h;cases rx;obtain⟨u,rfl,ru⟩:=rv.one;obtain⟨az,r,p,hz⟩:=I.list hq;obtain⟨⟨cls,dd,data,sl⟩,ho,hc,n,hd⟩:=p.isList;simp only at hc hd;subst hc hd;have hl:=r.length;have eN:j<xs.length:=(zf.mp hj).1;have fl:∀(m:Nat)(w:V),xs[m]?=some w->gW w=true:=λm w e=>yc.mp fx w<|zK e;have at':∀(m:Nat)(hm:m<az.toArray.size)(w:V),xs[m]?=some w->xC y az.toArray[m]=eqV w y:=λm hm w e=>by obtain⟨u',e',ru'⟩:=r.get e;have:az.toArray[m]=u':=(by have:=zf.mp e';simpa using this.2);rw[this];exact Bw ru'<|fl m w e
 have hs:sizeLine=16777216:=zX;refine call_meets PySem.F.slot_list_index {_,ho,rfl} PySem.F.entry_list_index (PySem.F.args_list_index_2 _ _) (SeqAt.list_indexAt a az.toArray n dd sl u (xC y) j (by simp;lia) (by lia) ?_ ?_) {ho,λw hw=>gX ru fy r fx w<|by simpa using hw,{.int j,H,I.tok _,{_,rfl},q}};rw[at' j _ z hj];exact hit;intro m hm hmj;have hmx:m<xs.length:=by lia
 rw[at' m hm _<|zh hmx];exact XI m _ hmj<|zh hmx
def TF:R2:=λx y H Q=>∃z n,x=.str z/\y=.int n/\MulOk z n/\Q (.str<|PySem.Txt.mul z n) H
theorem BP:gy X (binaryOp .Mult) TF:=by intro pins s σ H x y v u Q I rx ry h;obtain⟨z,n,rfl,rfl,hm,q⟩:=h;obtain⟨t,rfl⟩:=rx;obtain⟨t',rfl⟩:=ry;exact SB.mul hm λt'' k=>{.str _,H,I.tok k,{_,rfl},q}
def HL(w:World)(K:Frag)(a:Addr)(kvs:List<|Str×V):Prop:=(a==sysModules)=false/\∃(o:Obj)(es:Array DictEntry)(ep:Nat),K.lookup a=some o/\o.ExactDict/\o.data=.dict es ep/\Paired (λ(e:DictEntry)(kv:Str×V)=>e.hash=hashStr w kv.1/\(∃t,e.key=.str kv.1 t)/\RelV kv.2 e.val) es.toList kvs/\(kvs.map Prod.fst).Nodup
theorem rK(z:Str):∀kvs:List (Str×V),fO (kvs.map λp=>((.inr p.1:Key),p.2)) (.inr z)=kvs.lookup z
 |[]=>rfl
 | (x,v)::r=>by
  rw[zy,yb];by_cases e:z=x;subst e;rw[rn rfl];simp;have e1:(z==x)=false:=by simpa using e
  rw[rq λq=>e (yJ q).symm,e1];exact rK z r
section
variable{X:Cx}{pins:List (Addr×Obj)}{σ:St}{H:Hp}{s:Shared}{a:Addr}{kvs:List (Str×V)}
theorem BQ(I:Inv X pins σ H s)(d:HL X.w X.K a kvs):(a==sysModules)=false/\∃vs,KV (kvs.map λp=>((.inr p.1:Key),p.2)) vs/\s.heap.DictOf (aH X.prog X.w) a vs:=by
 obtain⟨ns,o,es,ep,hk,hx,hd,hp,hn⟩:=d;have all:∀(es:List DictEntry)(kvs:List (Str×V)),Paired (λ(e:DictEntry)(kv:Str×V)=>e.hash=hashStr X.w kv.1/\(∃t,e.key=.str kv.1 t)/\RelV kv.2 e.val) es kvs->∃vs:List (Key×Value),KV (kvs.map λp=>((.inr p.1:Key),p.2)) vs/\Pairs (aH X.prog X.w) es vs/\vs.map (·.1)=kvs.map (λp=>(.inr p.1:Key))/\∀e∈es,∃k,(aH X.prog X.w).is k e.key=true/\e.hash=(aH X.prog X.w).hash k:=by intro es kvs hp;induction hp with|nil=>exact{[],.nil,.nil,rfl,by simp}|@cons e kv VZ kvs' h t ih=>obtain⟨vs,k1,k2,k3,k4⟩:=ih;obtain⟨h1,⟨tk,h2⟩,h3⟩:=h;have hi:(aH X.prog X.w).is (.inr kv.1) e.key=true:=(by rw[h2];exact jq _ _ _ _);refine{(.inr kv.1,e.val)::vs,.cons ⟨rfl,h3⟩ k1,.cons hi rfl k2,by rw[zy,zy,k3],λe' he=>?_};rcases zj.mp he with rfl|he;exact{.inr kv.1,hi,h1};exact k4 e' he
 obtain⟨vs,k1,k2,k3,k4⟩:=all _ _ hp;refine{ns,vs,k1,o,es,ep,I.oY a o hk,hx,hd,λe he=>k4 e<|by simpa using he,k2,?_};rw[k3];have:(kvs.map λp=>(.inr p.1:Key))=(kvs.map Prod.fst).map Sum.inr:=by rw[zt];rfl
 rw[this];exact List.Pairwise.map _ (λx y h q=>h<|yJ q) hn
theorem HM{w:World}{K:Frag}(hw:X.w=w)(hK:X.K=K):gy X (compareOp .In) (λx y H Q=>∃z a kvs,x=.str z/\y=.ref a/\HL w K a kvs/\Q (.bl (kvs.lookup z).isSome) H):=by subst hw hK;intro pins s σ H x y v u Q I rx ry h;obtain⟨z,a,kvs,rfl,rfl,d,q⟩:=h;cases ry;obtain⟨ns,vs,rel,dd⟩:=BQ I d;refine wpAny_in_of (jv (k:=.inr z) rx) ns dd.mapOf ?_;rw[<-(rel.val<|.inr z).gY,rK];exact{.bl _,H,I.tok _,rfl,q}
def TH(w:World)(K:Frag):V->List V->Hp->VK->Prop:=λx vs H Q=>∃a z kvs,x=.ref a/\vs=[.str z]/\HL w K a kvs/\Q ((kvs.lookup z).getD .av) H
theorem Lp{w:World}{K:Frag}(hw:X.w=w)(hK:X.K=K):Ri X "dict.get" (TH w K):=by subst hw hK;intro pins s σ H x vs v us Q I rx rv h;obtain⟨a,z,kvs,rfl,rfl,d,q⟩:=h;cases rx;obtain⟨u,rfl,ru⟩:=rv.one;obtain⟨ns,vs,rel,dd⟩:=BQ I d;refine call_meetsIn yu dd.typeIs PySem.F.entry_dict_get (PySem.F.args_dict_get_2 _ _) (meets_dict_get (aH X.prog X.w) a (jv (k:=.inr z) ru) ns) {_,dd.mapOf,_,H,I.tok _,?_,q};rw[<-rK];exact(rel.val<|.inr z).getD rfl
theorem HN{w:World}{K:Frag}{o e:Expr}{apos aT:Pos}{td ty:TE}(hw:X.w=w)(hK:X.K=K)(ho:PE X o td)(he:PE X e ty)(m:M1 X o "get" apos e aT):PE X (.Call (.Attribute o "get" apos) [e] [] aT) (λσ H Q=>td σ H λx H1=>∃a kvs,x=.ref a/\HL w K a kvs/\ty σ H1 λy H2=>∃z,y=.str z/\Q ((kvs.lookup z).getD .av) H2):=by subst hw hK;intro pins s σ H Q I h;refine wpAny_Call_method m.base m.G0 m.line PySem.F.plainAttrs_dict yu PySem.F.type_dict_get<|bz (ho pins s σ H _ I h) λu s1 ⟨x,H1,I1,rx,a,kvs,ex,d,q1⟩=>?_;subst ex;obtain rfl:u=Value.ref a:=rx;obtain⟨ns,vs,rel,dd⟩:=BQ I1 d;obtain⟨ob,_,_,h1,h2,_⟩:=id dd;refine{dd.typeIs,λb q=>by cases q;exact⟨ob,h1,h2.2.1⟩,?_};rw[m.trees];refine Calls.callWith_builtin rfl<|Calls.evalArgs_plain<|yB<|bz (he pins s1 σ H1 _ I1 q1) λiv s2 ⟨y,H2,I2,ry,z,ey,q2⟩=>Calls.spliced_nil ?_;subst ey;exact Lp rfl rfl pins s2 σ H2 (.ref a) [.str z] _ [iv] Q I2 rfl (.cons ry .nil) ⟨a,z,kvs,rfl,rfl,d,q2⟩
end
theorem HP:bootBuiltins "min"= some (.builtin "min"):=by trivial
def ZS3(n l0 l1 l2:Nat)(i:Nat)(h:Heap):Prop:=IsZip h (n+5) (n+3) (n+4) .none/\mE h (n+3) #[.ref n,.ref<|n+1,.ref<|n+2]/\(∃arr:Array Value,arr.size=3/\mE h (n+4) arr)/\h.IsTupleIter n l0 i/\h.IsTupleIter (n+1) l1 i/\h.IsTupleIter (n+2) l2 i
noncomputable abbrev Lq(h:Heap)(l0:Addr):Heap:=(h).push {cls:=.type "tuple_iterator",data:=.fields #[.ref l0,.int 0 0]}
noncomputable abbrev Ls(h:Heap)(l0 l1:Addr):Heap:=(Lq h l0).push {cls:=.type "tuple_iterator",data:=.fields #[.ref l1,.int 0 0]}
noncomputable abbrev Lu(h:Heap)(l0 l1 l2:Addr):Heap:=(Ls h l0 l1).push {cls:=.type "tuple_iterator",data:=.fields #[.ref l2,.int 0 0]}
noncomputable abbrev Lv(h:Heap)(l0 l1 l2:Addr):Heap:=(Lu h l0 l1 l2).push {cls:=.type "tuple",data:=.seq #[.ref h.objs.size,.ref (Lq h l0).objs.size,.ref (Ls h l0 l1).objs.size]}
noncomputable abbrev Lx(h:Heap)(l0 l1 l2:Addr):Heap:=(Lv h l0 l1 l2).push {cls:=.type "tuple",data:=.seq #[.none,.none,.none]}
noncomputable abbrev xP(h:Heap)(l0 l1 l2:Addr):Heap:=(Lx h l0 l1 l2).push {cls:=.type "zip",data:=.fields #[.none,.bool false,.bool false,.ref (Lu h l0 l1 l2).objs.size,.ref (Lv h l0 l1 l2).objs.size]}
theorem BR(l0 l1 l2:Addr)(BK BL Rp:Array Value):Meets (Builtin.«zip.__new__» {[.type "zip",.ref l0,.ref l1,.ref l2],[]}) (λ_ R s=>s.heap.IsTuple l0 BK/\s.heap.IsTuple l1 BL/\s.heap.IsTuple l2 Rp/\R (.ok<|.ret<|.ref (Lx s.heap l0 l1 l2).objs.size) {s with heap:=xP s.heap l0 l1 l2}):=.of_wp λprog w A R s h=>by obtain⟨hp,g,d,tk,os⟩:=s;obtain⟨t0,t1,t2,h⟩:=h;have Yq:=sub_zip;have L0:Heap.IsTuple (Shared.heap ⟨hp,g,d,tk,os⟩) l0 BK:=t0;have L1:Heap.IsTuple (Shared.heap {hp.push {cls:=.type "tuple_iterator",data:=.fields #[.ref l0,.int 0 0]},g,d,tk,os}) l1 BL:=Heap.IsTuple.push (t1) _;have L2:Heap.IsTuple (Shared.heap {(hp.push {cls:=.type "tuple_iterator",data:=.fields #[.ref l0,.int 0 0]}).push {cls:=.type "tuple_iterator",data:=.fields #[.ref l1,.int 0 0]},g,d,tk,os}) l2 Rp:=Heap.IsTuple.push (Heap.IsTuple.push (t2) _) _;wp_walk using wpAny_pyIter_tuple L0,wpAny_pyIter_tuple L1,wpAny_pyIter_tuple L2;exact{_,rfl,h}
theorem BS(a0 a1 a2:Value):checkTypeCall "zip" {[a0,a1,a2],[]}=pure ():=by kernel_rfl
theorem BU(a0 a1 a2:Value):checkBuiltinCall "zip.__new__" {[.type "zip",a0,a1,a2],[]}=pure ():=by kernel_rfl
theorem Py(x a0 a1 a2:Value):argsOk "object.__init__" {[x,a0,a1,a2],[]}:=by unfold argsOk;rw[signature?_of (id:="object.__init__") (n:=['_','_','t','i','n','i','_','_']) (o:=['t','c','e','j','b','o']) (by kernel_rfl) F.owner_object];kernel_rfl
theorem BV(t0:s.heap.IsTuple l0 BK)(t1:s.heap.IsTuple l1 BL)(t2:s.heap.IsTuple l2 Rp) (h:∀h',ZS3 s.heap.objs.size l0 l1 l2 0 h'->(∀c o,s.heap.get? c=some o->h'.get? c=some o)->Q (.ref<|s.heap.objs.size+5) {s with heap:=h'}):wpAny (model prog w) A (call (.type "zip") [.ref l0,.ref l1,.ref l2]) Q E s:=by
 refine callType_new F.called_zip (by decide) (BS _ _ _) (BU _ _ _) (λobj=>Py obj _ _ _) F.entry_zip_new (BR l0 l1 l2 BK BL Rp) {t0,t1,t2,?_};have z1:(Lq s.heap l0).objs.size=s.heap.objs.size+1:=zZ ..;have z2:(Ls s.heap l0 l1).objs.size=s.heap.objs.size+2:=by rw[zZ,z1]
 have z3:(Lu s.heap l0 l1 l2).objs.size=s.heap.objs.size+3:=by rw[zZ,z2]
 have z4:(Lv s.heap l0 l1 l2).objs.size=s.heap.objs.size+4:=by rw[zZ,z3]
 have z5:(Lx s.heap l0 l1 l2).objs.size=s.heap.objs.size+5:=by rw[zZ,z4]
 have z6:(xP s.heap l0 l1 l2).objs.size=s.heap.objs.size+6:=by rw[zZ,z5]
 have g0:(xP s.heap l0 l1 l2).get? (s.heap).objs.size=some _:=za _<|za _<|za _<|za _<|za _<|zk _ rfl;have g1:(xP s.heap l0 l1 l2).get? (Lq s.heap l0).objs.size=some _:=za _<|za _<|za _<|za _<|zk _ rfl;have g2:(xP s.heap l0 l1 l2).get? (Ls s.heap l0 l1).objs.size=some _:=za _<|za _<|za _<|zk _ rfl;have g3:(xP s.heap l0 l1 l2).get? (Lu s.heap l0 l1 l2).objs.size=some _:=za _<|za _<|zk _ rfl;have g4:(xP s.heap l0 l1 l2).get? (Lv s.heap l0 l1 l2).objs.size=some _:=za _<|zk _ rfl;have g5:(xP s.heap l0 l1 l2).get? (Lx s.heap l0 l1 l2).objs.size=some _:=zk _ rfl;show _/\_;rw[z3,z4,z5]at g5;rw[z4]at g4;rw[z1,z2,z3]at g3;rw[z1]at g1;rw[z2]at g2;rw[z5];exact{{_,g5,rfl},h _ {g5,g3,!⟨g4⟩,{_,g0,rfl,rfl},{_,g1,rfl,rfl},{_,g2,rfl,rfl}} λc o x=>za _<|za _<|za _<|za _<|za _<|za _ x}
theorem Vals.three(h:Vals [x,y,z] us):∃u v w,us=[u,v,w]/\RelV x u/\RelV y v/\RelV z w:=by cases h with|cons r h=>cases h with|cons q h=>cases h with|cons p h=>cases h;exact{_,_,_,rfl,r,q,p}
section
variable{X:Cx}
def Lz:V->List V->Hp->VK->Prop:=λx vs H Q=>∃z y,x=.str z/\vs=[.str y]/\Q (.bl<|PySem.Txt.startswith z y) H
theorem tY:Ri X "str.startswith" Lz:=by intro pins s σ H x vs v us Q I rx rv h;obtain⟨z,y,rfl,rfl,q⟩:=h;obtain⟨t,rfl⟩:=rx;obtain⟨u,rfl,ru⟩:=rv.one;obtain⟨t',rfl⟩:=ru;exact PySem.SC.startswith {.bl _,H,I,rfl,q}
def Yr:V->Option Int->Option Int->Hp->VK->Prop:=λx lo hi H Q=>∃z,x=.str z/\z.length<=sizeLine/\Q (.str<|PySem.Txt.slice z lo hi) H
theorem Pz:Rh X Yr:=by intro pins s σ H x v vl vu lo hi sl Q I rx hs pl pu h;obtain⟨z,rfl,hz,q⟩:=h;obtain⟨t,rfl⟩:=rx;obtain⟨o,e1,e2,e3⟩:=hs;refine{"str",_,F.slot_str_getitem.lookup,typeIs_str _ _ _,?_};have fin:∀k,∀t':Tok,EP X pins σ Q (.str (PySem.Txt.slice z lo hi) t') {s with toks:=k}:=λk t'=>{.str _,H,I.tok k,{_,rfl},q};cases pl with|none=>(cases pu with|none=>exact wpAny_getItem_str_slice (l:=none) (u:=none) (st:=none) ⟨o,e1,e2,e3⟩ rfl (post_val_or_str {zG (Txt.slice_le z _ _) hz,λt' k=>fin k t'})|int j uj=>exact wpAny_getItem_str_slice (l:=none) (u:=some (j,uj)) (st:=none) ⟨o,e1,e2,e3⟩ rfl<|post_val_or_str {zG (Txt.slice_le z _ _) hz,λt' k=>fin k t'})|int i ui=>cases pu with|none=>exact wpAny_getItem_str_slice (l:=some (i,ui)) (u:=none) (st:=none) ⟨o,e1,e2,e3⟩ rfl (post_val_or_str {zG (Txt.slice_le z _ _) hz,λt' k=>fin k t'})|int j uj=>exact wpAny_getItem_str_slice (l:=some (i,ui)) (u:=some (j,uj)) (st:=none) ⟨o,e1,e2,e3⟩ rfl<|post_val_or_str {zG (Txt.slice_le z _ _) hz,λt' k=>fin k t'}
end
end L2
namespace L2
open PySem PySem.Spec PyProof.Rows PySem.SeqAt
end L2
namespace L2
open PySem PySem.Spec PyProof.Rows
theorem vR(l:Addr)(items:Array Value)(n:Nat)(b:Addr)(rL:Array Value)(n2:Nat)(sl:Array<|Option Value)(Rq:¬(!items.isEmpty&&Builtin.List.listTooLong (items.size+rL.size))=true)(hs1:items.size<=sizeLine)(xu:items.size+rL.size<=sizeLine+1): Meets (Builtin.«list.extend» {[.ref l,.ref b],[]}) (λ_ R s=>s.heap.get? l=some {cls:=.type "list",dict:=none,data:=.seq items n,slots:=#[]}/\s.heap.get? b=some {cls:=.type "tuple",dict:=none,data:=.seq rL n2,slots:=sl}/\R (.ok<|.ret Value.none) {s with heap:=s.heap.update l<|Obj.mapSeq λx=>x++rL,toks:=s.toks}):=.of_wp λprog w A R s h=>by
 obtain⟨hp,g,d,tk,os⟩:=s;obtain⟨hl,hb,h⟩:=h;have f1:=AutoSeq1.idx_int;have f2:=AutoSeq1.sub_tuple_tuple;have f3:=AutoSeq1.sub_list_list;have f4:=AutoSeq1.sub_tuple_list;have f5:=AutoSeq1.sub_list_tuple;have Ys:(items++rL).size<=sizeLine+1:=by rw[Array.size_append];exact xu
 wp_walk using (wpAny_updateSeq hl rfl (hz:=hs1) (_hz':=Ys)),AutoSeq1.wpAny_loadPart' hl,AutoSeq1.wpAny_loadPart' hb;exact{_,rfl,h}
section
variable{X:Cx}
def HQ:V->List V->Hp->VK->Prop:=λx vs H Q=>∃l b xs zs,x=.ref l/\vs=[.ref b]/\H l=some (.lst xs)/\H b=some (.tup zs)/\xs.length+zs.length<=sizeLine/\Q .av (upd H l<|.lst<|xs++zs)
theorem BW:V8 X "list.extend" HQ:=by
 intro pins s σ H x vs v us Q I rx rv h;obtain⟨l,b,xs,zs,rfl,rfl,hH,hB,hz,q⟩:=h;cases rx;obtain⟨u,rfl,ru⟩:=rv.one;cases ru;obtain⟨z,az,n,r,hl,e⟩:=I.Fm hH;obtain⟨z2,p5,r2,⟨c2,d2,dt2,J1⟩,e2,ec,ed,n2,en⟩:=(show bx X.prog X.w H s.heap b (.tup zs) from I.aQ b _ hB);dsimp only at ec ed en;subst ec ed en;have vJ:=r2.length;have hsz:az.toArray.size+p5.toArray.size<=sizeLine:=by rw[zl,zl];lia
 have TJ:¬(!az.toArray.isEmpty&&Builtin.List.listTooLong (az.toArray.size+p5.toArray.size))=true:=by rw[Hr hsz,Bool.and_false];exact zd
 refine call_meets F.slot_list_extend {_,e,rfl} F.entry_list_extend (F.args_list_extend_2 _ _) (vR l az.toArray n b p5.toArray n2 J1 TJ (by rw[zl];lia)<|by lia) {e,e2,?_};refine{.av,_,I.KY (its':=az++p5) hH e (by simp) (r.append r2) ?_,rfl,q};rw[zH];lia
end
def EnS(n l:Nat)(i:Nat)(h:Heap):Prop:=(∃old,IsEnum h (n+1) n (i:Int) old)/\h.IsListIter n l i
noncomputable def TK(K:Frag)(l:Addr):It:={λi H=>∃(xs:List V)(x:V),iZ K H l xs/\xs[i]?=some x,λi H x H'=>∃T,H T=none/\x=.ref T/\∀(xs:List V)(y:V),iZ K H l xs->xs[i]?=some y->H'=upd H T (.tup [.int (i:Nat),y]),λi H=>∃xs,iZ K H l xs/\xs.length<=i}
theorem FG{P:Program}{w:World}{K:Frag}{es:List Expr}{kk:Nat}{tp:Pos}{n l:Nat}(b0:l<n):Turn P w K (.Tuple es kk tp) (TK K l) [n,(n+1)] (n+1) (EnS n l) where
 mem:=by simp
 obj:=λi h st b hb=>by
  obtain⟨⟨old,he⟩,j0⟩:=st
  have c:b=n\/b=(n+1):=by simpa using hb
  rcases c with rfl|rfl
  ·obtain⟨o,e,c,d⟩:=j0;exact{o,e,λv z=>by rw[d]at z;cases z}
  ·exact{_,he,λv z=>by cases z}
 keep:=λi h h' st k=>by
  obtain⟨⟨old,he⟩,j0⟩:=st
  exact{{old,k _ (by simp) _ he},j0.at λo e=>k _ (by simp) o e}
 item:=by
  intro X hP hw hK hc i pins s σ H E I hf st hg
  subst hP hw hK
  obtain⟨xs,x,q0,e0⟩:=hg
  obtain⟨az,rv,p,_⟩:=I.list q0
  obtain⟨u,hu,ru⟩:=rv.get e0
  obtain⟨⟨old,he⟩,j0⟩:=st
  refine wpAny_pyNext_enum_item he j0 p.isList (x:=u) (by simpa using hu) (by show @Ne Nat _ _;lia) λh1 z1 m0 T1 hs1 kp=>?_
  refine{_,rfl,?_}
  refine wpAny_letOwnedTupleGo_enum (s:={s with heap:=h1,toks:=s.toks+1}) z1 λh2 z2 r2=>?_
  have Rr:∀c o,c∉([(n+1),n]:List Addr)->s.heap.get? c=some o->h2.get? c=some o:=λc o hc e=>by
   simp only[zj,zI,or_false,not_or]at hc
   obtain⟨dz,d0⟩:=hc
   exact r2.extBut _ _ dz<|kp c o dz d0 e
  have lz:(n+1)<s.heap.objs.size:=zx he
  have T2:h2.get? s.heap.objs.size=some {cls:=.type "tuple",data:=.seq #[.int i s.toks,u]}:=r2.extBut _ _ (ym lz) T1
  have hf':∀b∈([(n+1),n]:List Addr),q8 X pins H b:=λb hb=>hf b<|by simp only[zj,zI,or_false]at hb⊢;rcases hb with h|h<;>simp[h]
  have I2:Inv X pins σ (upd H s.heap.objs.size<|.tup [.int (i:Nat),x]) {s with heap:=h2,toks:=s.toks+1}:=I.DQ (t':=s.toks+1) [(n+1),n] hf' Rr (Heap.get?_none_of_le<|zo _) {Yn<|show 2<=1000 by decide,[.int i s.toks,u],.cons {_,rfl}<|.cons ru<|.nil,{_,T2,rfl,rfl,_,rfl}}
  refine{.ref s.heap.objs.size,_,I2,rfl,{_,I.aQ.fresh<|zo _,rfl,λys y g0 f0=>?_},?_,λb hb=>?_}
  ·have:=I.qX g0 q0;subst this;have:=e0.symm.trans f0;cases this
   rfl
  ·exact{{_,z2},m0.at λo e=>r2.extBut _ _ (by show @Ne Nat _ _;lia) e}
  ·have l2:b<s.heap.objs.size:=by
    simp only[zj,zI,or_false]at hb
    have lz:@LT.lt Nat _ (n+1) s.heap.objs.size:=lz
    rcases hb with rfl|rfl<;>(show @LT.lt Nat _ _ s.heap.objs.size;lia)
   rw[ax<|zA l2];exact(hf b hb).1
 done:=by
  intro X hP hw hK hc i pins s σ H E I hf st hg
  subst hP hw hK
  obtain⟨xs,q0,hx⟩:=hg
  obtain⟨az,rv,p,_⟩:=I.list q0
  obtain⟨⟨old,he⟩,j0⟩:=st
  have hl:=rv.length
  exact wpAny_pyNext_enum_end (I.ok.hd hc) he j0 p.isList (by simp;lia) λh1 kp=>{rfl,I.DP (t':=s.toks) [n] (λb hb=>hf b<|by simp only[zE]at hb;simp[hb]) λc o hc e=>kp c o (λz=>hc<|by simp[z]) e}
 self:=λA' i s Q E st h=>wpAny_pyIter_enum st.1.choose_spec h
def TL(K:Frag)(ta:TA):TI:=λσ H R=>ta σ H λvs H1=>∃l,vs=[.ref l]/\(∃xs,iZ K H1 l xs)/\R (TK K l) H1
theorem FH:bootBuiltins "enumerate"= some (.type "enumerate"):=by trivial
theorem LA{X:Cx}{a:Expr}{ta:TA}{p pos tp:Pos}{es:List Expr}{kk:Nat}(hg:Gl X "enumerate")(hm:X.mg "enumerate"= none)(ha:PA X [a] ta)(hs:autoParam (starEach [a] X.env=[(false,eval a X.env)]) qQJ): PI X (.Tuple es kk tp) (.Call (.Name "enumerate" p) [a] [] pos) (TL X.K ta):=by
 intro pins s σ H R I h;refine Call_<|fj I hg hm FH<|PyProof.Rows.callWith_type1 (bz (ha pos pins s σ H _ I h) λus s1 ⟨vs,H1,I1,r1,q1⟩=>?_) (by rw[hs];rfl) rfl;obtain⟨l,e,⟨xs,q0⟩,q⟩:=q1;subst e;obtain⟨u,rfl,r⟩:=r1.one;cases r;obtain⟨az,rv,p0,_⟩:=I1.list q0;refine call_enumerate_list p0.isList λh' zs zi hz kp=>?_;refine wpAny_pyIter_enum (s:={s1 with heap:=h'}) zs {_,_,_,_,H1,rfl,I1.kept (t':=s1.toks) kp,FG p0.lt,{{_,zs},zi},λb hb=>?_,q};have Tz:s1.heap.objs.size<=b:=by simp only[zj,zI,or_false]at hb;rcases hb with rfl|rfl<;>(show @LE.le Nat _ _ _;lia)
 exact I1.nV Tz<|I1.aQ.fresh Tz
set_option genInjectivity true in
set_option genSizeOfSpec true in
inductive D where
 |av|bl (b:Bool)|int (i:Int)|str (x:Str)|tup (ds:List D)|iB (ds:List D)|kt (ds:List D)|ref (a:Addr)|ty (n:String)
def Yt(K:Frag)(a:Addr)(xs:List V):Prop:=∃(o:Obj)(az:Array Value)(n:Nat),K.lookup a=some o/\o.cls=.type "tuple"/\o.data=.seq az n/\az.size<=sizeLine/\Vals xs az.toList
def Nd(K:Frag)(H:Hp)(a:Addr)(xs:List V):Prop:=(∃o,H a=some (.lI o<|.lst xs))\/∃(o:Obj)(az:Array Value)(n:Nat),K.lookup a=some o/\o.cls=.type "list"/\o.dict=none/\o.data=.seq az n/\az.size<=sizeLine/\Vals xs az.toList
theorem Nd.sq{K:Frag}{H:Hp}{a:Addr}{xs:List V}(h:Nd K H a xs):iZ K H a xs:=by rcases h with h|h;exact .inl<|.inr h;exact .inr h
structure Kp(K:Frag)(H H':Hp):Prop where
 t:∀a xs,H a=some (.tup xs)->H' a=some (.tup xs)
 r:∀a xs,Nd K H a xs->Nd K H' a xs
 f:∀a o u,H a=some (.lI o u)->H' a=some (.lI o u)
theorem Kp.refl{K:Frag}(H:Hp):Kp K H H:={λ_ _ h=>h,λ_ _ h=>h,λ_ _ _ h=>h}
theorem Kp.trans{K:Frag}{H H1 H2:Hp}(a:Kp K H H1)(b:Kp K H1 H2):Kp K H H2:={λp xs h=>b.t p xs<|a.t p xs h,λp xs h=>b.r p xs<|a.r p xs h,λp o u h=>b.f p o u<|a.f p o u h}
theorem Kp.of{K:Frag}{H H':Hp}(h:∀b o,H b=some o->H' b=some o\/(∀xs,o≠.tup xs)/\∀u v,o≠.lI u v):Kp K H H' where
 t:=λa xs q=>(h _ _ q).resolve_right λz=>z.1 _ rfl
 r:=λa xs q=>by
  rcases q with⟨o,q⟩|q
  ·exact .inl {o,(h _ _ q).resolve_right λz=>z.2 _ _ rfl}
  ·exact .inr q
 f:=λa o u q=>(h _ _ q).resolve_right λz=>z.2 _ _ rfl
theorem Kp.new{K:Frag}{H:Hp}{a:Addr}{o:HO}(h:H a=none):Kp K H (upd H a o):=.of λb u e=>.inl<|by rw[ax<|aD e h];exact e
theorem Kp.put{K:Frag}{H:Hp}{a:Addr}{o u:HO}(h:H a=some o)(h1:∀xs,o≠.tup xs)(h2:∀u v,o≠.lI u v):Kp K H (upd H a u):=.of λb v e=>by by_cases q:b=a;subst q;rw[h]at e;cases e;exact .inr ⟨h1,h2⟩;exact .inl<|by rw[ax q];exact e
mutual
def Rv(K:Frag)(H:Hp):D->V->Prop|.av,v=>v=.av|.bl b,v=>v=.bl b|.int i,v=>v=.int i|.str z,v=>v=.str z|.tup ds,v=>∃a xs,v=.ref a/\H a=some (.tup xs)/\RvAll K H ds xs|.iB ds,v=>∃a xs,v=.ref a/\Nd K H a xs/\RvAll K H ds xs|.kt ds,v=>∃a xs,v=.ref a/\Yt K a xs/\RvAll K H ds xs|.ref a,v=>v=.ref a|.ty n,v=>v=.ty n
def RvAll(K:Frag)(H:Hp):List D->List V->Prop|[],xs=>xs=[]|d::ds,xs=>∃y ys,xs=y::ys/\Rv K H d y/\RvAll K H ds ys
end
section
variable{K:Frag}{H H':Hp}
theorem iC:Rv K H .av .av:=by simp only[Rv]
theorem bG(b:Bool):Rv K H (.bl b) (.bl b):=by simp only[Rv]
theorem aN(i:Int):Rv K H (.int i) (.int i):=by simp only[Rv]
theorem gE(z:Str):Rv K H (.str z) (.str z):=by simp only[Rv]
theorem iD(a:Addr):Rv K H (.ref a) (.ref a):=by simp only[Rv]
theorem TM(n:String):Rv K H (.ty n) (.ty n):=by simp only[Rv]
theorem Nf(h:Yt K a xs)(t:RvAll K H ds xs):Rv K H (.kt ds) (.ref a):=by simp only[Rv];exact⟨a,xs,rfl,h,t⟩
theorem iE(h:H a=some (.tup xs))(t:RvAll K H ds xs):Rv K H (.tup ds) (.ref a):=by simp only[Rv];exact⟨a,xs,rfl,h,t⟩
theorem HR(h:Nd K H a xs)(t:RvAll K H ds xs):Rv K H (.iB ds) (.ref a):=by simp only[Rv];exact⟨a,xs,rfl,h,t⟩
theorem Rv.av(h:Rv K H .av v):v=.av:=by simpa only[Rv]using h
theorem Rv.bl(h:Rv K H (.bl b) v):v=.bl b:=by simpa only[Rv]using h
theorem Rv.int(h:Rv K H (.int i) v):v=.int i:=by simpa only[Rv]using h
theorem Rv.str(h:Rv K H (.str z) v):v=.str z:=by simpa only[Rv]using h
theorem Rv.ref(h:Rv K H (.ref a) v):v=.ref a:=by simpa only[Rv]using h
theorem Rv.ty(h:Rv K H (.ty n) v):v=.ty n:=by simpa only[Rv]using h
theorem Rv.kt(h:Rv K H (.kt ds) v):∃a xs,v=.ref a/\Yt K a xs/\RvAll K H ds xs:=by simpa only[Rv]using h
theorem Rv.tup(h:Rv K H (.tup ds) v):∃a xs,v=.ref a/\H a=some (.tup xs)/\RvAll K H ds xs:=by simpa only[Rv]using h
theorem Rv.iB(h:Rv K H (.iB ds) v):∃a xs,v=.ref a/\Nd K H a xs/\RvAll K H ds xs:=by simpa only[Rv]using h
theorem bD:RvAll K H [] []:=by simp only[RvAll]
theorem aS(h:Rv K H d x)(t:RvAll K H ds xs):RvAll K H (d::ds) (x::xs):=by simp only[RvAll];exact⟨x,xs,rfl,h,t⟩
theorem RvAll.nil(h:RvAll K H [] xs):xs=[]:=by simpa only[RvAll]using h
theorem RvAll.cons(h:RvAll K H (d::ds) xs):∃y ys,xs=y::ys/\Rv K H d y/\RvAll K H ds ys:=by simpa only[RvAll]using h
mutual
theorem Rv.ts(s:Kp K H H'):∀(d:D){v:V},Rv K H d v->Rv K H' d v|.av,v,h=>by simpa only[Rv]using h|.bl b,v,h=>by simpa only[Rv]using h|.int i,v,h=>by simpa only[Rv]using h|.str z,v,h=>by simpa only[Rv]using h|.tup ds,v,h=>(by obtain⟨a,xs,rfl,e,t⟩:=h.tup;exact iE (s.t _ _ e)<|RvAll.ts s ds t)|.iB ds,v,h=>(by obtain⟨a,xs,rfl,e,t⟩:=h.iB;exact HR (s.r _ _ e)<|RvAll.ts s ds t)|.kt ds,v,h=>(by obtain⟨a,xs,rfl,e,t⟩:=h.kt;exact Nf e<|RvAll.ts s ds t)|.ref a,v,h=>by simpa only[Rv]using h|.ty n,v,h=>by simpa only[Rv]using h
theorem RvAll.ts(s:Kp K H H'):∀(ds:List D){xs:List V},RvAll K H ds xs->RvAll K H' ds xs|[],xs,h=>by rw[h.nil];exact bD|d::ds,xs,h=>by obtain⟨y,ys,rfl,h1,h2⟩:=h.cons;exact aS (Rv.ts s d h1)<|RvAll.ts s ds h2
end
theorem RvAll.len:∀{ds:List D}{xs:List V},RvAll K H ds xs->xs.length=ds.length|[],xs,h=>by rw[h.nil];rfl|d::ds,xs,h=>by obtain⟨y,ys,rfl,_,h2⟩:=h.cons;rw[zN,zN,h2.len]
theorem RvAll.get:∀{ds:List D}{xs:List V}{i:Nat}{d:D},RvAll K H ds xs->ds[i]?=some d->∃v,xs[i]?=some v/\Rv K H d v|[],xs,i,d,h,e=>by simp at e|d0::ds,xs,0,d,h,e=>(by obtain⟨y,ys,rfl,h1,h2⟩:=h.cons;simp at e;subst e;exact⟨y,rfl,h1⟩)|d0::ds,xs,i+1,d,h,e=>by obtain⟨y,ys,rfl,h1,h2⟩:=h.cons;obtain⟨v,e1,e2⟩:=h2.get (i:=i) (by simpa using e);exact{v,by simpa using e1,e2}
theorem RvAll.app:∀{ds es:List D}{xs ys:List V},RvAll K H ds xs->RvAll K H es ys->RvAll K H (ds++es) (xs++ys)|[],es,xs,ys,h,k=>by rw[h.nil];exact k|d::ds,es,xs,ys,h,k=>by obtain⟨y,zs,rfl,h1,h2⟩:=h.cons;exact aS h1<|h2.app k
theorem RvAll.take:∀{ds:List D}{xs:List V}(n:Nat),RvAll K H ds xs->RvAll K H (ds.take n) (xs.take n)|[],xs,n,h=>by rw[h.nil];simp only[List.take_nil];exact bD|d::ds,xs,0,h=>by simp only[List.take_zero];exact bD|d::ds,xs,n+1,h=>by obtain⟨y,zs,rfl,h1,h2⟩:=h.cons;exact aS h1<|h2.take n
theorem RvAll.drop:∀{ds:List D}{xs:List V}(n:Nat),RvAll K H ds xs->RvAll K H (ds.drop n) (xs.drop n)|[],xs,n,h=>by rw[h.nil];simp only[List.drop_nil];exact bD|d::ds,xs,0,h=>h|d::ds,xs,n+1,h=>by obtain⟨y,zs,rfl,h1,h2⟩:=h.cons;exact h2.drop n
theorem RvAll.set:∀{ds:List D}{xs:List V}{d:D}{v:V}(n:Nat),RvAll K H ds xs->Rv K H d v->RvAll K H (ds.set n d) (xs.set n v)|[],xs,d,v,n,h,r=>by rw[h.nil];exact bD|d0::ds,xs,d,v,0,h,r=>(by obtain⟨y,zs,rfl,h1,h2⟩:=h.cons;exact aS r h2)|d0::ds,xs,d,v,n+1,h,r=>by obtain⟨y,zs,rfl,h1,h2⟩:=h.cons;exact aS h1<|h2.set n r
theorem RvAll.dropLast:∀{ds:List D}{xs:List V},RvAll K H ds xs->RvAll K H ds.dropLast xs.dropLast|[],xs,h=>by rw[h.nil];exact bD|[d],xs,h=>(by obtain⟨y,zs,rfl,h1,h2⟩:=h.cons;rw[h2.nil];exact bD)|d::e::ds,xs,h=>by obtain⟨y,zs,rfl,h1,h2⟩:=h.cons;obtain⟨y2,zs2,rfl,h3,h4⟩:=id h2.cons;exact aS h1<|RvAll.dropLast h2
theorem RvAll.bools:∀{bs:List Bool}{xs:List V},RvAll K H (bs.map D.bl) xs->xs=bs.map V.bl|[],xs,h=>h.nil|b::bs,xs,h=>by obtain⟨y,ys,rfl,h1,h2⟩:=h.cons;rw[h1.bl,h2.bools];rfl
theorem RvAll.ints:∀{bs:List Int}{xs:List V},RvAll K H (bs.map D.int) xs->xs=bs.map V.int|[],xs,h=>h.nil|b::bs,xs,h=>by obtain⟨y,ys,rfl,h1,h2⟩:=h.cons;rw[h1.int,h2.ints];rfl
theorem RvAll.strs:∀{bs:List Str}{xs:List V},RvAll K H (bs.map D.str) xs->xs=bs.map V.str|[],xs,h=>h.nil|b::bs,xs,h=>by obtain⟨y,ys,rfl,h1,h2⟩:=h.cons;rw[h1.str,h2.strs];rfl
theorem DR:∀(bs:List Int),RvAll K H (bs.map D.int) (bs.map V.int)|[]=>bD|b::bs=>aS (aN b)<|DR bs
theorem vS:∀(bs:List Str),RvAll K H (bs.map D.str) (bs.map V.str)|[]=>bD|b::bs=>aS (gE b)<|vS bs
def bY{κ:Type}(K:Frag)(H:Hp):List (κ×D)->List (κ×V)->Prop:=Paired λp q=>p.1=q.1/\Rv K H p.2 q.2
theorem bY.ts(s:Kp K H H'):∀{ks:List (κ×D)}{vs:List (κ×V)},bY K H ks vs->bY K H' ks vs|_,_,.nil=>.nil|_,_,.cons r t=>.cons {r.1,Rv.ts s _ r.2}<|bY.ts s t
theorem bY.look(h:bY K H ks vs)(f:Str):(∀d,ks.lookup f=some d->∃v,vs.lookup f=some v/\Rv K H d v)/\(ks.lookup f=none->vs.lookup f=none):=by induction h with|nil=>(exact{λd e=>(by cases e),λ_=>rfl})|@cons a b l m r t ih=>obtain⟨k,d⟩:=a;obtain⟨k',v⟩:=b;obtain⟨rfl,r⟩:=r;simp only[yb];cases q:f==k with|true=>(exact{λd' e=>{v,rfl,(by cases e;exact r)},λe=>(by cases e)})|false=>exact ih
end
set_option genInjectivity true in
set_option genSizeOfSpec true in
inductive Ce where
 |lst (ds:List D)|cO (kvs:List<|Key×D)|ins (c:Addr) (fs:List<|Str×D)|well|exc (c:Addr)|tab (q:Str)
def DU(H:Hp)(q:Str)(ps:Array Value):Prop:=TriplesOk ps.toList/\∀pos cv,codeAmong pos ps.toList=some cv->∃c o vs t,cv=.ref c/\H c=some (.lI o<|.own 0)/\o.data=.fields vs/\vs[1]?=some (.str q t)
abbrev ay:=Addr->Option Ce
noncomputable def ay.set(S:ay)(a:Addr)(c:Ce):ay:=λb=>if b=a then some c else S b
theorem aa{S:ay}{a:Addr}{c:Ce} : S.set a c a=some c:=by unfold ay.set;rw[if_pos rfl]
theorem ag{S:ay}{a b:Addr}{c:Ce}(h:b≠a):S.set a c b=S b:=by unfold ay.set;rw[if_neg h]
theorem dQ{S:ay}{a:Addr}{c e:Ce} : (S.set a c).set a e=S.set a e:=by funext b;unfold ay.set;split<;>rfl
theorem fS{S:ay}{a b:Addr}{c:Ce}(h:S a=some c)(h':S b=none):a≠b:=by intro e;subst e;rw[h]at h';cases h'
def Rc(K:Frag)(H:Hp)(a:Addr):Ce->Prop|.lst ds=>∃xs,H a=some (.lst xs)/\RvAll K H ds xs|.cO kvs=>∃vs,H a=some (.dK vs)/\bY K H kvs vs|.ins c fs=>∃dx vs,H a=some (.ins c dx vs)/\bY K H fs vs|.well=>∃x y z:Int,H a=some (.lst [.int x,.int y,.int z])|.exc c=>H a=some (Yh a<|.ref c)|.tab q=>∃ps,H a=some (.qv ps)/\DU H q ps
def Rs(K:Frag)(S:ay)(H:Hp):Prop:=∀a c,S a=some c->Rc K H a c
section
variable{K:Frag}{H H':Hp}{S:ay}{a b:Addr}{c:Ce}
theorem Rc.has(h:Rc K H a c):∃o,H a=some o/\(∀xs,o≠.tup xs)/\∀u v,o≠.lI u v:=by cases c with|lst ds=>(obtain⟨xs,e,_⟩:=h;exact{_,e,λ_=>nofun,λ_ _=>nofun})|cO ds=>(obtain⟨xs,e,_⟩:=h;exact{_,e,λ_=>nofun,λ_ _=>nofun})|ins c fs=>(obtain⟨dx,vs,e,_⟩:=h;exact{_,e,λ_=>nofun,λ_ _=>nofun})|well=>(obtain⟨x,y,z,e⟩:=h;exact{_,e,λ_=>nofun,λ_ _=>nofun})|exc c=>exact{_,h,λ_=>nofun,λ_ _=>nofun}|tab q=>obtain⟨ps,e,_⟩:=h;exact{_,e,λ_=>nofun,λ_ _=>nofun}
theorem Rc.keep(h:Rc K H a c)(e:∀o,H a=some o->H' a=some o)(s:Kp K H H'):Rc K H' a c:=by cases c with|lst ds=>(obtain⟨xs,e1,r⟩:=h;exact{xs,e _ e1,RvAll.ts s _ r})|cO ds=>(obtain⟨xs,e1,r⟩:=h;exact{xs,e _ e1,r.ts s})|ins c fs=>(obtain⟨dx,vs,e1,r⟩:=h;exact{dx,vs,e _ e1,r.ts s})|well=>(obtain⟨x,y,z,e1⟩:=h;exact{x,y,z,e _ e1})|exc c=>exact e _ h|tab q=>obtain⟨ps,e1,r,r2⟩:=h;exact{ps,e _ e1,r,λpos cv z=>by obtain⟨c,o,vs,t,z1,z2,z3⟩:=r2 pos cv z;exact{c,o,vs,t,z1,s.f _ _ _ z2,z3}}
theorem Rs.fresh(h:Rs K S H)(e:H a=none):S a=none:=by cases q:S a with|none=>rfl|some c=>obtain⟨o,e1,_⟩:=(h a c q).has;rw[e]at e1;cases e1
theorem Rs.new(h:Rs K S H)(e:H a=none){o:HO}(r:Rc K (upd H a o) a c):Rs K (S.set a c) (upd H a o):=λb x hb=>by by_cases q:b=a;subst q;rw[aa]at hb;cases hb;exact r;rw[ag q]at hb;exact(h b x hb).keep (λo e1=>by rw[ax q];exact e1)<|Kp.new e
theorem Rs.grow(h:Rs K S H)(e:H a=none):Rs K S (upd H a o):=λb x hb=>by obtain⟨u,e1,_⟩:=(h b x hb).has;have q:b≠a:=aD e1 e;exact(h b x hb).keep (λo e1=>by rw[ax q];exact e1)<|Kp.new e
theorem Rs.iF(h:Rs K S H)(ha:S a=some e):Kp K H (upd H a o):=by obtain⟨u,e1,n1,n2⟩:=(h a e ha).has;exact Kp.put e1 n1 n2
theorem Rs.put(h:Rs K S H){e:Ce}(ha:S a=some e){o:HO}(r:Rc K (upd H a o) a c):Rs K (S.set a c) (upd H a o):=λb x hb=>by by_cases q:b=a;subst q;rw[aa]at hb;cases hb;exact r;rw[ag q]at hb;exact(h b x hb).keep (λo e1=>by rw[ax q];exact e1)<|h.iF ha
theorem Rs.lst(h:Rs K S H)(e:S a=some (.lst ds)):∃xs,H a=some (.lst xs)/\RvAll K H ds xs:=h a _ e
theorem Rs.cO(h:Rs K S H)(e:S a=some (.cO ds)):∃xs,H a=some (.dK xs)/\bY K H ds xs:=h a _ e
theorem Rs.ins{c:Addr}{fs:List<|Str×D}(h:Rs K S H)(e:S a=some (.ins c fs)):∃dx vs,H a=some (.ins c dx vs)/\bY K H fs vs:=h a _ e
end
abbrev KD:=D->ay->Prop
abbrev KX:=Addr->ay->Prop
abbrev SD:=List<|Option D
def iG(K:Frag)(H:Hp):SD->St->Prop:=Paired λ(o:Option D)(u:Option V)=>∀d,o=some d->∃v,u=some v/\Rv K H d v
section
variable{K:Frag}{H H':Hp}
theorem iG.ts(s:Kp K H H'):∀{σ:SD}{τ:St},iG K H σ τ->iG K H' σ τ|_,_,.nil=>.nil|_,_,.cons r t=>.cons (λd e=>by obtain⟨v,e1,r1⟩:=r d e;exact{v,e1,Rv.ts s _ r1})<|iG.ts s t
theorem iG.get:∀{σ:SD}{τ:St}{i:Nat}{d:D},iG K H σ τ->σ[i]?=some (some d)->∃v,τ[i]?=some (some v)/\Rv K H d v|_,_,i,d,.nil,e=>by simp at e|_,_,0,d,.cons r t,e=>(by simp at e;obtain⟨v,e1,r1⟩:=r d e;exact{v,by simp[e1],r1})|_,_,i+1,d,.cons r t,e=>by obtain⟨v,e1,r1⟩:=iG.get (i:=i) t (by simpa using e);exact{v,by simpa using e1,r1}
theorem iG.set:∀{σ:SD}{τ:St}(i:Nat){d:D}{v:V},iG K H σ τ->Rv K H d v->iG K H (σ.set i<|some d) (τ.set i<|some v)|_,_,i,d,v,.nil,r=>.nil|_,_,0,d,v,.cons r t,q=>(.cons (λd' e=>by cases e;exact⟨v,rfl,q⟩) t)|_,_,i+1,d,v,.cons r t,q=>.cons r<|iG.set i t q
theorem rM:∀(n:Nat)(τ:St),τ.length=n->iG K H (List.replicate n none) τ|0,[],_=>.nil|n+1,_::τ,h=>.cons (λd e=>by cases e)<|rM n τ<|by simpa using h
theorem rN:∀{ds:List D}{vs:List V},RvAll K H ds vs->iG K H (ds.map some) (vs.map some)|[],vs,h=>by rw[h.nil];exact .nil|d::ds,vs,h=>by obtain⟨y,ys,rfl,h1,h2⟩:=h.cons;exact .cons (λd' e=>by cases e;exact⟨y,rfl,h1⟩)<|rN h2
theorem iG.app:∀{σ aF:SD}{τ Ru:St},iG K H σ τ->iG K H aF Ru->iG K H (σ++aF) (τ++Ru)|_,_,_,_,.nil,h=>h|_,_,_,_,.cons r t,h=>.cons r<|iG.app t h
end
structure Rdy(Y:Cx)(E:St->XK)(b:Bool):Prop where
 call:∀p2 τ H s e s',Inv Y p2 τ H s->fk Y.prog Y.w Y.mg Y.stack H s (E τ) e s'->Y.xe e s'
 own:b=true->∀p2 τ H s h' a cls args,Inv Y p2 τ H s->Heap.MadeExcOf s.heap h' a cls args->E τ cls none H->Y.xe (.ref a) {s with heap:=h'}
 loop:b=true->PassesOwn (model Y.prog Y.w) Y.A Y.env Y.xe
structure Ev(X:Cx)(b:Bool) where
 pn:List (Addr×Obj)
 xe:Value->Shared->Prop
 E:St->XK
 ok:Rdy {X with pn:=pn,xe:=xe} E b
noncomputable abbrev Ev.cx{X:Cx}{b:Bool}(y:Ev X b):Cx:={X with pn:=y.pn,xe:=y.xe}
def Cn(K:Frag)(H:Hp)(R:KD)(Q:VK):Prop:=∀d S v H',R d S->Rv K H' d v->Rs K S H'->Kp K H H'->Q v H'
def FI(K:Frag)(H:Hp)(Z:KX)(e:XK):Prop:=∀C S H',Z C S->Rs K S H'->Kp K H H'->e (.ref C) none H'
theorem Cn.kp{K:Frag}{H H1:Hp}{R:KD}{Q:VK}(h:Cn K H R Q)(k:Kp K H H1):Cn K H1 R Q:=λd S v H' r v1 s1 k1=>h d S v H' r v1 s1<|k.trans k1
theorem FI.kp{K:Frag}{H H1:Hp}{Z:KX}{e:XK}(h:FI K H Z e)(k:Kp K H H1):FI K H1 Z e:=λC S H' r s1 k1=>h C S H' r s1<|k.trans k1
abbrev TD:=SD->ay->KD->KX->Prop
def T(K:Frag)(E:St->XK)(t:TD):TE:=λτ H Q=>∃σ S R Z,iG K H σ τ/\Rs K S H/\t σ S R Z/\Cn K H R Q/\FI K H Z (E τ)
structure DE(K:Frag)(X:Cx)(e:Expr)(t:TD):Prop where
 of:∀{b:Bool}(y:Ev X b),PE y.cx e<|T K y.E t
abbrev nM:=SD->ay->(Bool->ay->Prop)->KX->Prop
def We(K:Frag)(H:Hp)(R:Bool->ay->Prop)(Q:Bool->Hp->Prop):Prop:=∀b S H',R b S->Rs K S H'->Kp K H H'->Q b H'
theorem We.kp{K:Frag}{H H1:Hp}{R:Bool->ay->Prop}{Q:Bool->Hp->Prop}(h:We K H R Q)(k:Kp K H H1):We K H1 R Q:=λd S H' r s1 k1=>h d S H' r s1<|k.trans k1
def Tt(K:Frag)(E:St->XK)(t:nM):TT:=λτ H Q=>∃σ S R Z,iG K H σ τ/\Rs K S H/\t σ S R Z/\We K H R Q/\FI K H Z (E τ)
structure DT(K:Frag)(X:Cx)(e:Expr)(t:nM):Prop where
 of:∀{b:Bool}(y:Ev X b),PT y.cx e<|Tt K y.E t
abbrev iH:=SD->ay->(List D->ay->Prop)->KX->Prop
def CnA(K:Frag)(H:Hp)(R:List D->ay->Prop)(Q:List V->Hp->Prop):Prop:=∀ds S vs H',R ds S->RvAll K H' ds vs->Rs K S H'->Kp K H H'->Q vs H'
def Ta(K:Frag)(E:St->XK)(t:iH):TA:=λτ H Q=>∃σ S R Z,iG K H σ τ/\Rs K S H/\t σ S R Z/\CnA K H R Q/\FI K H Z (E τ)
structure DA(K:Frag)(X:Cx)(es:List Expr)(t:iH):Prop where
 of:∀{b:Bool}(y:Ev X b),PA y.cx es<|Ta K y.E t
theorem PE.mono{t t':TE}(h:PE X e t)(i:∀τ H Q,t' τ H Q->t τ H Q):PE X e t':=λpins s τ H Q I q=>h pins s τ H Q I<|i τ H Q q
theorem PT.mono{t t':TT}(h:PT X e t)(i:∀τ H Q,t' τ H Q->t τ H Q):PT X e t':=λpins s τ H Q I q=>h pins s τ H Q I<|i τ H Q q
theorem PA.mono{t t':TA}(h:PA X e t)(i:∀τ H Q,t' τ H Q->t τ H Q):PA X e t':=λpos pins s τ H Q I q=>h pos pins s τ H Q I<|i τ H Q q
section
variable{K:Frag}{X:Cx}
inductive TN (i:Nat) (σ:SD) (S:ay) (R:KD):Prop where
 |mk (d:D) (h:σ[i]?=some (some d)) (r:R d S):TN i σ S R
def TQ(i:Nat):TD:=λσ S R _=>TN i σ S R
inductive Rw (x:D) (S:ay) (R:Bool->ay->Prop):Prop where
 |mk (b:Bool) (h:x=.bl b) (r:R b S):Rw x S R
def dC(d:D):TD:=λ_ S R _=>R d S
theorem dv(i:Nat)(hN:autoParam (X.N[i]?=some x) qQJ)(hv:Q_ X.env.scope x:=by first|exact Or.inl rfl|exact Or.inr (Or.inl rfl)|exact Or.inr (Or.inr rfl))(hd:autoParam ((x==("__debug__": Str))=false) qQZ) (tK:autoParam ((x==("__classdict__": Str))=false) qQZ):DE K X (.Name x pos) (TQ i):=⟨λy=>(Oh (X:=y.cx) hN hv hd tK).mono <| by rintro τ H Q ⟨σ,S,R,Z,aC,hS,⟨d,e,r⟩,hR,_⟩;exact by obtain⟨v,e1,rv⟩:=aC.get e;exact{v,e1,hR d S v H r rv hS<|Kp.refl _}⟩
theorem DE.const(h:∀Y:Cx,Y.env=X.env->Y.mg=X.mg->PE Y e (tC v))(r:∀H,Rv K H d v):DE K X e (dC d):=⟨λy=>(h y.cx rfl rfl).mono <| by rintro τ H Q ⟨σ,S,R,Z,aC,hS,q,hR,_⟩;exact hR d S v H q (r H) hS<|Kp.refl _⟩
theorem di:DE K X (.Constant (.int i) j pos) (dC<|.int i):=.const (λ_ _ _=>Oi) λ_=>aN i
theorem ds:DE K X (.Constant (.str i) j pos) (dC<|.str i):=.const (λ_ _ _=>Ol) λ_=>gE i
theorem db:DE K X (.Constant (.bool i) j pos) (dC<|.bl i):=.const (λ_ _ _=>MW) λ_=>bG i
theorem dn:DE K X (.Constant .none j pos) (dC .av):=.const (λ_ _ _=>Oj) λ_=>iC
theorem dg(hm:X.mg x=some u)(r:RelV v u)(rd:∀H,Rv K H d v)(hg:autoParam (Gl X x) qQJ)(hd:autoParam ((x==("__debug__": Str))=false) qQZ):DE K X (.Name x pos) (dC d):=.const (λY e1 e2=>Du (X:=Y) (u:=u) (show Y.env.kindOf x=_ by rw[e1];exact hg) (by rw[e2];exact hm) r hd) rd
theorem nN(hm:X.mg x=none)(hv:bootBuiltins x=some (.type n))(hg:autoParam (Gl X x) qQJ)(hn:autoParam (x≠"__name__") qQZ)(hd:autoParam ((x==("__debug__": Str))=false) qQZ):DE K X (.Name x pos) (dC<|.ty n):=.const (λY e1 e2=>Kl (X:=Y) (v:=.ty n) (show Y.env.kindOf x=_ by rw[e1];exact hg) (by rw[e2];exact hm) hv rfl hn hd) λ_=>TM n
def LB:iH:=λ_ S R _=>R [] S
def Ng(t:TD)(u:iH):iH:=λσ S R Z=>t σ S (λd S1=>u σ S1 (λds S2=>R (d::ds) S2) Z) Z
theorem an:DA K X [] LB:=⟨λy=>(Bs (X:=y.cx)).mono <| by rintro τ H Q ⟨σ,S,R,Z,aC,hS,q,hR,_⟩;exact hR [] S [] H q bD hS<|Kp.refl _⟩
theorem ac{t:TD}(h:DE K X e t)(hr:DA K X es u)(hp:autoParam (isPlain e=true) qQJ):DA K X (e::es) (Ng t u):=
 ⟨λy=>(Yc (h.of y) (hr.of y) hp).mono <| by rintro τ H Q ⟨σ,S,R,Z,aC,hS,q,hR,hZ⟩;exact
  ⟨σ,S,_,Z,aC,hS,q,λd S1 x H1 r1 v1 s1 k1=>⟨σ,S1,_,Z,aC.ts k1,s1,r1,λds S2 xs H2 r2 v2 s2 k2=>hR (d::ds) S2 (x::xs) H2 r2 (aS (Rv.ts k2 _ v1) v2) s2<|k1.trans k2,hZ.kp k1⟩,hZ⟩⟩
abbrev uR:=D->D->ay->KD->Prop
def Lr(K:Frag)(r:uR):R2:=λx y H Q=>∃d e S R,Rv K H d x/\Rv K H e y/\Rs K S H/\r d e S R/\Cn K H R Q
def n8(K:Frag)(f:Value->Value->Sem Value)(r:uR):Prop:=∀X:Cx,X.K=K->X.A.units+64<cLine->gy X f (Lr K r)
def PB(r:uR)(ta tb:TD):TD:=λσ S R Z=>ta σ S (λx S1=>tb σ S1 (λy S2=>r x y S2 R) Z) Z
theorem T.op(h:T K E (PB r ta tb) τ H Q):Rb (Lr K r) (T K E ta) (T K E tb) τ H Q:=by obtain⟨σ,S,R,Z,aC,hS,q,hR,hZ⟩:=h;exact{σ,S,_,Z,aC,hS,q,λd S1 x H1 r1 v1 s1 k1=>{σ,S1,_,Z,aC.ts k1,s1,r1,λe S2 y H2 r2 v2 s2 k2=>{d,e,S2,R,Rv.ts k2 _ v1,v2,s2,r2,hR.kp<|k1.trans k2},hZ.kp k1},hZ}
theorem bo(ho:n8 K (binaryOp op) r)(hu:X.A.units+64<cLine)(ha:DE K X a ta)(hb:DE K X b tb)(hK:autoParam (X.K=K) qQJ):DE K X (.BinOp a op b pos) (PB r ta tb):=⟨λy=>(Sn (ho y.cx hK hu) (ha.of y)<|hb.of y).mono λ_ _ _ h=>h.op⟩
theorem cm(ho:n8 K (compareOp op) r)(hu:X.A.units+64<cLine)(ha:DE K X a ta)(hb:DE K X b tb)(hm:autoParam (behindInMarks op b=false) qQ2)(hK:autoParam (X.K=K) qQJ):DE K X (.Compare a [op] [b] pos) (PB r ta tb):=⟨λy=>(DB (ho y.cx hK hu) (ha.of y) (hb.of y) hm).mono λ_ _ _ h=>h.op⟩
def dB(t:TD):nM:=λσ S R Z=>t σ S (λx S1=>Rw x S1 R) Z
theorem Tt.b{t:TD}(h:Tt K E (dB t) τ H Q):T K E t τ H λx H'=>∃k,x=.bl k/\Q k H':=by obtain⟨σ,S,R,Z,aC,hS,q,hR,hZ⟩:=h;exact{σ,S,_,Z,aC,hS,q,by rintro d S1 x H1 ⟨b,e,r1⟩ v1 s1 k1;exact by subst e;exact{b,v1.bl,hR b S1 H1 r1 s1 k1},hZ}
theorem Tt.bop(h:Tt K E (dB<|PB r ta tb) τ H Q):Hj (Rb (Lr K r) (T K E ta)<|T K E tb) τ H Q:=h.b.op
theorem bp(ho:n8 K (compareOp op) r)(hu:X.A.units+64<cLine)(ha:DE K X a ta)(hb:DE K X b tb)(hm:autoParam (behindInMarks op b=false) qQ2)(hK:autoParam (X.K=K) qQJ):DT K X (.Compare a [op] [b] pos) (dB<|PB r ta tb):=⟨λy=>(KC (ho y.cx hK hu) (ha.of y) (hb.of y) hm).mono λ_ _ _ h=>h.bop⟩
theorem tv{t:TD}(h:DE K X e t)(he:autoParam (∀whole,isTrue e X.env whole=(do let v <-whole;standAt e.pos;holding [v] (truthy v))) qQ0):DT K X e (dB t):=⟨λy=>(Om (X:=y.cx) (h.of y) he).mono λ_ _ _ h=>h.b⟩
def BX(r r':uR)(ta tb tc:TD):TD:=λσ S R Z=>ta σ S (λx S1=>tb σ S1 (λy S2=>r x y S2 λz S3=>Rw z S3 λk S3=>if k=true then tc σ S3 (λw S4=>r' y w S4 R) Z else R (.bl false) S3) Z) Z
theorem T.chain(h:T K E (BX r r' ta tb tc) τ H Q):Bl (Lr K r) (Lr K r') (T K E ta) (T K E tb) (T K E tc) τ H Q:=by obtain⟨σ,S,R,Z,aC,hS,q,hR,hZ⟩:=h;refine{σ,S,_,Z,aC,hS,q,λd S1 x H1 r1 v1 s1 k1=>{σ,S1,_,Z,aC.ts k1,s1,r1,λe S2 y H2 r2 v2 s2 k2=>{d,e,S2,_,Rv.ts k2 _ v1,v2,s2,r2,λz S3 v H3 r3 v3 s3 k3=>?_},hZ.kp k1},hZ};obtain⟨k,rfl,r3⟩:=r3;refine{k,v3.bl,?_};cases k with|true=>rw[if_pos rfl]at r3⊢;exact{σ,S3,_,Z,((aC.ts k1).ts k2).ts k3,s3,r3,λw S4 wv H4 r4 v4 s4 k4=>{e,w,S4,R,Rv.ts (k3.trans k4) _ v2,v4,s4,r4,hR.kp<|((k1.trans k2).trans k3).trans k4},hZ.kp<|(k1.trans k2).trans k3}|false=>rw[if_neg zd]at r3⊢;exact hR _ S3 _ H3 r3 (bG false) s3<|(k1.trans k2).trans k3
theorem cc(ho:n8 K (compareOp op) r)(Bf:n8 K (compareOp Fd) r')(hu:X.A.units+64<cLine)(ha:DE K X a ta)(hb:DE K X b tb)(hc:DE K X c tc) (hm:autoParam (lastMarks [op,Fd] [b,c]=false) qQ2) (hK:autoParam (X.K=K) qQJ):DE K X (.Compare a [op,Fd] [b,c] pos) (BX r r' ta tb tc):=⟨λy=>(Hk (ho y.cx hK hu) (Bf y.cx hK hu) (ha.of y) (hb.of y) (hc.of y) hm).mono λ_ _ _ h=>h.chain⟩
theorem Wf(ho:n8 K (compareOp op) r)(Bf:n8 K (compareOp Fd) r')(hu:X.A.units+64<cLine)(ha:DE K X a ta)(hb:DE K X b tb)(hc:DE K X c tc) (hm:autoParam (lastMarks [op,Fd] [b,c]=false) qQ2) (hK:autoParam (X.K=K) qQJ):DT K X (.Compare a [op,Fd] [b,c] pos) (dB<|BX r r' ta tb tc):=⟨λy=>(Hl (ho y.cx hK hu) (Bf y.cx hK hu) (ha.of y) (hb.of y) (hc.of y) hm).mono λ_ _ _ h=>h.b.chain⟩
def TR(ta tb:TD):TD:=λσ S R Z=>ta σ S (λx S1=>Rw x S1 λc S1=>if c=true then tb σ S1 R Z else R (.bl false) S1) Z
def Yu(ta tb:TD):TD:=λσ S R Z=>ta σ S (λx S1=>Rw x S1 λc S1=>if c=true then R (.bl true) S1 else tb σ S1 R Z) Z
def TU(ta:TD):TD:=λσ S R Z=>ta σ S (λx S1=>Rw x S1 λc S1=>R (.bl<|!c) S1) Z
theorem HS{t:TD}(h:DE K X a t):DE K X (.BoolOp op [a] pos) t:=⟨λy=>Oq<|h.of y⟩
theorem rO{a b:Expr}{rest:List Expr}{ta tb:TD}{pos:Pos}(ha:DE K X a ta)(hb:DE K X (.BoolOp .And (b::rest) pos) tb):DE K X (.BoolOp .And (a::b::rest) pos) (TR ta tb):=
 ⟨λy=>(Ot (ha.of y)<|hb.of y).mono <| by rintro τ H Q ⟨σ,S,R,Z,aC,hS,q,hR,hZ⟩;exact
  ⟨σ,S,_,Z,aC,hS,q,by
   rintro d S1 x H1 ⟨c,e,r1⟩ v1 s1 k1
   subst e
   refine{c,v1.bl,?_}
   cases c with
   |true=>rw[if_pos rfl]at r1⊢;exact{σ,S1,R,Z,aC.ts k1,s1,r1,hR.kp k1,hZ.kp k1}
   |false=>rw[if_neg zd]at r1⊢;exact hR _ S1 _ H1 r1 (bG false) s1 k1,hZ⟩⟩
theorem eor{a b:Expr}{rest:List Expr}{ta tb:TD}{pos:Pos}(ha:DE K X a ta)(hb:DE K X (.BoolOp .Or (b::rest) pos) tb):DE K X (.BoolOp .Or (a::b::rest) pos) (Yu ta tb):=
 ⟨λy=>(R_ (ha.of y)<|hb.of y).mono <| by rintro τ H Q ⟨σ,S,R,Z,aC,hS,q,hR,hZ⟩;exact
  ⟨σ,S,_,Z,aC,hS,q,by
   rintro d S1 x H1 ⟨c,e,r1⟩ v1 s1 k1
   subst e
   refine{c,v1.bl,?_}
   cases c with
   |false=>rw[if_neg zd]at r1⊢;exact{σ,S1,R,Z,aC.ts k1,s1,r1,hR.kp k1,hZ.kp k1}
   |true=>rw[if_pos rfl]at r1⊢;exact hR _ S1 _ H1 r1 (bG true) s1 k1,hZ⟩⟩
theorem PC(ha:DE K X a ta):DE K X (.UnaryOp .Not a pos) (TU ta):=
 ⟨λy=>(Ou<|ha.of y).mono <| by rintro τ H Q ⟨σ,S,R,Z,aC,hS,q,hR,hZ⟩;exact
  ⟨σ,S,_,Z,aC,hS,q,by rintro d S1 x H1 ⟨c,e,r1⟩ v1 s1 k1;exact by subst e;exact⟨c,v1.bl,hR _ S1 _ H1 r1 (bG _) s1 k1⟩,hZ⟩⟩
def Yv(t:nM):nM:=λσ S R Z=>t σ S (λc S1=>R (!c) S1) Z
def Yw(t u:nM):nM:=λσ S R Z=>t σ S (λc S1=>if c=true then u σ S1 R Z else R false S1) Z
def dOr(t u:nM):nM:=λσ S R Z=>t σ S (λc S1=>if c=true then R true S1 else u σ S1 R Z) Z
theorem bZ{t:nM}(ha:DT K X a t):DT K X (.UnaryOp .Not a pos) (Yv t):=⟨λy=>(Oo<|ha.of y).mono <| by rintro τ H Q ⟨σ,S,R,Z,aC,hS,q,hR,hZ⟩;exact{σ,S,_,Z,aC,hS,q,λc S1 H1 r1 s1 k1=>hR _ S1 H1 r1 s1 k1,hZ}⟩
structure DW(K:Frag)(X:Cx)(e:Expr)(t:nM):Prop where
 of:∀{b:Bool}(y:Ev X b),PW y.cx e<|Tt K y.E t
theorem PW.mono{t t':TT}(h:PW X e t)(i:∀τ H Q,t' τ H Q->t τ H Q):PW X e t':=λwh pins s τ H Q I q=>h wh pins s τ H Q I<|i τ H Q q
theorem twd{t:nM}(h:DW K X e t):DT K X e t:=⟨λy=>(h.of y).pt⟩
theorem tw1{t:nM}(h:DT K X a t):DW K X (.BoolOp op [a] pos) t:=⟨λy=>by cases op with|And=>exact pw_and1 (h.of y)|Or=>exact pw_or1<|h.of y⟩
theorem twand{a b:Expr}{rest:List Expr}{t u:nM}{pos:Pos}(ha:DT K X a t)(hb:DW K X (.BoolOp .And (b::rest) pos) u):DW K X (.BoolOp .And (a::b::rest) pos) (Yw t u):=
 ⟨λy=>(pw_and (ha.of y)<|hb.of y).mono <| by rintro τ H Q ⟨σ,S,R,Z,aC,hS,q,hR,hZ⟩;exact
  ⟨σ,S,_,Z,aC,hS,q,λc S1 H1 r1 s1 k1=>by
   cases c with
   |true=>rw[if_pos rfl]at r1⊢;exact{σ,S1,R,Z,aC.ts k1,s1,r1,hR.kp k1,hZ.kp k1}
   |false=>rw[if_neg zd]at r1⊢;exact hR _ S1 H1 r1 s1 k1,hZ⟩⟩
theorem twor{a b:Expr}{rest:List Expr}{t u:nM}{pos:Pos}(ha:DT K X a t)(hb:DW K X (.BoolOp .Or (b::rest) pos) u):DW K X (.BoolOp .Or (a::b::rest) pos) (dOr t u):=
 ⟨λy=>(pw_or (ha.of y)<|hb.of y).mono <| by rintro τ H Q ⟨σ,S,R,Z,aC,hS,q,hR,hZ⟩;exact
  ⟨σ,S,_,Z,aC,hS,q,λc S1 H1 r1 s1 k1=>by
   cases c with
   |false=>rw[if_neg zd]at r1⊢;exact{σ,S1,R,Z,aC.ts k1,s1,r1,hR.kp k1,hZ.kp k1}
   |true=>rw[if_pos rfl]at r1⊢;exact hR _ S1 H1 r1 s1 k1,hZ⟩⟩
def Yx(t:nM)(ta tb:TD):TD:=λσ S R Z=>t σ S (λc S1=>if c=true then ta σ S1 R Z else tb σ S1 R Z) Z
theorem Rx{t:nM}(hc:DT K X c t)(ha:DE K X a ta)(hb:DE K X b tb):DE K X (.IfExp c a b pos) (Yx t ta tb):=
 ⟨λy=>(Ha (hc.of y) (ha.of y)<|hb.of y).mono <| by rintro τ H Q ⟨σ,S,R,Z,aC,hS,q,hR,hZ⟩;exact
  ⟨σ,S,_,Z,aC,hS,q,λc S1 H1 r1 s1 k1=>by
   cases c with
   |true=>rw[if_pos rfl]at r1⊢;exact{σ,S1,R,Z,aC.ts k1,s1,r1,hR.kp k1,hZ.kp k1}
   |false=>rw[if_neg zd]at r1⊢;exact{σ,S1,R,Z,aC.ts k1,s1,r1,hR.kp k1,hZ.kp k1},hZ⟩⟩
def Yy(t:iH):TD:=λσ S R Z=>t σ S (λds S1=>ds.length<=sizeLine/\∀p,S1 p=none->R (.ref p) (S1.set p<|.lst ds)) Z
def Yz(t:iH):TD:=λσ S R Z=>t σ S (λds S1=>ds.length<=sizeLine/\R (.tup ds) S1) Z
theorem cG{t:iH}(h:DA K X es t):DE K X (.List es pos) (Yy t):=
 ⟨λy=>(OS<|h.of y).mono <| by rintro τ H Q ⟨σ,S,R,Z,aC,hS,q,hR,hZ⟩;exact
  ⟨σ,S,_,Z,aC,hS,q,by rintro ds S1 xs H1 ⟨hl,r1⟩ v1 s1 k1;exact⟨by rw[v1.len];exact hl,λp hp=>hR _ _ _ _ (r1 p<|s1.fresh hp) (iD p) (s1.new hp ⟨xs,aE,RvAll.ts (.new hp) _ v1⟩)<|k1.trans<|.new hp⟩,hZ⟩⟩
theorem cy{t:iH}(h:DA K X es t):DE K X (.Tuple es x1 pos) (Yz t):=
 ⟨λy=>(OR<|h.of y).mono <| by rintro τ H Q ⟨σ,S,R,Z,aC,hS,q,hR,hZ⟩;exact
  ⟨σ,S,_,Z,aC,hS,q,by rintro ds S1 xs H1 ⟨hl,r1⟩ v1 s1 k1;exact⟨by rw[v1.len];exact hl,λp hp=>hR _ _ _ _ r1 (iE aE<|RvAll.ts (.new hp) _ v1) (s1.grow hp)<|k1.trans<|.new hp⟩,hZ⟩⟩
def YA:TD:=λ_ S R _=>∀p,S p=none->R (.ref p) (S.set p<|.cO [])
theorem TV:DE K X (.Dict [] [] pos) YA:=⟨λy=>(Hw (X:=y.cx)).mono <| by rintro τ H Q ⟨σ,S,R,Z,aC,hS,q,hR,hZ⟩ p hp;exact hR _ _ _ _ (q p<|hS.fresh hp) (iD p) (hS.new hp {[],aE,.nil})<|.new hp⟩
def Lc(K:Frag)(r:List D->ay->KD->Prop):List V->Hp->VK->Prop:=λxs H Q=>∃ds S R,RvAll K H ds xs/\Rs K S H/\r ds S R/\Cn K H R Q
def gZ(K:Frag)(f:Value)(r:List D->ay->KD->Prop):Prop:=∀X:Cx,X.K=K->X.calm=true->eU X f (Lc K r)
def Wh(r:List D->ay->KD->Prop)(t:iH):TD:=λσ S R Z=>t σ S (λds S1=>r ds S1 R) Z
theorem T.cb{t:iH}(h:T K E (Wh r t) τ H Q):XG (Lc K r) (Ta K E t) τ H Q:=by obtain⟨σ,S,R,Z,aC,hS,q,hR,hZ⟩:=h;exact{σ,S,_,Z,aC,hS,q,λds S1 xs H1 r1 v1 s1 k1=>{ds,S1,R,v1,s1,r1,hR.kp k1},hZ}
theorem cb{x:Str}{id:String}{r:List D->ay->KD->Prop}{e:Expr}{es:List Expr}{t:iH}{p pos:Pos}(hc:gZ K (.builtin id) r)(hm:X.mg x=none)(hv:bootBuiltins x=some (.builtin id))(ha:DA K X (e::es) t)(hg:autoParam (Gl X x) qQJ) (hn:autoParam (x≠"__name__") qQZ) (pY:autoParam ((x==("__debug__": Str))=false) qQZ) (he:autoParam (starEach (e::es) X.env=(false,eval e X.env)::starEach es X.env) qQJ) (dO:autoParam ((backTo pos<|starEach es X.env).any (·.1)=false) qQJ) (hK:autoParam (X.K=K) qQJ) (hC:autoParam (X.calm=true) qQJ): DE K X (.Call (.Name x p) (e::es) [] pos) (Wh r t):=⟨λy=>(xy (X:=y.cx) (hc _ hK hC) hg hm hv (ha.of y) hn pY he dO).mono λ_ _ _ h=>h.cb⟩
theorem ct{x:Str}{id:String}{r:List D->ay->KD->Prop}{e:Expr}{es:List Expr}{t:iH}{p pos:Pos}(hc:gZ K (.type id) r)(hm:X.mg x=none)(hv:bootBuiltins x=some (.type id))(ha:DA K X (e::es) t)(hg:autoParam (Gl X x) qQJ) (hn:autoParam (x≠"__name__") qQZ) (pY:autoParam ((x==("__debug__": Str))=false) qQZ) (he:autoParam (starEach (e::es) X.env=(false,eval e X.env)::starEach es X.env) qQJ) (dO:autoParam ((backTo pos<|starEach es X.env).any (·.1)=false) qQJ) (hK:autoParam (X.K=K) qQJ) (hC:autoParam (X.calm=true) qQJ): DE K X (.Call (.Name x p) (e::es) [] pos) (Wh r t):=⟨λy=>(uK (X:=y.cx) (hc _ hK hC) hg hm hv (ha.of y) hn pY he dO).mono λ_ _ _ h=>h.cb⟩
end
section
variable{K:Frag}
theorem Cn.now(h:Cn K H R Q)(hS:Rs K S H)(r:R d S)(rv:Rv K H d v):Q v H:=h d S v H r rv hS<|.refl _
theorem Cn.new{H:Hp}{R:KD}{Q:VK}{S:ay}{p:Addr}{ds:List D}{xs:List V}(h:Cn K H R Q)(hS:Rs K S H)(hp:H p=none)(r:S p=none->R (.ref p) (S.set p<|.lst ds))(rv:RvAll K H ds xs):Q (.ref p) (upd H p<|.lst xs):=h _ _ _ _ (r<|hS.fresh hp) (iD p) (hS.new hp {xs,aE,RvAll.ts (.new hp) _ rv})<|.new hp
theorem Cn.PD{H:Hp}{R:KD}{Q:VK}{S:ay}{p:Addr}{ds:List D}{xs:List V}(h:Cn K H R Q)(hS:Rs K S H)(hp:H p=none)(r:R (.tup ds) S)(rv:RvAll K H ds xs):Q (.ref p) (upd H p<|.tup xs):=h _ _ _ _ r (iE aE<|RvAll.ts (.new hp) _ rv) (hS.grow hp)<|.new hp
theorem Cn.put{H:Hp}{R:KD}{Q:VK}{S:ay}{p:Addr}{ds es:List D}{xs:List V}{d:D}{v:V}(h:Cn K H R Q)(hS:Rs K S H)(hp:S p=some (.lst es))(r:R d<|S.set p<|.lst ds)(rd:Rv K H d v)(rv:RvAll K H ds xs):Q v (upd H p<|.lst xs):=h _ _ _ _ r (Rv.ts (hS.iF hp) _ rd) (hS.put hp {xs,aE,RvAll.ts (hS.iF hp) _ rv})<|hS.iF hp
def p7(S:ay):D->List D->Prop|.ref a,ds=>S a=some (.lst ds)|.iB es,ds=>es=ds|_,_=>False
theorem p7.at{H:Hp}{S:ay}{d:D}{ds:List D}{v:V}(h:p7 S d ds)(hS:Rs K S H)(r:Rv K H d v):∃a xs,v=.ref a/\iZ K H a xs/\RvAll K H ds xs:=by cases d with|ref a=>(obtain⟨xs,e,q⟩:=hS.lst h;exact{a,xs,r.ref,.of e,q})|iB es=>(have h:es=ds:=h;subst h;obtain⟨a,xs,e,q,t⟩:=r.iB;exact⟨a,xs,e,q.sq,t⟩)|_=>exact h.elim
def YB:uR:=λx y S R=>match x,y with|.int i,.int j=>R (.int<|i+j) S|.str a,.str b=>a.length+b.length<=sizeLine/\R (.str<|a++b) S|.tup a,.tup b=>a.length+b.length<=sizeLine/\R (.tup<|a++b) S|.ref a,.ref b=>∃xs ys,S a=some (.lst xs)/\S b=some (.lst ys)/\xs.length+ys.length<=sizeLine/\∀p,S p=none->R (.ref p) (S.set p<|.lst<|xs++ys)|_,_=>False
theorem HU:n8 K (binaryOp .Add) YB:=by rintro X hK hu pins s σ H x y v u Q I rx ry ⟨d,e,S,R,r1,r2,hS,h,hR⟩;subst hK;cases d with|int i=>(cases e with|int j=>exact Hh pins s σ H x y v u Q I rx ry {i,j,r1.int,r2.int,hR.now hS h<|aN _}|_=>exact h.elim)|str i=>(cases e with|str j=>exact rh pins s σ H x y v u Q I rx ry {i,j,r1.str,r2.str,h.1,hR.now hS h.2<|gE _}|_=>exact h.elim)|tup i=>(cases e with|tup j=>(obtain⟨a,xs,rfl,q1,t1⟩:=r1.tup;obtain⟨b,ys,rfl,q2,t2⟩:=r2.tup;refine Li pins s σ H _ _ v u Q I rx ry {a,b,xs,ys,rfl,rfl,.of q1,.of q2,by rw[t1.len,t2.len];exact h.1,λe=>?_,λ_ e=>?_,λ_ _ p hp=>hR.PD hS hp h.2<|t1.app t2};subst e;have:i=[]:=List.length_eq_zero_iff.mp t1.len.symm;subst this;exact hR.now hS h.2<|iE q2 t2;subst e;have:j=[]:=List.length_eq_zero_iff.mp t2.len.symm;subst this;exact hR.now hS h.2<|by rw[List.append_nil];exact iE q1 t1)|_=>exact h.elim)|ref a=>(cases e with|ref b=>(obtain⟨xs,ys,e1,e2,hl,q⟩:=h;obtain⟨vs,h1,t1⟩:=hS.lst e1;obtain⟨ws,h2,t2⟩:=hS.lst e2;exact Hs pins s σ H x y v u Q I rx ry {a,b,vs,ws,r1.ref,r2.ref,h1,h2,by rw[t1.len,t2.len];exact hl,λp hp=>hR.new hS hp (q p)<|t1.app t2})|_=>exact h.elim)|_=>exact h.elim
def YC:uR:=λx y S R=>match x,y with|.int i,.int j=>R (.int<|i-j) S|_,_=>False
theorem g7:n8 K (binaryOp .Sub) YC:=by rintro X hK hu pins s σ H x y v u Q I rx ry ⟨d,e,S,R,r1,r2,hS,h,hR⟩;cases d<;>cases e<;>first|exact False.elim h|exact OH pins s σ H x y v u Q I rx ry {_,_,r1.int,r2.int,hR.now hS h<|aN _}
def YD:uR:=λx y S R=>match x,y with|.int i,.int j=>Kz i j/\R (.int<|i*j) S|.str z,.int n=>MulOk z n/\R (.str<|PySem.Txt.mul z n) S|_,_=>False
theorem kY:n8 K (binaryOp .Mult) YD:=by rintro X hK hu pins s σ H x y v u Q I rx ry ⟨d,e,S,R,r1,r2,hS,h,hR⟩;cases d<;>cases e<;>first|exact False.elim h|exact OI pins s σ H x y v u Q I rx ry {_,_,r1.int,r2.int,h.1,hR.now hS h.2<|aN _}|exact BP pins s σ H x y v u Q I rx ry {_,_,r1.str,r2.int,h.1,hR.now hS h.2<|gE _}
def YE:uR:=λx y S R=>match x,y with|.int i,.int j=>0<j/\R (.int<|i%j) S|_,_=>False
theorem kZ:n8 K (binaryOp .Mod) YE:=by rintro X hK hu pins s σ H x y v u Q I rx ry ⟨d,e,S,R,r1,r2,hS,h,hR⟩;cases d<;>cases e<;>first|exact False.elim h|exact OJ pins s σ H x y v u Q I rx ry {_,_,r1.int,r2.int,h.1,hR.now hS h.2<|aN _}
def TY:uR:=λx y S R=>match x,y with|.int i,.int j=>M8 i j/\R (.int<|i/j) S|_,_=>False
theorem vT:n8 K (binaryOp .FloorDiv) TY:=by rintro X hK hu pins s σ H x y v u Q I rx ry ⟨d,e,S,R,r1,r2,hS,h,hR⟩;cases d<;>cases e<;>first|exact False.elim h|exact HA pins s σ H x y v u Q I rx ry {_,_,r1.int,r2.int,h.1,hR.now hS h.2<|aN _}
def YF:uR:=λx y S R=>match x,y with|.int i,.int j=>Sr i j/\R (.int<|i^j.toNat) S|_,_=>False
theorem DV:n8 K (binaryOp .Pow) YF:=by rintro X hK hu pins s σ H x y v u Q I rx ry ⟨d,e,S,R,r1,r2,hS,h,hR⟩;cases d<;>cases e<;>first|exact False.elim h|exact OL pins s σ H x y v u Q I rx ry {_,_,r1.int,r2.int,h.1,hR.now hS h.2<|aN _}
def HV(f:Int->Int->Bool)(g:Str->Str->Bool):uR:=λx y S R=>match x,y with|.int i,.int j=>R (.bl<|f i j) S|.str i,.str j=>R (.bl<|g i j) S|_,_=>False
theorem DX(h1:∀X:Cx,gy X (compareOp op)<|Kx λi j=>.bl<|f i j) (h2:∀X:Cx,gy X (compareOp op) λx y H Q=>∃i j,x=.str i/\y=.str j/\Q (.bl<|g i j) H):n8 K (compareOp op) (HV f g):=by rintro X hK hu pins s σ H x y v u Q I rx ry ⟨d,e,S,R,r1,r2,hS,h,hR⟩;cases d<;>cases e<;>first|exact False.elim h|exact h1 X pins s σ H x y v u Q I rx ry {_,_,r1.int,r2.int,hR.now hS h<|bG _}|exact h2 X pins s σ H x y v u Q I rx ry {_,_,r1.str,r2.str,hR.now hS h<|bG _}
theorem mF:n8 K (compareOp .Lt) (HV (λi j=>decide<|i<j) λi j=>ph i j):=DX (λ_=>Su) λ_=>E_
theorem jy:n8 K (compareOp .LtE) (HV (λi j=>decide<|i<=j) λi j=>G1 i j):=DX (λ_=>Sv) λ_=>Fv
theorem n_:n8 K (compareOp .Gt) (HV (λi j=>decide<|j<i) λi j=>ph j i):=DX (λ_=>Sw) λ_=>Fx
theorem YG:n8 K (compareOp .GtE) (HV (λi j=>decide<|j<=i) λi j=>G1 j i):=DX (λ_=>Sy) λ_=>Fw
noncomputable def ah:D->Bool|.av=>true|_=>false
theorem xQ(r:Rv K H d v):decide (v=.av)=ah d:=by cases d with|av=>rw[r.av];rfl|bl b=>rw[r.bl];rfl|int b=>rw[r.int];rfl|str b=>rw[r.str];rfl|ref b=>rw[r.ref];rfl|ty b=>rw[r.ty];rfl|tup b=>(obtain⟨a,xs,rfl,_⟩:=r.tup;rfl)|iB b=>(obtain⟨a,xs,rfl,_⟩:=r.iB;rfl)|kt b=>obtain⟨a,xs,rfl,_⟩:=r.kt;rfl
def Ry:uR:=λx y S R=>match y with|.av=>R (.bl<|ah x) S|_=>False
def TZ:uR:=λx y S R=>match y with|.av=>R (.bl<|!ah x) S|_=>False
theorem fP:n8 K (compareOp .Is) Ry:=by rintro X hK hu pins s σ H x y v u Q I rx ry ⟨d,e,S,R,r1,r2,hS,h,hR⟩;cases e<;>first|exact False.elim h|exact ON pins s σ H x y v u Q I rx ry {r2.av,by rw[xQ r1];exact hR.now hS h<|bG _}
theorem lM:n8 K (compareOp .IsNot) TZ:=by rintro X hK hu pins s σ H x y v u Q I rx ry ⟨d,e,S,R,r1,r2,hS,h,hR⟩;cases e<;>first|exact False.elim h|exact KA pins s σ H x y v u Q I rx ry {r2.av,by rw[xQ r1];exact hR.now hS h<|bG _}
mutual
def Dp(S:ay):D->PyData->Prop|.av,p=>p=.none|.bl b,p=>p=.bool b|.int i,p=>p=.int i|.str z,p=>p=.str z|.tup ds,p=>∃ps,p=.tuple ps/\DpAll S ds ps|.iB ds,p=>∃ps,p=.list ps/\DpAll S ds ps|.kt _,_=>False|.ref _,_=>False|.ty _,_=>False
def DpAll(S:ay):List D->List PyData->Prop|[],ps=>ps=[]|d::ds,ps=>∃q qs,ps=q::qs/\Dp S d q/\DpAll S ds qs
end
mutual
theorem Dp.dt:∀(d:D){p:PyData}{v:V},Dp S d p->Rv K H d v->Dt K H p v|.av,p,v,h,r=>by simp only[Dp]at h;subst h;simp only[Dt];exact r.av|.bl b,p,v,h,r=>by simp only[Dp]at h;subst h;simp only[Dt];exact r.bl|.int b,p,v,h,r=>by simp only[Dp]at h;subst h;simp only[Dt];exact r.int|.str b,p,v,h,r=>by simp only[Dp]at h;subst h;simp only[Dt];exact r.str|.tup ds,p,v,h,r=>(by simp only[Dp]at h;obtain⟨ps,rfl,h⟩:=h;obtain⟨a,xs,rfl,q,t⟩:=r.tup;simp only[Dt];exact{a,xs,rfl,.of q,DpAll.dt ds h t})|.iB ds,p,v,h,r=>(by simp only[Dp]at h;obtain⟨ps,rfl,h⟩:=h;obtain⟨a,xs,rfl,q,t⟩:=r.iB;simp only[Dt];exact{a,xs,rfl,q.sq,DpAll.dt ds h t})|.kt a,p,v,h,r=>by simp only[Dp]at h|.ref a,p,v,h,r=>by simp only[Dp]at h|.ty a,p,v,h,r=>by simp only[Dp]at h
theorem DpAll.dt:∀(ds:List D){ps:List PyData}{vs:List V},DpAll S ds ps->RvAll K H ds vs->DtAll K H ps vs|[],ps,vs,h,r=>by simp only[DpAll]at h;subst h;rw[r.nil];simp only[DtAll]|d::ds,ps,vs,h,r=>by simp only[DpAll]at h;obtain⟨q,qs,rfl,h1,h2⟩:=h;obtain⟨y,ys,rfl,r1,r2⟩:=r.cons;simp only[DtAll];exact{y,ys,rfl,Dp.dt d h1 r1,DpAll.dt ds h2 r2}
end
def Dl(S:ay):D->PyData->Prop|.ref a,p=>∃ds ps,S a=some (.lst ds)/\p=.list ps/\DpAll S ds ps|d,p=>Dp S d p
theorem Dl.dt(h:Dl S d p)(hS:Rs K S H)(r:Rv K H d v):Dt K H p v:=by cases d with|ref a=>(obtain⟨ds,ps,e,rfl,h⟩:=h;obtain⟨xs,e1,t⟩:=hS.lst e;rw[r.ref];simp only[Dt];exact{a,xs,rfl,.of e1,DpAll.dt ds h t})|_=>exact Dp.dt _ h r
def HW(neg:Bool):uR:=λx y S R=>match x,y with|.int i,.int j=>(R (.bl<|if neg then !decide (i=j) else decide (i=j)) S)|.str i,.str j=>(R (.bl<|if neg then !decide (i=j) else decide (i=j)) S)|x,y=>∃p q,Dl S x p/\Dl S y q/\p.canLay0=true/\q.canLay0=true/\(p.depth<=64\/q.depth<=64)/\R (.bl<|if neg then !PyData.eqv p q else PyData.eqv p q) S
theorem HX(h:HW neg x y S R):(∃i j,x=.int i/\y=.int j/\R (.bl<|if neg then !decide (i=j) else decide (i=j)) S)\/(∃i j,x=.str i/\y=.str j/\R (.bl<|if neg then !decide (i=j) else decide (i=j)) S)\/∃p q,Dl S x p/\Dl S y q/\p.canLay0=true/\q.canLay0=true/\(p.depth<=64\/q.depth<=64)/\R (.bl<|if neg then !PyData.eqv p q else PyData.eqv p q) S:=by cases x<;>cases y<;>first|exact .inl {_,_,rfl,rfl,h}|exact .inr (.inl {_,_,rfl,rfl,h})|exact .inr (.inr h)
theorem aL:n8 K (compareOp .Eq) (HW false):=by
 rintro X hK hu pins s σ H x y v u Q I rx ry ⟨d,e,S,R,r1,r2,hS,h,hR⟩;subst hK;rcases HX h with⟨i,j,rfl,rfl,h⟩|⟨i,j,rfl,rfl,h⟩|⟨p,q,h1,h2,c1,c2,dp,h⟩;cases r1.int;cases r2.int;refine MZ pins s σ H _ _ v u Q I rx ry {rfl,?_};have e:decide (V.int i=V.int j)=decide (i=j):=by simp
 rw[e];exact hR.now hS h<|bG _;cases r1.str;cases r2.str;refine MZ pins s σ H _ _ v u Q I rx ry {rfl,?_};have e:decide (V.str i=V.str j)=decide (i=j):=by simp
 rw[e];exact hR.now hS h<|bG _;exact HH hu pins s σ H x y v u Q I rx ry {p,q,h1.dt hS r1,h2.dt hS r2,c1,c2,dp,hR.now hS h<|bG _}
theorem iI:n8 K (compareOp .NotEq) (HW true):=by
 rintro X hK hu pins s σ H x y v u Q I rx ry ⟨d,e,S,R,r1,r2,hS,h,hR⟩;subst hK;rcases HX h with⟨i,j,rfl,rfl,h⟩|⟨i,j,rfl,rfl,h⟩|⟨p,q,h1,h2,c1,c2,dp,h⟩;cases r1.int;cases r2.int;refine M0 pins s σ H _ _ v u Q I rx ry {rfl,?_};have e:decide (V.int i=V.int j)=decide (i=j):=by simp
 rw[e];exact hR.now hS h<|bG _;cases r1.str;cases r2.str;refine M0 pins s σ H _ _ v u Q I rx ry {rfl,?_};have e:decide (V.str i=V.str j)=decide (i=j):=by simp
 rw[e];exact hR.now hS h<|bG _;exact HI hu pins s σ H x y v u Q I rx ry {p,q,h1.dt hS r1,h2.dt hS r2,c1,c2,dp,hR.now hS h<|bG _}
noncomputable def cn(kvs:List<|Key×D)(k:Key):Option D:=(kvs.find? λkv=>decide<|kv.1=k).map (·.2)
noncomputable def dput(kvs:List<|Key×D)(k:Key)(v:D):List (Key×D):=if (kvs.any λkv=>decide<|kv.1=k)=true then kvs.map (λkv=>if kv.1=k then (kv.1,v) else kv) else kvs++[(k,v)]
noncomputable def xR(kvs:List<|Key×D)(k:Key):List (Key×D):=kvs.filter λkv=>decide<|kv.1≠k
theorem bY.val(h:bY K H ks vs)(k:Key):(∀d,cn ks k=some d->∃v,fO vs k=some v/\Rv K H d v)/\(cn ks k=none->fO vs k=none):=by induction h with|nil=>(exact{λd e=>(by cases e),λ_=>rfl})|@cons a b l m r t ih=>obtain⟨k',d⟩:=a;obtain⟨k'',v⟩:=b;obtain⟨e0,r⟩:=r;dsimp only at e0;subst e0;unfold cn fO;simp only[zW];by_cases q:k'=k;rw[zw q];exact{λd' e=>{v,rfl,(by cases e;exact r)},λe=>(by cases e)};rw[zu q];exact ih
theorem bY.any(h:bY K H ks vs)(k:Key):(ks.any λkv=>decide<|kv.1=k)=(vs.any λkv=>decide<|kv.1=k):=by induction h with|nil=>rfl|cons r t ih=>rw[yN,yN,ih,r.1]
theorem bY.len(h:bY K H ks vs):vs.length=ks.length:=(yG h).symm
theorem bY.app:∀{ks ls:List (κ×D)}{vs ws:List (κ×V)},bY K H ks vs->bY K H ls ws->bY K H (ks++ls) (vs++ws)|_,_,_,_,.nil,h=>h|_,_,_,_,.cons r t,h=>.cons r<|bY.app t h
theorem bY.O7(h:bY K H ks vs)(k:Key)(rd:Rv K H d v):bY K H (ks.map λkv=>if kv.1=k then (kv.1,d) else kv) (vs.map λkv=>if kv.1=k then (kv.1,v) else kv):=by induction h with|nil=>exact .nil|@cons a b l m r t ih=>refine .cons ?_ ih;dsimp only;by_cases q:b.1=k;rw[if_pos q,if_pos<|r.1.trans q];exact⟨r.1,rd⟩;rw[if_neg q,if_neg λz=>q<|r.1.symm.trans z];exact r
theorem bY.put(h:bY K H ks vs)(k:Key)(rd:Rv K H d v):bY K H (dput ks k d) (putK vs k v):=by unfold dput putK;rw[h.any k];split;exact h.O7 k rd;exact h.app<|.cons ⟨rfl,rd⟩ .nil
theorem bY.drop(h:bY K H ks vs)(k:Key):bY K H (xR ks k) (pe vs k):=by unfold xR pe;induction h with|nil=>exact .nil|@cons a b l m r t ih=>rw[yp,yp,r.1];by_cases q:b.1=k;rw[if_neg<|by simp[q],if_neg<|by simp[q]];exact ih;rw[if_pos<|by simp[q],if_pos<|by simp[q]];exact .cons r ih
noncomputable def BY:D->Option Key|.int i=>some (.inl i)|.str z=>some (.inr z)|_=>none
theorem lN(h:BY d=some k)(r:Rv K H d v):v=kV k:=by cases d with|int i=>(cases h;exact r.int)|str i=>(cases h;exact r.str)|_=>cases h
noncomputable def i9:D->Bool|.av=>true|.bl _=>true|.int _=>true|.str _=>true|_=>false
noncomputable def kI:D->V|.av=>.av|.bl b=>.bl b|.int i=>.int i|.str z=>.str z|.ref a=>.ref a|.ty n=>.ty n|_=>.av
theorem jz(h:i9 d=true)(r:Rv K H d v):v=kI d/\gW v=true:=by cases d with|av=>(cases r.av;exact⟨rfl,rfl⟩)|bl b=>(cases r.bl;exact⟨rfl,rfl⟩)|int b=>(cases r.int;exact⟨rfl,rfl⟩)|str b=>(cases r.str;exact⟨rfl,rfl⟩)|_=>cases h
theorem fT:∀{ds:List D}{vs:List V},ds.all i9=true->RvAll K H ds vs->vs=ds.map kI/\vs.all gW=true|[],vs,_,r=>by rw[r.nil];exact⟨rfl,rfl⟩|d::ds,vs,h,r=>by obtain⟨y,ys,rfl,r1,r2⟩:=r.cons;rw[List.all_cons,zL]at h;obtain⟨e1,f1⟩:=jz h.1 r1;obtain⟨e2,f2⟩:=fT h.2 r2;refine{by rw[e1,e2];rfl,?_};rw[List.all_cons,f1,f2];rfl
def inD(neg:Bool):uR:=λx y S R=>match y with|.str j=>(∃i,x=.str i/\R (.bl<|if neg then !(!(Builtin.Str.occurrences j i 0 j.length 1).isEmpty) else !(Builtin.Str.occurrences j i 0 j.length 1).isEmpty) S)|.kt ds=>(i9 x=true/\ds.all i9=true/\R (.bl<|if neg then !vI (kI x) (ds.map kI) else vI (kI x) (ds.map kI)) S)|.tup ds=>(i9 x=true/\ds.all i9=true/\R (.bl<|if neg then !vI (kI x) (ds.map kI) else vI (kI x) (ds.map kI)) S)|.ref a=>((∃ds,S a=some (.lst ds)/\i9 x=true/\ds.all i9=true/\R (.bl<|if neg then !vI (kI x) (ds.map kI) else vI (kI x) (ds.map kI)) S)\/∃kvs k,S a=some (.cO kvs)/\BY x=some k/\R (.bl<|if neg then !(cn kvs k).isSome else (cn kvs k).isSome) S)|_=>False
theorem qF(hS:Rs K S H)(e:S a=some (.cO kvs)):∃o,nZ H a (kV k) o/\o.isSome=(cn kvs k).isSome/\∀d,cn kvs k=some d->∃v,o=some v/\Rv K H d v:=by obtain⟨vs,e1,t⟩:=hS.cO e;refine{_,nZ.k e1,?_,λd h=>(t.val k).1 d h};cases q:cn kvs k with|none=>rw[(t.val k).2 q];rfl|some d=>obtain⟨v,e2,_⟩:=(t.val k).1 d q;rw[e2];rfl
theorem xS:n8 K (compareOp .In) (inD false):=by rintro X hK hu pins s σ H x y v u Q I rx ry ⟨d,e,S,R,r1,r2,hS,h,hR⟩;subst hK;cases e with|str j=>(obtain⟨i,rfl,h⟩:=h;exact Fc pins s σ H x y v u Q I rx ry {i,j,r1.str,r2.str,hR.now hS h<|bG _})|tup ds=>(obtain⟨f1,f2,h⟩:=h;obtain⟨a,xs,rfl,q,t⟩:=r2.tup;obtain⟨e1,g1⟩:=jz f1 r1;obtain⟨e2,g2⟩:=fT f2 t;subst e1 e2;exact nY pins s σ H _ _ v u Q I rx ry {a,_,rfl,.inr<|.of q,g1,g2,hR.now hS h<|bG _})|kt ds=>(obtain⟨f1,f2,h⟩:=h;obtain⟨a,xs,rfl,q,t⟩:=r2.kt;obtain⟨e1,g1⟩:=jz f1 r1;obtain⟨e2,g2⟩:=fT f2 t;subst e1 e2;exact nY pins s σ H _ _ v u Q I rx ry {a,_,rfl,.inr<|.inr q,g1,g2,hR.now hS h<|bG _})|ref a=>(cases r2.ref;rcases h with⟨ds,e,f1,f2,h⟩|⟨kvs,k,e,hk,h⟩;obtain⟨xs,e1,t⟩:=hS.lst e;obtain⟨e2,g1⟩:=jz f1 r1;obtain⟨e3,g2⟩:=fT f2 t;subst e2 e3;exact nY pins s σ H _ _ v u Q I rx ry {a,_,rfl,.inl<|.of e1,g1,g2,hR.now hS h<|bG _};cases lN hk r1;cases ry;obtain⟨o,g,e1,_⟩:=qF (k:=k) hS e;refine XW (by lia) I g rx λs' I'=>{.bl o.isSome,H,I',rfl,?_};rw[e1];exact hR.now hS h<|bG _)|_=>exact h.elim
theorem T4:n8 K (compareOp .NotIn) (inD true):=by rintro X hK hu pins s σ H x y v u Q I rx ry ⟨d,e,S,R,r1,r2,hS,h,hR⟩;subst hK;cases e with|str j=>(obtain⟨i,rfl,h⟩:=h;exact vF pins s σ H x y v u Q I rx ry {i,j,r1.str,r2.str,hR.now hS h<|bG _})|tup ds=>(obtain⟨f1,f2,h⟩:=h;obtain⟨a,xs,rfl,q,t⟩:=r2.tup;obtain⟨e1,g1⟩:=jz f1 r1;obtain⟨e2,g2⟩:=fT f2 t;subst e1 e2;exact iA pins s σ H _ _ v u Q I rx ry {a,_,rfl,.inr<|.of q,g1,g2,hR.now hS h<|bG _})|kt ds=>(obtain⟨f1,f2,h⟩:=h;obtain⟨a,xs,rfl,q,t⟩:=r2.kt;obtain⟨e1,g1⟩:=jz f1 r1;obtain⟨e2,g2⟩:=fT f2 t;subst e1 e2;exact iA pins s σ H _ _ v u Q I rx ry {a,_,rfl,.inr<|.inr q,g1,g2,hR.now hS h<|bG _})|ref a=>(cases r2.ref;rcases h with⟨ds,e,f1,f2,h⟩|⟨kvs,k,e,hk,h⟩;obtain⟨xs,e1,t⟩:=hS.lst e;obtain⟨e2,g1⟩:=jz f1 r1;obtain⟨e3,g2⟩:=fT f2 t;subst e2 e3;exact iA pins s σ H _ _ v u Q I rx ry {a,_,rfl,.inl<|.of e1,g1,g2,hR.now hS h<|bG _};cases lN hk r1;cases ry;obtain⟨o,g,e1,_⟩:=qF (k:=k) hS e;refine K0 (by lia) I g rx λs' I'=>{.bl<|!o.isSome,H,I',rfl,?_};rw[e1];exact hR.now hS h<|bG _)|_=>exact h.elim
def IxD(K:Frag)(r:uR):Prop:=∀X:Cx,X.K=K->X.A.units+64<cLine->SJ X (Lr K r)
inductive Wi (ds:List D) (i:Int) (S:ay) (R:KD):Prop where
 |mk (d:D) (h:rl ds i=some d) (r:R d S):Wi ds i S R
inductive YH (a:Addr) (i:Int) (S:ay) (R:KD):Prop where
 |mk (ds:List D) (d:D) (e:S a=some (.lst ds)) (h:rl ds i=some d) (r:R d S):YH a i S R
def Wj:uR:=λx y S R=>match x,y with|.tup ds,.int i=>Wi ds i S R|.kt ds,.int i=>Wi ds i S R|.iB ds,.int i=>Wi ds i S R|.str z,.int i=>∃c,z.length<=sizeLine/\rl z.cps.toList i=some c/\R (.str ⟨#[c]⟩) S|.ref a,.int i=>YH a i S R|.ref a,.str z=>∃kvs d,S a=some (.cO kvs)/\cn kvs (.inr z)=some d/\R d S|_,_=>False
theorem RvAll.at{H:Hp}{ds:List D}{xs:List V}{i:Int}{d:D}(h:RvAll K H ds xs)(e:rl ds i=some d):∃v,rl xs i=some v/\Rv K H d v:=by unfold rl at e⊢;rw[h.len];cases q:KW ds.length i with|none=>(rw[q]at e;cases e)|some j=>rw[q]at e;exact h.get e
theorem YI:IxD K Wj:=by rintro X hK hu value slice pins s σ H x y v u Q I rx ry ⟨d,e,S,R,r1,r2,hS,h,hR⟩ hs;subst hK;cases d with|tup ds=>(cases e with|int i=>(obtain⟨d,e,h⟩:=h;obtain⟨a,xs,rfl,q,t⟩:=r1.tup;obtain⟨z,e1,r⟩:=t.at e;exact Ho value slice pins s σ H _ _ v u Q I rx ry {a,xs,i,z,rfl,r2.int,.of q,e1,hR.now hS h r} hs)|_=>exact h.elim)|kt ds=>(cases e with|int i=>(obtain⟨d,e,h⟩:=h;obtain⟨a,xs,rfl,q,t⟩:=r1.kt;obtain⟨z,e1,r⟩:=t.at e;exact Ho value slice pins s σ H _ _ v u Q I rx ry {a,xs,i,z,rfl,r2.int,.inr q,e1,hR.now hS h r} hs)|_=>exact h.elim)|iB ds=>(cases e with|int i=>(obtain⟨d,e,h⟩:=h;obtain⟨a,xs,rfl,q,t⟩:=r1.iB;obtain⟨z,e1,r⟩:=t.at e;exact DJ value slice pins s σ H _ _ v u Q I rx ry {a,xs,i,z,rfl,r2.int,q.sq,e1,hR.now hS h r} hs)|_=>exact h.elim)|str w=>(cases e with|int i=>(obtain⟨c,e0,e,h⟩:=h;exact OY value slice pins s σ H _ _ v u Q I rx ry {w,i,c,r1.str,r2.int,e0,e,hR.now hS h<|gE _} hs)|_=>exact h.elim)|ref a=>(cases e with|int i=>(obtain⟨ds,d,e,e1,h⟩:=h;obtain⟨xs,e2,t⟩:=hS.lst e;obtain⟨z,e3,r⟩:=t.at e1;exact DJ value slice pins s σ H _ _ v u Q I rx ry {a,xs,i,z,r1.ref,r2.int,.of e2,e3,hR.now hS h r} hs)|str w=>(obtain⟨kvs,d,e,e1,h⟩:=h;cases r1.ref;cases r2.str;cases rx;obtain⟨o,g,_,e2⟩:=qF (k:=.inr w) hS e;obtain⟨z,rfl,r⟩:=e2 d e1;exact tail_any (xD I g) PySem.F.slot_dict_getitem.lookup (Fp (by lia) I g ry λw' s' I' tQ=>{z,H,I',tQ,hR.now hS h r}) hs)|_=>exact h.elim)|_=>exact h.elim
theorem ix(hu:X.A.units+64<cLine)(ha:DE K X a ta)(hb:DE K X b tb)(hs:DH b:=by exact λ_ _=>rfl)(hK:autoParam (X.K=K) qQJ):DE K X (.Subscript a b pos) (PB Wj ta tb):=⟨λy=>(SK (YI y.cx hK hu) (ha.of y) (hb.of y) hs).mono λ_ _ _ h=>h.op⟩
end
section
variable{K:Frag}{X:Cx}
abbrev Nh:=SD->ay->(Option Int->ay->Prop)->KX->Prop
def To(K:Frag)(E:St->XK)(t:Nh):TO:=λτ H Q=>∃σ S R Z,iG K H σ τ/\Rs K S H/\t σ S R Z/\(∀o S' H',R o S'->Rs K S' H'->Kp K H H'->Q o H')/\FI K H Z (E τ)
structure DO(K:Frag)(X:Cx)(e:Option Expr)(t:Nh):Prop where
 of:∀{b:Bool}(y:Ev X b),PO y.cx e<|To K y.E t
theorem PO.mono{t t':TO}(h:PO X e t)(i:∀τ H Q,t' τ H Q->t τ H Q):PO X e t':=λpins s τ H Q I q=>h pins s τ H Q I<|i τ H Q q
def T5:Nh:=λ_ S R _=>R none S
inductive T6 (d:D) (S:ay) (R:Option Int->ay->Prop):Prop where
 |mk (i:Int) (h:d=.int i) (r:R (some i) S):T6 d S R
def T7(t:TD):Nh:=λσ S R Z=>t σ S (λd S1=>T6 d S1 R) Z
theorem o0:DO K X none T5:=⟨λy=>(KQ (X:=y.cx)).mono <| by rintro τ H Q ⟨σ,S,R,Z,aC,hS,q,hR,hZ⟩;exact hR _ S H q hS<|.refl _⟩
theorem o1{t:TD}(h:DE K X e t):DO K X (some e) (T7 t):=⟨λy=>(KR<|h.of y).mono <| by rintro τ H Q ⟨σ,S,R,Z,aC,hS,q,hR,hZ⟩;exact{σ,S,_,Z,aC,hS,q,by rintro d S1 x H1 ⟨i,e,r1⟩ v1 s1 k1;exact by subst e;exact{i,v1.int,hR _ S1 H1 r1 s1 k1},hZ}⟩
noncomputable def e_{α:Type}(xs:List α)(lo hi:Option Int):List α:=(xs.drop<|HT.sIx xs.length 0 lo).take<|HT.sIx xs.length xs.length hi-HT.sIx xs.length 0 lo
theorem RvAll.cut{H:Hp}{ds:List D}{xs:List V}(h:RvAll K H ds xs)(lo hi:Option Int):RvAll K H (e_ ds lo hi) (xB xs lo hi):=by unfold e_ xB;rw[h.len];exact(h.drop _).take _
def slD:D->Option Int->Option Int->ay->KD->Prop:=λx lo hi S R=>match x with|.str z=>z.length<=sizeLine/\R (.str<|PySem.Txt.slice z lo hi) S|.tup ds=>¬(HT.sIx ds.length 0 lo=0/\HT.sIx ds.length ds.length hi=ds.length)/\R (.tup<|e_ ds lo hi) S|.ref a=>∃ds,S a=some (.lst ds)/\∀p,S p=none->R (.ref p) (S.set p<|.lst<|e_ ds lo hi)|.iB ds=>∀p,S p=none->R (.ref p) (S.set p<|.lst<|e_ ds lo hi)|_=>False
def Lsl(K:Frag):V->Option Int->Option Int->Hp->VK->Prop:=λx lo hi H Q=>∃d S R,Rv K H d x/\Rs K S H/\slD d lo hi S R/\Cn K H R Q
theorem YJ(hK:X.K=K):Rh X (Lsl K):=by rintro pins s σ H x v vl vu lo hi sl Q I rx hs pl pu ⟨d,S,R,r1,hS,h,hR⟩;subst hK;cases d with|str z=>exact Pz pins s σ H x v vl vu lo hi sl Q I rx hs pl pu {z,r1.str,h.1,hR.now hS h.2<|gE _}|tup ds=>(obtain⟨a,xs,rfl,q,t⟩:=r1.tup;exact OX pins s σ H _ v vl vu lo hi sl Q I rx hs pl pu {a,xs,rfl,.of q,by rw[t.len];exact h.1,λp hp=>hR.PD hS hp h.2<|t.cut lo hi})|ref a=>(obtain⟨ds,e,h⟩:=h;obtain⟨xs,e1,t⟩:=hS.lst e;exact qD pins s σ H _ v vl vu lo hi sl Q I rx hs pl pu {a,xs,r1.ref,.of e1,λp hp=>hR.new hS hp (h p)<|t.cut lo hi})|iB ds=>(obtain⟨a,xs,rfl,q,t⟩:=r1.iB;exact qD pins s σ H _ v vl vu lo hi sl Q I rx hs pl pu {a,xs,rfl,q.sq,λp hp=>hR.new hS hp (h p)<|t.cut lo hi})|_=>exact h.elim
def dSl(te:TD)(tl th:Nh):TD:=λσ S R Z=>te σ S (λx S1=>tl σ S1 (λl S2=>th σ S2 (λu S3=>slD x l u S3 R) Z) Z) Z
theorem sl{e:Expr}{lo hi:Option Expr}{te:TD}{tl th:Nh}{p2 pos:Pos}(he:DE K X e te)(hl:DO K X lo tl)(hu:DO K X hi th)(hK:autoParam (X.K=K) qQJ):DE K X (.Subscript e (.Slice lo hi none p2) pos) (dSl te tl th):=
 ⟨λy=>(xA (X:=y.cx) (YJ hK) (he.of y) (hl.of y)<|hu.of y).mono <| by rintro τ H Q ⟨σ,S,R,Z,aC,hS,q,hR,hZ⟩;exact
  ⟨σ,S,_,Z,aC,hS,q,λd S1 x H1 r1 v1 s1 k1=>⟨σ,S1,_,Z,aC.ts k1,s1,r1,λl S2 H2 r2 s2 k2=>⟨σ,S2,_,Z,aC.ts<|k1.trans k2,s2,r2,λu S3 H3 r3 s3 k3=>⟨d,S3,R,Rv.ts (k2.trans k3) _ v1,s3,r3,hR.kp<|(k1.trans k2).trans k3⟩,hZ.kp<|k1.trans k2⟩,hZ.kp k1⟩,hZ⟩⟩
def YK(te:TD):TD:=λσ S R Z=>te σ S (λx S1=>∃i,x=.int i/\R (.int (-i)) S1) Z
theorem HY(he:DE K X e te):DE K X (.UnaryOp .USub e pos) (YK te):=⟨λy=>(So OM<|he.of y).mono <| by rintro τ H Q ⟨σ,S,R,Z,aC,hS,q,hR,hZ⟩;exact{σ,S,_,Z,aC,hS,q,by rintro d S1 x H1 ⟨i,e,r1⟩ v1 s1 k1;exact by subst e;exact{i,v1.int,hR _ S1 _ H1 r1 (aN _) s1 k1},hZ}⟩
def YL(T:String)(S:ay):D->Prop|.str _=>T ="str"|.ref a=>T ="list"/\∃ds,S a=some (.lst ds)|.iB _=>T ="list"|_=>False
theorem Ni{H:Hp}{S:ay}{T:String}{d:D}{v:V}(h:YL T S d)(hS:Rs K S H)(r:Rv K H d v):V7 K T v H:=by cases d with|str z=>rw[r.str];exact h|ref a=>(obtain⟨e,ds,h⟩:=h;obtain⟨xs,e1,_⟩:=hS.lst h;rw[r.ref];exact .inl {e,xs,.of e1})|iB ds=>(obtain⟨a,xs,rfl,q,_⟩:=r.iB;exact .inl ⟨h,xs,q.sq⟩)|_=>exact h.elim
abbrev G6:=D->List D->ay->KD->Prop
def Lm(K:Frag)(r:G6):V->List V->Hp->VK->Prop:=λx xs H Q=>∃d ds S R,Rv K H d x/\RvAll K H ds xs/\Rs K S H/\r d ds S R/\Cn K H R Q
def Nj(K:Frag)(id:String)(r:G6):Prop:=∀X:Cx,X.K=K->Ri X id (Lm K r)
def dBM(T:String)(r:G6)(to:TD)(t:iH):TD:=λσ S R Z=>to σ S (λx S1=>YL T S1 x/\t σ S1 (λds S2=>r x ds S2 R) Z) Z
def YM(T:String)(r:G6)(to:TD):TD:=λσ S R Z=>to σ S (λx S1=>YL T S1 x/\r x [] S1 R) Z
theorem bm{o e:Expr}{es:List Expr}{T id:String}{name:Str}{r:G6}{to:TD}{t:iH}{apos aT:Pos}(pa:PlainAttrs T)(slot:Slot T name id)(O4:typeOf (.builtin id)=pure (.type "method_descriptor"))(hm:Nj K id r)(ho:DE K X o to)(ha:DA K X (e::es) t) (my:autoParam (attributeBase o name X.env (eval o X.env)=eval o X.env) qQJ) (O5:autoParam (((backTo aT<|starEach (e::es) X.env).all (λx=>!x.1)&&(backToKw aT<|keywordEach [] X.env).all (λx=>x.1.isSome)&&decide ((e::es).length+([]:List Keyword).length+(if ([]:List Keyword).isEmpty then 0 else 1)<30))=true) qQJ) (rm:autoParam ((apos.endLine==aT.line)=true) qQJ) (hs:autoParam (starEach (e::es) X.env=(false,eval e X.env)::starEach es X.env) qQJ) (Bx:autoParam ((backTo aT<|starEach es X.env).any (·.1)=false) qQJ) (hK:autoParam (X.K=K) qQJ): DE K X (.Call (.Attribute o name apos) (e::es) [] aT) (dBM T r to t):=by
 subst hK
 exact⟨λy=>(SN (X:=y.cx) pa slot O4 (hm _ rfl) (ho.of y) (ha.of y) my O5 rm hs Bx).mono <| by rintro τ H Q ⟨σ,S,R,Z,aC,hS,q,hR,hZ⟩;exact
  ⟨σ,S,_,Z,aC,hS,q,by rintro d S1 x H1 ⟨h1,r1⟩ v1 s1 k1;exact⟨Ni h1 s1 v1,σ,S1,_,Z,aC.ts k1,s1,r1,λds S2 xs H2 r2 v2 s2 k2=>⟨d,ds,S2,R,Rv.ts k2 _ v1,v2,s2,r2,hR.kp<|k1.trans k2⟩,hZ.kp k1⟩,hZ⟩⟩
theorem bm0{o:Expr}{T id:String}{name:Str}{r:G6}{to:TD}{apos aT:Pos}(pa:PlainAttrs T)(slot:Slot T name id)(O4:typeOf (.builtin id)=pure (.type "method_descriptor"))(hm:Nj K id r)(ho:DE K X o to) (my:autoParam (attributeBase o name X.env (eval o X.env)=eval o X.env) qQJ) (rm:autoParam ((apos.endLine==aT.line)=true) qQJ) (hK:autoParam (X.K=K) qQJ): DE K X (.Call (.Attribute o name apos) [] [] aT) (YM T r to):=by
 subst hK
 exact⟨λy=>(O3 (X:=y.cx) pa slot O4 (hm _ rfl) (ho.of y) my rm).mono <| by rintro τ H Q ⟨σ,S,R,Z,aC,hS,q,hR,hZ⟩;exact
  ⟨σ,S,_,Z,aC,hS,q,by rintro d S1 x H1 ⟨h1,r1⟩ v1 s1 k1;exact⟨Ni h1 s1 v1,d,[],S1,R,v1,bD,s1,r1,hR.kp k1⟩,hZ⟩⟩
theorem RvAll.one(h:RvAll K H [d] xs):∃v,xs=[v]/\Rv K H d v:=by obtain⟨y,ys,rfl,h1,h2⟩:=h.cons;rw[h2.nil];exact⟨y,rfl,h1⟩
inductive T8 (x:D) (ds:List D) (S:ay) (R:KD):Prop where
 |mk (a:Addr) (es:List D) (d:D) (e1:x=.ref a) (e2:ds=[d]) (e3:S a=some (.lst es)) (e4:es.length<sizeLine) (r:R .av<|S.set a<|.lst<|es++[d]):T8 x ds S R
def LC:G6:=λx ds S R=>T8 x ds S R
theorem du:Nj K "list.append" LC:=by rintro X hK pins s σ H x xs v us Q I rx rs ⟨d,ds,S,R,r1,r2,hS,⟨a,es,y,e1,e2,e3,hl,h⟩,hR⟩;subst e1 e2;obtain⟨w0,rfl,q2⟩:=r2.one;obtain⟨zs,e4,t⟩:=hS.lst e3;exact Fn pins s σ H x _ v us Q I rx rs {a,zs,w0,r1.ref,rfl,e4,by rw[t.len];exact hl,hR.put hS e3 h iC<|t.app<|aS q2 bD}
def YN:G6:=λx ds S R=>∃a es d,x=.ref a/\ds=[]/\S a=some (.lst es)/\es[es.length-1]?=some d/\R d (S.set a<|.lst es.dropLast)
theorem T9:Nj K "list.pop" YN:=by rintro X hK pins s σ H x xs v us Q I rx rs ⟨d,ds,S,R,r1,r2,hS,⟨a,es,y,e1,e2,e3,hl,h⟩,hR⟩;subst e1 e2;obtain⟨zs,e4,t⟩:=hS.lst e3;obtain⟨w,e5,r⟩:=t.get hl;exact O6 pins s σ H x _ v us Q I rx rs {a,zs,w,r1.ref,r2.nil,e4,by rw[t.len];exact e5,hR.put hS e3 h r t.dropLast}
def LD:G6:=λx ds S R=>∃(es:List D)(d:D)(j:Nat),ds=[d]/\p7 S x es/\i9 d=true/\es.all i9=true/\(∃z,es[j]?=some z/\eqV (kI z) (kI d)=true)/\(∀m u,m<j->es[m]?=some u->eqV (kI u) (kI d)=false)/\R (.int j) S
theorem HZ:Nj K "list.index" LD:=by rintro X hK pins s σ H x xs v us Q I rx rs ⟨d,ds,S,R,r1,r2,hS,⟨es,y,j,e2,e3,f1,f2,⟨z,e4,e5⟩,h4,h⟩,hR⟩;subst hK e2;obtain⟨w0,rfl,q2⟩:=r2.one;obtain⟨a,zs,rfl,q,t⟩:=e3.at hS r1;obtain⟨g1,g2⟩:=jz f1 q2;obtain⟨g3,g4⟩:=fT f2 t;subst g1 g3;refine FF pins s σ H _ _ v us Q I rx rs {a,_,_,kI z,j,rfl,rfl,q,g2,g4,by rw[zp,e4];rfl,e5,λm u hm e=>?_,hR.now hS h<|aN _};rw[zp]at e;cases q2:es[m]? with|none=>(rw[q2]at e;cases e)|some u'=>rw[q2]at e;cases e;exact h4 m u' hm q2
def LF:G6:=λx ds S R=>∃z y,x=.str z/\ds=[.str y]/\R (.bl<|PySem.Txt.startswith z y) S
theorem H9:Nj K "str.startswith" LF:=by rintro X hK pins s σ H x xs v us Q I rx rs ⟨d,ds,S,R,r1,r2,hS,⟨z,y,e1,e2,h⟩,hR⟩;subst e1 e2;obtain⟨w0,rfl,q2⟩:=r2.one;exact tY pins s σ H _ _ v us Q I rx rs {z,y,r1.str,by rw[q2.str],hR.now hS h<|bG _}
def T_(S:ay)(R:KD):D->Prop|.str z=>z.length<=sizeLine/\R (.int z.length) S|.tup es=>R (.int es.length) S|.kt es=>R (.int es.length) S|.iB es=>R (.int es.length) S|.ref a=>(∃es,S a=some (.lst es)/\R (.int es.length) S)\/∃kvs,S a=some (.cO kvs)/\R (.int kvs.length) S|_=>False
inductive Ua (ds:List D) (S:ay) (R:KD):Prop where
 |mk (x:D) (h:ds=[x]) (r:T_ S R x):Ua ds S R
def YO:List D->ay->KD->Prop:=λds S R=>Ua ds S R
theorem bb:gZ K (.builtin "len") YO:=by rintro X hK hc pins s σ H xs us Q I rx ⟨ds,S,R,r,hS,⟨x,e,h⟩,hR⟩;subst hK e;obtain⟨w,rfl,r'⟩:=r.one;cases x with|str z=>(cases r'.str;exact jr pins s σ H _ us Q I rx {_,_,rfl,⟨h.1,rfl⟩,hR.now hS h.2<|aN _})|tup es=>(obtain⟨a,xs,rfl,q,t⟩:=r'.tup;exact jr pins s σ H _ us Q I rx {_,_,rfl,.inr {xs,.of q,t.len.symm},hR.now hS h<|aN _})|kt es=>(obtain⟨a,xs,rfl,q,t⟩:=r'.kt;exact jr pins s σ H _ us Q I rx {_,_,rfl,.inr {xs,.inr q,t.len.symm},hR.now hS h<|aN _})|iB es=>(obtain⟨a,xs,rfl,q,t⟩:=r'.iB;exact jr pins s σ H _ us Q I rx {_,_,rfl,.inl ⟨xs,q.sq,t.len.symm⟩,hR.now hS h<|aN _})|ref a=>(cases r'.ref;rcases h with⟨es,e,h⟩|⟨kvs,e,h⟩;obtain⟨xs,e1,t⟩:=hS.lst e;exact jr pins s σ H _ us Q I rx {_,_,rfl,.inl {xs,.of e1,t.len.symm},hR.now hS h<|aN _};obtain⟨xs,e1,t⟩:=hS.cO e;exact Fu pins s σ H _ us Q I rx {a,xs,rfl,e1,by rw[t.len];exact hR.now hS h<|aN _})|_=>exact h.elim
def PF(S:ay):D->Kd->Prop|.av,k=>k=.av|.bl _,k=>k=.bl|.int _,k=>k=.int|.str _,k=>k=.str|.ref a,k=>(k=.lst/\∃ds,S a=some (.lst ds))\/(k=.cO/\∃ds,S a=some (.cO ds))|.tup _,k=>k=.tup|_,_=>False
theorem Ub(h:PF S d k)(hS:Rs K S H)(r:Rv K H d v):rF H v k:=by cases d with|av=>(cases h;rw[r.av];exact .av)|bl b=>(cases h;rw[r.bl];exact .bl b)|int b=>(cases h;rw[r.int];exact .int b)|str b=>(cases h;rw[r.str];exact .str b)|tup b=>(cases h;obtain⟨a,xs,rfl,q,_⟩:=r.tup;exact .tup q)|ref a=>(rw[r.ref];rcases h with⟨rfl,ds,h⟩|⟨rfl,ds,h⟩;obtain⟨xs,e,_⟩:=hS.lst h;exact .lst e;obtain⟨xs,e,_⟩:=hS.cO h;exact .cO e)|_=>exact h.elim
inductive Uc (ds:List D) (S:ay) (R:KD):Prop where
 |mk (x:D) (n:String) (k:Kd) (g:Kd->Bool) (e:ds=[x,.ty n]) (a:vO n=some g) (b:PF S x k) (r:R (.bl<|g k) S):Uc ds S R
def YQ:List D->ay->KD->Prop:=λds S R=>Uc ds S R
theorem RvAll.two(h:RvAll K H [d,e] xs):∃v u,xs=[v,u]/\Rv K H d v/\Rv K H e u:=by obtain⟨y,ys,rfl,h1,h2⟩:=h.cons;obtain⟨u,rfl,h3⟩:=h2.one;exact⟨y,u,rfl,h1,h3⟩
theorem bV:gZ K (.builtin "isinstance") YQ:=by rintro X hK hc pins s σ H xs us Q I rx ⟨ds,S,R,r,hS,⟨x,n,k,g,e,h1,h2,h⟩,hR⟩;subst hK e;obtain⟨v,u,rfl,r1,r2⟩:=r.two;rw[r2.ty]at rx;exact HG pins s σ H _ us Q I rx {v,n,k,g,rfl,h1,Ub h2 hS r1,hR.now hS h<|bG _}
inductive Ud (ds:List D) (S:ay) (f:List Bool->Bool) (R:KD):Prop where
 |mk (x:D) (bs:List Bool) (e:ds=[x]) (h:p7 S x<|bs.map D.bl) (r:R (.bl<|f bs) S):Ud ds S f R
def Ue:List D->ay->KD->Prop:=λds S R=>Ud ds S (λbs=>bs.all id) R
theorem k7:gZ K (.builtin "all") Ue:=by rintro X hK hc pins s σ H xs us Q I rx ⟨ds,S,R,r,hS,⟨x,bs,e,h1,h⟩,hR⟩;subst hK e;obtain⟨v,rfl,r1⟩:=r.one;obtain⟨a,zs,rfl,q,t⟩:=h1.at hS r1;rw[t.bools]at q;exact tT hc pins s σ H _ us Q I rx {a,bs,rfl,q,hR.now hS h<|bG _}
def YR:List D->ay->KD->Prop:=λds S R=>∃(x:D)(bs:List Bool),ds=[x]/\p7 S x (bs.map D.bl)/\R (.bl<|bs.any id) S
theorem Ug:gZ K (.builtin "any") YR:=by rintro X hK hc pins s σ H xs us Q I rx ⟨ds,S,R,r,hS,⟨x,bs,e,h1,h⟩,hR⟩;subst hK e;obtain⟨v,rfl,r1⟩:=r.one;obtain⟨a,zs,rfl,q,t⟩:=h1.at hS r1;rw[t.bools]at q;exact tU hc pins s σ H _ us Q I rx {a,bs,rfl,q,hR.now hS h<|bG _}
def intD:List D->ay->KD->Prop:=λds S R=>(∃i,ds=[.int i]/\R (.int i) S)\/∃k,ds=[.bl k]/\R (.int<|if k then 1 else 0) S
theorem mG:gZ K (.type "int") intD:=by rintro X hK hc pins s σ H xs us Q I rx ⟨ds,S,R,r,hS,h,hR⟩;rcases h with⟨i,rfl,h⟩|⟨k,rfl,h⟩;obtain⟨v,rfl,r1⟩:=r.one;exact uF pins s σ H _ us Q I rx<|.inl {i,by rw[r1.int],hR.now hS h<|aN _};obtain⟨v,rfl,r1⟩:=r.one;exact uF pins s σ H _ us Q I rx<|.inr {k,by rw[r1.bl],hR.now hS h<|aN _}
inductive Uh (ds:List D) (S:ay) (R:KD):Prop where
 |mk (x:D) (es:List D) (e:ds=[x]) (h:p7 S x es\/x=.tup es) (r:R (.tup es) S):Uh ds S R
def PH:List D->ay->KD->Prop:=λds S R=>Uh ds S R
theorem fU:gZ K (.type "tuple") PH:=by rintro X hK hc pins s σ H xs us Q I rx ⟨ds,S,R,r,hS,⟨x,es,e,h1,h⟩,hR⟩;subst hK e;obtain⟨v,rfl,r1⟩:=r.one;rcases h1 with h1|rfl;obtain⟨a,zs,rfl,q,t⟩:=h1.at hS r1;exact kX pins s σ H _ us Q I rx {a,zs,rfl,.inl {q,λp hp=>hR.PD hS hp h t}};obtain⟨a,zs,rfl,q,t⟩:=r1.tup;exact kX pins s σ H _ us Q I rx {a,zs,rfl,.inr {.of q,hR.now hS h<|iE q t}}
def minD(f:Int->Int->Bool):List D->ay->KD->Prop:=λds S R=>∃i j,ds=[.int i,.int j]/\R (.int<|if f j i then j else i) S
theorem Nk:gZ K (.builtin "min") (minD λa b=>decide<|a<b):=by rintro X hK hc pins s σ H xs us Q I rx ⟨ds,S,R,r,hS,⟨i,j,e,h⟩,hR⟩;subst e;obtain⟨v,u,rfl,r1,r2⟩:=r.two;refine Ff hc pins s σ H _ us Q I rx {i,j,by rw[r1.int,r2.int],?_};have:=hR.now hS h<|aN _;simpa using this
theorem Nl:gZ K (.builtin "max") (minD λa b=>decide<|b<a):=by rintro X hK hc pins s σ H xs us Q I rx ⟨ds,S,R,r,hS,⟨i,j,e,h⟩,hR⟩;subst e;obtain⟨v,u,rfl,r1,r2⟩:=r.two;refine Fe hc pins s σ H _ us Q I rx {i,j,by rw[r1.int,r2.int],?_};have:=hR.now hS h<|aN _;simpa using this
end
abbrev iJ:=List D->ay->KD->KX->Prop
def qG(K:Frag)(sp:iJ):Sp:=λvs H Q e=>∃ds S R Z,RvAll K H ds vs/\Rs K S H/\sp ds S R Z/\Cn K H R Q/\FI K H Z e
section
variable{K:Frag}{X:Cx}{k:Nat}{f C:Addr}{fd:FuncData}{ps:List Str}{sp:Sp}{pX:List V}{ds:List Value}{x m:Str}{p pos apos:Pos}{e o:Expr}{es:List Expr}{b:Bool}{y:Ev X b}
theorem vU(F:bO X.prog X.w X.K X.mg X.base (fk X.prog X.w X.mg) k f fd ps sp)(hr:bR k X.A)(hb:Binds X.K fd ps ds)(hd:Vals pX ds) (I:Inv y.cx p2 σ H s) (r:Vals vs us) (h:sp (vs++pX) H Q<|y.E σ):wpAny (model X.prog X.w) X.A (call (.ref f) us) (EP y.cx p2 σ Q) y.xe s:=by
 have r2:Vals (vs++pX) (us++ds):=r.append hd;have hl:(us++ds).length=ps.length:=by rw[<-r2.length];exact F.len _ _ _ _ h
 refine wpAny_call<|yQ (F.run X.A X.stack s H {us,[]} (us++ds) (vs++pX) Q (y.E σ) hr I.SA (hb s us I.oY hl) r2 h) λres s' hq=>?_;cases res with|error e=>exact y.ok.call p2 σ H s e s' I hq|ok fl=>cases fl with|ret u=>exact I.after hq|next=>exact False.elim hq|brk=>exact False.elim hq|cont=>exact False.elim hq
theorem H_{t:TA}(F:bO X.prog X.w X.K X.mg X.base (fk X.prog X.w X.mg) k f fd ps sp)(hr:bR k X.A)(hg:Gl X x)(hm:X.mg x=some (.ref f))(hk:keepIn X.K (.ref f)=true)(hb:Binds X.K fd ps ds)(hd:Vals pX ds) (ha:PA y.cx (e::es) t) (pY:(x==("__debug__": Str))=false) (he:starEach (e::es) X.env=(false,eval e X.env)::starEach es X.env) (dO:(backTo pos<|starEach es X.env).any (·.1)=false): PE y.cx (.Call (.Name x p) (e::es) [] pos) (λσ H Q=>t σ H λvs H1=>sp (vs++pX) H1 Q<|y.E σ):=by intro p2 s σ H Q I h;refine wpAny_Call_Name_kw<|qx I hg hm ?_ pY;refine callWith_K (h₀:=X.base) I.ok.mod.Q9 hk (bz (ha pos p2 s σ H _ I h) λus s1 ⟨vs,H1,I1,r,q⟩=>{I1.oY,?_}) he dO;exact vU F hr hb hd I1 r q
theorem Ia{pl:Sem Bool}{ta:TE}{t:TA}(he:PE y.cx o ta)(c:qB X.K C)(hm:Meth X.K C m f)(F:bO X.prog X.w X.K X.mg X.base (fk X.prog X.w X.mg) k f fd ps sp)(hr:bR k X.A)(hb:Binds X.K fd ps ds)(hd:Vals pX ds)(ha:PA y.cx (e::es) t)
  (xt:starEach (e::es) X.env=(false,eval e X.env)::starEach es X.env) (dO:(backTo pos<|starEach es X.env).any (·.1)=false)
  (ht:eval (.Call (.Attribute o m apos) (e::es) [] pos) X.env=(do
   let ov <-eval o X.env
   standAt apos.atName
   let (f,first) <-holding [ov] (getMethod ov m pl)
   callWith pos f first (backTo pos<|starEach (e::es) X.env) (backToKw pos<|keywordEach [] X.env))):
  PE y.cx (.Call (.Attribute o m apos) (e::es) [] pos) (λσ H Q=>ta σ H λx H1=>∃a dx fs,x=.ref a/\H1 a=some (.ins C dx fs)/\fs.lookup m=none/\t σ H1 λvs H2=>sp (x::(vs++pX)) H2 Q<|y.E σ):=by
 intro p2 s σ H Q I h
 refine methodCall_KW (pl:=pl) (bz (he p2 s σ H _ I h) λu s1 ⟨x,H1,I1,rx,a,dx,fs,ex,ea,l,q⟩=>?_) ht
 subst ex
 obtain rfl:u=Value.ref a:=rx
 refine rj I1 ea c hm l ?_
 refine callWith_K (first:=[.ref a]) (h₀:=X.base) I.ok.mod.Q9 hm.kp (bz (ha pos p2 s1 σ H1 _ I1 q) λus s2 ⟨vs,H2,I2,r,q2⟩=>{I2.oY,?_}) xt dO
 exact vU (us:=.ref a::us) (vs:=.ref a::vs) F hr hb hd I2 (.cons rfl r) q2
theorem FJ(he:PE y.cx o ta)(c:qB X.K C)(hm:Meth X.K C m f)(F:bO X.prog X.w X.K X.mg X.base (fk X.prog X.w X.mg) k f fd ps sp)(hr:bR k X.A)(hb:Binds X.K fd ps ds)(hd:Vals pX ds)
  (ht:eval (.Call (.Attribute o m apos) [] [] pos) X.env=(do
   let ov <-eval o X.env
   standAt apos.atName
   let (f,first) <-holding [ov] (getMethod ov m pl)
   callWith pos f first (backTo pos<|starEach [] X.env) (backToKw pos<|keywordEach [] X.env))):
  PE y.cx (.Call (.Attribute o m apos) [] [] pos) (λσ H Q=>ta σ H λx H1=>∃a dx fs,x=.ref a/\H1 a=some (.ins C dx fs)/\fs.lookup m=none/\sp (x::pX) H1 Q (y.E σ)):=by
 intro p2 s σ H Q I h
 refine methodCall_KW (pl:=pl) (bz (he p2 s σ H _ I h) λu s1 ⟨x,H1,I1,rx,a,dx,fs,ex,ea,l,q⟩=>?_) ht
 subst ex
 obtain rfl:u=Value.ref a:=rx
 refine rj I1 ea c hm l ?_
 exact PySem.W.callWith_K0 (first:=[.ref a]) I1.oY hm.kp<|vU (us:=[.ref a]) (vs:=[.ref a]) F hr hb hd I1 (.cons rfl .nil) q
theorem FK(M:Mk X.K C f)(F:bO X.prog X.w X.K X.mg X.base (fk X.prog X.w X.mg) k f fd ps sp)(hr:bR (k+1) X.A)(hb:Binds X.K fd ps ds)(hd:Vals pX ds) (I:Inv y.cx p2 σ H s) (r:Vals vs us) (h:∀x dx,H x=none->H dx=none->dx≠x->sp (.ref x::(vs++pX)) (upd (upd H dx<|.own x) x<|.ins C dx []) (λv H2=>v=.av/\Q (.ref x) H2) (y.E σ)): wpAny (model X.prog X.w) X.A (call (.ref C) us) (EP y.cx p2 σ Q) y.xe s:=by
 have hq:=h (s.heap.objs.size+1) s.heap.objs.size (I.aQ.fresh<|yR _) (I.aQ.fresh<|zo _)<|zA<|yH _;have I2:=Inv.made (C:=C) I;have r2:Vals (V.ref (s.heap.objs.size+1)::(vs++pX)) (Value.ref (s.heap.objs.size+1)::(us++ds)):=.cons rfl<|r.append hd;have hl:(Value.ref (s.heap.objs.size+1)::us++ds).length=ps.length:=by have e:=r2.length;rw[F.len _ _ _ _ hq]at e;exact e.symm
 refine wpAny_call<|Hn (f:=f) I.oY M.makes M.init (beq_iff_eq.mp M.fn)<|yQ (F.run _ X.stack _ _ {Value.ref (s.heap.objs.size+1)::us,[]} (Value.ref (s.heap.objs.size+1)::(us++ds)) _ _ (y.E σ) (hr.make C us []) (I2.SA.make C us []) (hb _ (Value.ref (s.heap.objs.size+1)::us) I2.oY hl) r2 hq) λr s' G7=>?_;cases r with|error e=>exact y.ok.call p2 σ _ _ e s' I2 G7|ok fl=>cases fl with|ret u=>(obtain⟨v,H',I3,rv,ev,q3⟩:=I2.after G7;subst ev;exact{rv,{V.ref<|s.heap.objs.size+1,H',I3,rfl,q3}})|next=>exact False.elim G7|brk=>exact False.elim G7|cont=>exact False.elim G7
theorem Ib{t:TA}(M:Mk X.K C f)(F:bO X.prog X.w X.K X.mg X.base (fk X.prog X.w X.mg) k f fd ps sp)(hr:bR (k+1) X.A)(hg:Gl X x)(hm:X.mg x=some (.ref C))(hb:Binds X.K fd ps ds)(hd:Vals pX ds) (ha:PA y.cx (e::es) t) (pY:(x==("__debug__": Str))=false) (he:starEach (e::es) X.env=(false,eval e X.env)::starEach es X.env) (dO:(backTo pos<|starEach es X.env).any (·.1)=false): PE y.cx (.Call (.Name x p) (e::es) [] pos) (λσ H Q=>t σ H λvs H1=>∀x dx,H1 x=none->H1 dx=none->dx≠x->sp (.ref x::(vs++pX)) (upd (upd H1 dx<|.own x) x<|.ins C dx []) (λv H2=>v=.av/\Q (.ref x) H2) (y.E σ)):=by intro p2 s σ H Q I h;refine wpAny_Call_Name_kw<|qx I hg hm ?_ pY;refine callWith_K (h₀:=X.base) I.ok.mod.Q9 M.kp (bz (ha pos p2 s σ H _ I h) λus s1 ⟨vs,H1,I1,r,q⟩=>{I1.oY,?_}) he dO;exact FK M F hr hb hd I1 r q
end
section
variable{K:Frag}{X:Cx}{k:Nat}{f C:Addr}{fd:FuncData}{ps:List Str}{sp:iJ}{xT:List D}{pX:List V}{ds:List Value}{x m:Str}{p pos apos:Pos}{e o:Expr}{es:List Expr}
structure Rz(K:Frag)(xT:List D)(pX:List V)(ds:List Value):Prop where
 v:Vals pX ds
 d:∀H,RvAll K H xT pX
theorem d0:Rz K [] [] []:={.nil,λ_=>bD}
theorem d1:Rz K [.av] [.av] [.none]:={.cons rfl .nil,λ_=>aS iC bD}
def Nm(sp:iJ)(xT:List D)(t:iH):TD:=λσ S R Z=>t σ S (λds S1=>sp (ds++xT) S1 R Z) Z
theorem cf{t:iH}(F:bO X.prog X.w K X.mg X.base (fk X.prog X.w X.mg) k f fd ps<|qG K sp)(hr:bR k X.A)(hm:X.mg x=some (.ref f))(hk:keepIn K (.ref f)=true)(hb:Binds K fd ps ds)(hd:Rz K xT pX ds)(ha:DA K X (e::es) t) (hg:autoParam (Gl X x) qQJ) (pY:autoParam ((x==("__debug__": Str))=false) qQZ) (he:autoParam (starEach (e::es) X.env=(false,eval e X.env)::starEach es X.env) qQJ) (dO:autoParam ((backTo pos<|starEach es X.env).any (·.1)=false) qQJ) (hK:autoParam (X.K=K) qQJ): DE K X (.Call (.Name x p) (e::es) [] pos) (Nm sp xT t):=by
 subst hK
 exact⟨λy=>(H_ F hr hg hm hk hb hd.v (ha.of y) pY he dO).mono <| by rintro τ H Q ⟨σ,S,R,Z,aC,hS,q,hR,hZ⟩;exact
  ⟨σ,S,_,Z,aC,hS,q,λes S1 xs H1 r1 v1 s1 k1=>⟨es++xT,S1,R,Z,v1.app<|hd.d _,s1,r1,hR.kp k1,hZ.kp k1⟩,hZ⟩⟩
inductive MeR (C:Addr) (m:Str) (x:D) (S:ay) (p:Prop):Prop where
 |mk (a:Addr) (fs:List<|Str×D) (e1:x=.ref a) (e2:S a=some (.ins C fs)) (e3:fs.lookup m=none) (r:p):MeR C m x S p
def DY(C:Addr)(m:Str)(sp:iJ)(xT:List D)(ta:TD)(t:iH):TD:=λσ S R Z=>ta σ S (λx S1=>MeR C m x S1<|t σ S1 (λds S2=>sp (x::(ds++xT)) S2 R Z) Z) Z
theorem Ui{t:iH}(he:DE K X o ta)(c:qB K C)(hm:Meth K C m f)(F:bO X.prog X.w K X.mg X.base (fk X.prog X.w X.mg) k f fd ps<|qG K sp)(hr:bR k X.A)(hb:Binds K fd ps ds)(hd:Rz K xT pX ds)(ha:DA K X (e::es) t)
  (xt:autoParam (starEach (e::es) X.env=(false,eval e X.env)::starEach es X.env) qQJ) (dO:autoParam ((backTo pos<|starEach es X.env).any (·.1)=false) qQJ)
  (ht:autoParam (eval (.Call (.Attribute o m apos) (e::es) [] pos) X.env=(do
   let ov <-eval o X.env
   standAt apos.atName
   let (f,first) <-holding [ov] (getMethod ov m pl)
   callWith pos f first (backTo pos<|starEach (e::es) X.env) (backToKw pos<|keywordEach [] X.env))) qQJ) (hK:autoParam (X.K=K) qQJ):
  DE K X (.Call (.Attribute o m apos) (e::es) [] pos) (DY C m sp xT ta t):=by
 subst hK
 exact⟨λy=>(Ia (he.of y) c hm F hr hb hd.v (ha.of y) xt dO ht).mono <| by rintro τ H Q ⟨σ,S,R,Z,aC,hS,q,hR,hZ⟩;exact
  ⟨σ,S,_,Z,aC,hS,q,by
   rintro d S1 x H1 ⟨a,fs,e1,e2,e3,r1⟩ v1 s1 k1
   subst e1
   obtain⟨dx,vs,e4,t4⟩:=s1.ins e2
   exact{a,dx,vs,v1.ref,e4,(t4.look m).2 e3,σ,S1,_,Z,aC.ts k1,s1,r1,λes S2 xs H2 r2 v2 s2 k2=>{_,S2,R,Z,aS (Rv.ts k2 _ v1)<|v2.app<|hd.d _,s2,r2,hR.kp<|k1.trans k2,hZ.kp<|k1.trans k2},hZ.kp k1},hZ⟩⟩
theorem YS(he:DE K X o ta)(c:qB K C)(hm:Meth K C m f)(F:bO X.prog X.w K X.mg X.base (fk X.prog X.w X.mg) k f fd ps<|qG K sp)(hr:bR k X.A)(hb:Binds K fd ps ds)(hd:Rz K xT pX ds)
  (ht:autoParam (eval (.Call (.Attribute o m apos) [] [] pos) X.env=(do
   let ov <-eval o X.env
   standAt apos.atName
   let (f,first) <-holding [ov] (getMethod ov m pl)
   callWith pos f first (backTo pos<|starEach [] X.env) (backToKw pos<|keywordEach [] X.env))) qQJ) (hK:autoParam (X.K=K) qQJ):
  DE K X (.Call (.Attribute o m apos) [] [] pos) (DY C m sp xT ta LB):=by
 subst hK
 exact⟨λy=>(FJ (he.of y) c hm F hr hb hd.v ht).mono <| by rintro τ H Q ⟨σ,S,R,Z,aC,hS,q,hR,hZ⟩;exact
  ⟨σ,S,_,Z,aC,hS,q,by
   rintro d S1 x H1 ⟨a,fs,e1,e2,e3,r1⟩ v1 s1 k1
   subst e1
   obtain⟨dx,vs,e4,t4⟩:=s1.ins e2
   exact{a,dx,vs,v1.ref,e4,(t4.look m).2 e3,_,S1,R,Z,aS v1<|hd.d _,s1,r1,hR.kp k1,hZ.kp k1},hZ⟩⟩
def Uj(C:Addr)(sp:iJ)(xT:List D)(t:iH):TD:=λσ S R Z=>t σ S (λds S1=>∀x,S1 x=none->sp (.ref x::(ds++xT)) (S1.set x<|.ins C []) (λd S2=>d=.av/\R (.ref x) S2) Z) Z
theorem mk{t:iH}(M:Mk K C f)(F:bO X.prog X.w K X.mg X.base (fk X.prog X.w X.mg) k f fd ps<|qG K sp)(hr:bR (k+1) X.A)(hm:X.mg x=some (.ref C))(hb:Binds K fd ps ds)(hd:Rz K xT pX ds)(ha:DA K X (e::es) t) (hg:autoParam (Gl X x) qQJ) (pY:autoParam ((x==("__debug__": Str))=false) qQZ) (he:autoParam (starEach (e::es) X.env=(false,eval e X.env)::starEach es X.env) qQJ) (dO:autoParam ((backTo pos<|starEach es X.env).any (·.1)=false) qQJ) (hK:autoParam (X.K=K) qQJ): DE K X (.Call (.Name x p) (e::es) [] pos) (Uj C sp xT t):=by
 subst hK
 exact⟨λy=>(Ib M F hr hg hm hb hd.v (ha.of y) pY he dO).mono <| by rintro τ H Q ⟨σ,S,R,Z,aC,hS,q,hR,hZ⟩;exact
  ⟨σ,S,_,Z,aC,hS,q,λes S1 xs H1 r1 v1 s1 k1 x dx hx hdx ne=>by
   have LG:upd H1 dx (.own x) x=none:=by rw[ax ne.symm];exact hx
   have k2:Kp X.K H1 (upd (upd H1 dx<|.own x) x<|.ins C dx []):=(Kp.new hdx).trans<|Kp.new LG
   exact{_,_,_,Z,aS (iD x)<|RvAll.ts k2 _<|v1.app<|hd.d _,(s1.grow hdx).new (c:=.ins C []) LG {dx,[],aE,.nil},r1 x<|s1.fresh hx,by rintro d S2 v H2 ⟨e,r2⟩ v2 s2 k3;exact by subst e;exact{v2.av,hR _ _ _ _ r2 (iD x) s2<|(k1.trans k2).trans k3},(hZ.kp k1).kp k2},hZ⟩⟩
inductive FlR (C:Addr) (f:Str) (x:D) (S:ay) (R:KD):Prop where
 |mk (a:Addr) (fs:List<|Str×D) (d:D) (e1:x=.ref a) (e2:S a=some (.ins C fs)) (e3:fs.lookup f=some d) (r:R d S):FlR C f x S R
def YT(C:Addr)(f:Str)(ta:TD):TD:=λσ S R Z=>ta σ S (λx S1=>FlR C f x S1 R) Z
theorem fl{f:Str}{ta:TD}(c:qB K C)(n:js K C f)(he:DE K X e ta)(hb:autoParam (attributeBase e f X.env (eval e X.env)=eval e X.env) qQJ)(hK:autoParam (X.K=K) qQJ):DE K X (.Attribute e f pos) (YT C f ta):=by
 subst hK
 exact⟨λy=>(OP (X:=y.cx) (he.of y) hb).mono <| by rintro τ H Q ⟨σ,S,R,Z,aC,hS,q,hR,hZ⟩;exact
  ⟨σ,S,_,Z,aC,hS,q,by
   rintro d S1 x H1 ⟨a,fs,y,e1,e2,e3,r1⟩ v1 s1 k1
   subst e1
   obtain⟨dx,vs,e4,t4⟩:=s1.ins e2
   obtain⟨v,e5,r5⟩:=(t4.look f).1 y e3
   exact{a,C,dx,vs,v,v1.ref,e4,c,n,e5,(hR.kp k1).now s1 r1 r5},hZ⟩⟩
end
structure uS where
 nx:SD->ay->Prop
 rt:KD
 bk:SD->ay->Prop:=λ_ _=>False
 ct:SD->ay->Prop:=λ_ _=>False
abbrev mH:=uS->SD->ay->(SD->KX)->Prop
def Nn(K:Frag)(H:Hp)(R:SD->ay->Prop)(Q:St->Hp->Prop):Prop:=∀σ S τ H',R σ S->iG K H' σ τ->Rs K S H'->Kp K H H'->Q τ H'
structure Wk(K:Frag)(H:Hp)(De:uS)(Dv:Ends):Prop where
 nx:Nn K H De.nx Dv.nx
 rt:Cn K H De.rt Dv.rt
 bk:Nn K H De.bk Dv.bk
 ct:Nn K H De.ct Dv.ct
def xU(K:Frag)(H:Hp)(Z:SD->KX)(E:St->XK):Prop:=∀σ τ C S H',Z σ C S->iG K H' σ τ->Rs K S H'->Kp K H H'->E τ (.ref C) none H'
section
variable{K:Frag}{H H1:Hp}{De:uS}{Dv:Ends}{Z:SD->KX}{E:St->XK}{σ:SD}{τ:St}{S:ay}
theorem Nn.kp(h:Nn K H R Q)(k:Kp K H H1):Nn K H1 R Q:=λσ S τ H' r a b c=>h σ S τ H' r a b<|k.trans c
theorem Wk.kp(h:Wk K H De Dv)(k:Kp K H H1):Wk K H1 De Dv:={h.nx.kp k,h.rt.kp k,h.bk.kp k,h.ct.kp k}
theorem xU.kp(h:xU K H Z E)(k:Kp K H H1):xU K H1 Z E:=λσ τ C S H' r a b c=>h σ τ C S H' r a b<|k.trans c
theorem xU.at(h:xU K H Z E)(r:iG K H σ τ):FI K H (Z σ) (E τ):=λC S H' z s k=>h σ τ C S H' z (r.ts k) s k
theorem xU.on(h:xU K H Z E)(k:Kp K H H1)(r:iG K H1 σ τ):FI K H1 (Z σ) (E τ):=(h.kp k).at r
end
def Tl(K:Frag)(E:St->XK)(t:mH):TS:=λDv τ H=>∃σ S De Z,iG K H σ τ/\Rs K S H/\t De σ S Z/\Wk K H De Dv/\xU K H Z E
structure DS(K:Frag)(X:Cx)(b:Bool)(st:Stmt)(t:mH):Prop where
 of:∀y:Ev X b,PS y.cx st<|Tl K y.E t
structure FL(K:Frag)(X:Cx)(b:Bool)(st:List Stmt)(t:mH):Prop where
 of:∀y:Ev X b,Dq y.cx st<|Tl K y.E t
theorem PS.mono{t t':TS}(h:PS X e t)(i:∀D τ H,t' D τ H->t D τ H):PS X e t':=λpins s τ H D I q=>h pins s τ H D I<|i D τ H q
theorem Dq.mono{t t':TS}(h:Dq X e t)(i:∀D τ H,t' D τ H->t D τ H):Dq X e t':=λpins s τ H D I q=>h pins s τ H D I<|i D τ H q
section
variable{K:Frag}{X:Cx}{b:Bool}{pos:Pos}
def Uk:mH:=λDe σ S _=>De.nx σ S
def YU(t u:mH):mH:=λDe σ S Z=>t {De with nx:=λaF S'=>u De aF S' Z} σ S Z
theorem s0:FL K X b [] Uk:=⟨λy=>(Km (X:=y.cx)).mono <| by rintro D τ H ⟨σ,S,De,Z,aC,hS,q,hD,hZ⟩;exact hD.nx _ _ _ _ q aC hS<|.refl _⟩
theorem sc{st:Stmt}{r:List Stmt}{t u:mH}(h1:DS K X b st t)(h2:FL K X b r u):FL K X b (st::r) (YU t u):=
 ⟨λy=>(Hb (h1.of y)<|h2.of y).mono <| by rintro D τ H ⟨σ,S,De,Z,aC,hS,q,hD,hZ⟩;exact
  ⟨σ,S,_,Z,aC,hS,q,⟨λxm S1 YV H1 r1 a b c=>⟨xm,S1,De,Z,a,b,r1,hD.kp c,hZ.kp c⟩,hD.rt,hD.bk,hD.ct⟩,hZ⟩⟩
theorem s1{st:Stmt}{t:mH}(h:DS K X b st t):FL K X b [st] t:=⟨λy=>Ko<|h.of y⟩
def Ul(t:TD):mH:=λDe σ S Z=>t σ S (λ_ S1=>De.nx σ S1)<|Z σ
theorem se{t:TD}(h:DE K X e t)(hs:autoParam (swapsWith e none pos.line X.env=pure false) qQJ):DS K X b (.Expr e pos) (Ul t):=⟨λy=>(Ks (X:=y.cx) (h.of y) hs).mono <| by rintro D τ H ⟨σ,S,De,Z,aC,hS,q,hD,hZ⟩;exact{σ,S,_,_,aC,hS,q,λd S1 v H1 r1 _ s1 k1=>hD.nx _ _ _ _ r1 (aC.ts k1) s1 k1,hZ.at aC}⟩
def YW(t:TD):mH:=λDe σ S Z=>t σ S De.rt<|Z σ
theorem sr{t:TD}(h:DE K X e t):DS K X b (.Return (some e) pos) (YW t):=⟨λy=>(Ov<|h.of y).mono <| by rintro D τ H ⟨σ,S,De,Z,aC,hS,q,hD,hZ⟩;exact{σ,S,_,_,aC,hS,q,hD.rt,hZ.at aC}⟩
def dIf(c:nM)(t u:mH):mH:=λDe σ S Z=>c σ S (λb S1=>if b=true then t De σ S1 Z else u De σ S1 Z)<|Z σ
theorem si{t u:mH}(hc:DT K X c tc)(ha:FL K X b a t)(hb:FL K X b a' u):DS K X b (.If c a a' pos) (dIf tc t u):=
 ⟨λy=>(Se (hc.of y) (ha.of y)<|hb.of y).mono <| by rintro D τ H ⟨σ,S,De,Z,aC,hS,q,hD,hZ⟩;exact
  ⟨σ,S,_,_,aC,hS,q,λc S1 H1 r1 s1 k1=>by
   cases c with
   |true=>rw[if_pos rfl]at r1⊢;exact{σ,S1,De,Z,aC.ts k1,s1,r1,hD.kp k1,hZ.kp k1}
   |false=>rw[if_neg zd]at r1⊢;exact{σ,S1,De,Z,aC.ts k1,s1,r1,hD.kp k1,hZ.kp k1},hZ.at aC⟩⟩
abbrev BZ:=D->SD->ay->(SD->ay->Prop)->Prop
def Tg(K:Frag)(g:BZ):TG:=λv τ H Q=>∃d σ S R,Rv K H d v/\iG K H σ τ/\Rs K S H/\g d σ S R/\Nn K H R Q
structure DG(K:Frag)(X:Cx)(e:Expr)(g:BZ):Prop where
 of:∀Y:Cx,Y.K=X.K->Y.N=X.N->Y.env=X.env->Y.fn=X.fn->Y.calm=X.calm->PG Y e (Tg K g)
theorem PG.mono{t t':TG}(h:PG X e t)(i:∀v τ H Q,t' v τ H Q->t v τ H Q):PG X e t':=λpins s τ H v u Q I r q=>h pins s τ H v u Q I r<|i v τ H Q q
def Wl(i:Nat):BZ:=λd σ S R=>R (σ.set i<|some d) S
theorem gn(hN:X.N.Nodup)(hi:autoParam (X.N[i]?=some x) qQJ)(hx:autoParam (Loc X.env.scope x) qJK)(hf:autoParam (X.fn x=true\/X.env.scope.names.lookup x=some .local) qQ8):DG K X (.Name x pos) (Wl i):={λY _ e2 e3 e4 _=>(qy (X:=Y) (by rw[e2];exact hN) (by rw[e2];exact hi) (by rw[e3];exact hx)<|by rw[e3,e4];exact hf).mono <| by rintro v τ H Q ⟨d,σ,S,R,rv,aC,hS,q,hR⟩;exact hR _ S _ H q (aC.set i rv) hS<|.refl _}
abbrev FN:=List D->SD->ay->(SD->ay->Prop)->Prop
def Tgs(K:Frag)(g:FN):MX:=λvs τ H Q=>∃ds σ S R,RvAll K H ds vs/\iG K H σ τ/\Rs K S H/\g ds σ S R/\Nn K H R Q
structure Wm(K:Frag)(X:Cx)(es:List Expr)(g:FN):Prop where
 of:∀Y:Cx,Y.K=X.K->Y.N=X.N->Y.env=X.env->Y.fn=X.fn->Y.calm=X.calm->MY Y es (Tgs K g)
theorem MY.mono{t t':MX}(h:MY X e t)(i:∀v τ H Q,t' v τ H Q->t v τ H Q):MY X e t':=λpins s τ H v u Q I r q=>h pins s τ H v u Q I r<|i v τ H Q q
def Np:FN:=λds σ S R=>ds=[]/\R σ S
def B5(g:BZ)(u:FN):FN:=λds σ S R=>∃d r,ds=d::r/\g d σ S λxm S1=>u r xm S1 R
theorem g0:Wm K X [] Np:={λY _ _ _ _ _=>(Dw (X:=Y)).mono <| by rintro vs τ H Q ⟨ds,σ,S,R,rv,aC,hS,⟨e,q⟩,hR⟩;exact by subst e;exact{rv.nil,hR _ _ _ _ q aC hS<|.refl _}}
theorem gc(h1:DG K X e g)(h2:Wm K X es u)(hs:autoParam (∀env:Env,(assignEach (e::es) env).map (·.2)=assign e env::(assignEach es env).map (·.2)) qQ0):Wm K X (e::es) (B5 g u):={λY a b c d f=>(qZ (h1.of Y a b c d f) (h2.of Y a b c d f)<|hs _).mono <| by rintro vs τ H Q ⟨ds,σ,S,R,rv,aC,hS,⟨d,r,e,q⟩,hR⟩;subst e;obtain⟨y,ys,e1,r1,r2⟩:=rv.cons;exact{y,ys,e1,d,σ,S,_,r1,aC,hS,q,λxm S1 YV H1 q1 a b c=>{r,xm,S1,R,RvAll.ts c _ r2,a,b,q1,hR.kp c}}}
def Nq(n:Nat)(g:FN):BZ:=λd σ S R=>∃ds,d=.tup ds/\ds.length=n/\g ds σ S R
theorem gt(h:Wm K X es g)(hn:autoParam (∀env:Env,(assignEach es env).length=n) qQ0)(xt:autoParam (∀env:Env,(assignEach es env).findIdx? (·.1)=none) qQ0)(hK:autoParam (X.K=K) qQJ)(hc:autoParam (X.calm=true) qQJ):DG K X (.Tuple es j pos) (Nq n g):={λY a b c d f=>(Hc (X:=Y) (by rw[f];exact hc) (h.of Y a b c d f) (hn _)<|xt _).mono <| by rintro v τ H Q ⟨d,σ,S,R,rv,aC,hS,⟨ds,e,hl,q⟩,hR⟩;subst e;obtain⟨p,xs,e1,e2,t⟩:=rv.tup;exact{p,xs,e1,.of e2,by rw[t.len];exact hl,ds,σ,S,R,t,aC,hS,q,hR}}
def Um(i:Nat)(t:TD):mH:=λDe σ S Z=>t σ S (λd S1=>De.nx (σ.set i<|some d) S1)<|Z σ
theorem cC{t:TD}(hN:X.N.Nodup)(h:DE K X e t)(hi:autoParam (X.N[i]?=some x) qQJ)(hx:autoParam (Loc X.env.scope x) qJK)(hs:autoParam (swapsWith e (some<|.Name x pos') pos.line X.env=pure false) qQJ) (hf:autoParam (X.fn x=true\/X.env.scope.names.lookup x=some .local) qQ8):DS K X b (.Assign [.Name x pos'] e pos) (Um i t):=⟨λy=>(Oz (X:=y.cx) (i:=i) hN hi hx (h.of y) hs hf).mono <| by rintro D τ H ⟨σ,S,De,Z,aC,hS,q,hD,hZ⟩;exact{σ,S,_,_,aC,hS,q,λd S1 v H1 r1 v1 s1 k1=>hD.nx _ _ _ _ r1 ((aC.ts k1).set i v1) s1 k1,hZ.at aC}⟩
def YX(t:TD)(g:BZ):mH:=λDe σ S Z=>t σ S (λd S1=>g d σ S1 De.nx)<|Z σ
theorem sa{t:TD}(h:DE K X e t)(hg:DG K X tg g)(hs:autoParam (swapsWithSole [tg] e pos.line X.env=pure false) qQJ)(hw:autoParam (swappedStores [tg] e X.env=pure none) qQJ)(h1:autoParam ((assignEach [tg] X.env).map (·.2)=[assign tg X.env]) qQJ): DS K X b (.Assign [tg] e pos) (YX t g):=⟨λy=>(Hd (X:=y.cx) (h.of y) (hg.of _ rfl rfl rfl rfl rfl) hs hw h1).mono <| by rintro D τ H ⟨σ,S,De,Z,aC,hS,q,hD,hZ⟩;exact{σ,S,_,_,aC,hS,q,λd S1 v H1 r1 v1 s1 k1=>{d,σ,S1,_,v1,aC.ts k1,s1,r1,hD.nx.kp k1},hZ.at aC}⟩
def YY(td ty tv:TD):mH:=λDe σ S Z=>tv σ S (λv S1=>td σ S1 (λx S2=>ty σ S2 (λy S3=>∃a kvs k,x=.ref a/\S3 a=some (.cO kvs)/\BY y=some k/\kvs.length<sizeLine/\De.nx σ (S3.set a<|.cO<|dput kvs k v))<|Z σ)<|Z σ)<|Z σ
theorem sd{o i value:Expr}{td ty tv:TD}{pos':Pos}(hu:X.A.units+64<cLine)(ho:DE K X o td)(hi:DE K X i ty)(hv:DE K X value tv)(hs:autoParam (swapsWith value (some<|.Subscript o i pos') pos.line X.env=pure false) qQJ):DS K X b (.Assign [.Subscript o i pos'] value pos) (YY td ty tv):=
 ⟨λy=>(K1 (X:=y.cx) (by show X.A.units+1<cLine;lia) (ho.of y) (hi.of y) (hv.of y) hs).mono <| by rintro D τ H ⟨σ,S,De,Z,aC,hS,q,hD,hZ⟩;exact
  ⟨σ,S,_,_,aC,hS,q,λv S1 vv H1 r1 v1 s1 k1=>⟨σ,S1,_,_,aC.ts k1,s1,r1,λx S2 xv H2 r2 v2 s2 k2=>⟨σ,S2,_,_,aC.ts<|k1.trans k2,s2,r2,by
   rintro y S3 yv H3 ⟨a,kvs,k,e1,e2,e3,hl,r3⟩ v3 s3 k3
   subst e1
   obtain⟨vs,e4,t⟩:=s3.cO e2
   have kk:=s3.iF (o:=.dK<|putK vs k vv) e2
   refine{a,_,(Rv.ts k3 _ v2).ref,by rw[lN e3 v3];exact Hu.k e4<|by rw[t.len];exact hl,?_}
   exact hD.nx _ _ _ _ r3 (aC.ts<|((k1.trans k2).trans k3).trans kk) (s3.put (c:=.cO _) e2 {_,aE,(t.put k<|Rv.ts (k2.trans k3) _ v1).ts kk})<|((k1.trans k2).trans k3).trans kk,hZ.on (k1.trans k2)<|aC.ts<|k1.trans k2⟩,hZ.on k1<|aC.ts k1⟩,hZ.at aC⟩⟩
end
section
variable{X:Cx}{pins:List (Addr×Obj)}{σ:St}{H:Hp}{s:Shared}{A:Around}{E:Value->Shared->Prop}{a:Addr}{kvs:List (Key×V)}{k:Key}{u:Value}
theorem PJ(I:Inv X pins σ H s)(e:H a=some (.dK kvs))(ry:RelV (kV k) u)(rz:RelV z r)(hl:kvs.length<sizeLine) (h1:∀v w' s',fO kvs k=some v->Inv X pins σ H s'->RelV v w'->Q w' s') (h2:fO kvs k=none->∀s',Inv X pins σ (upd H a<|.dK<|putK kvs k z) s'->Q r s'): wpAny (model X.prog X.w) A (call (.builtin "dict.setdefault") [.ref a,u,r]) Q E s:=by
 obtain⟨zz,hd,vs,rel,dd⟩:=DK I.aQ e;have hp:=pf kvs k z;refine call_meetsIn PySem.F.slot_dict_setdefault dd.typeIs PySem.F.entry_dict_setdefault (PySem.F.args_dict_setdefault_3 _ _ _) (PySem.kt_meets_setdefault (aH X.prog X.w) a (jv ry) hd r) {vs,dd,by rw[<-rel.length];exact zz,λw' hw=>?_,λhn h' M7 hs=>?_};cases q:fO kvs k with|none=>(have:=fN.none_of (o:=valueAt vs k) (by rw[<-q];exact rel.val k);rw[this]at hw;cases hw)|some v=>obtain⟨w2,qH,rw2⟩:=fN.some_of (v:=v) (o:=valueAt vs k) (by rw[<-q];exact rel.val k);rw[qH]at hw;cases hw;exact h1 v _ _ q (I.tok _) rw2
 cases q:fO kvs k with|some v=>(obtain⟨w2,qH,rw2⟩:=fN.some_of (v:=v) (o:=valueAt vs k) (by rw[<-q];exact rel.val k);rw[qH]at hn;cases hn)|none=>have he:∃q,h'.get? a=some q:=(by obtain⟨q,_,_,hq,_⟩:=M7;exact⟨q,hq⟩);exact h2 q _<|vK I (by rw[e];exact True.intro) hs he<|Bz (by lia) hd (rel.put k rz) M7
end
section
variable{X:Cx}{o e f:Expr}{apos aT:Pos}{td ty tx:TE}
def Uo(td ty tx:TE):TE:=λσ H Q=>td σ H λx H1=>∃a,x=.ref a/\Rj H1 a/\ty σ H1 λy H2=>tx σ H2 λz H3=>∃kvs k,H3 a=some (.dK kvs)/\y=kV k/\kvs.length<sizeLine/\(∀v,fO kvs k=some v->Q v H3)/\(fO kvs k=none->Q z (upd H3 a<|.dK<|putK kvs k z))
theorem Ie(ho:PE X o td)(he:PE X e ty)(hf:PE X f tx)(m:M2 X o "setdefault" apos e f aT):PE X (.Call (.Attribute o "setdefault" apos) [e,f] [] aT) (Uo td ty tx):=by intro pins s σ H Q I h;refine wpAny_Call_method m.base m.G0 m.line PySem.F.plainAttrs_dict PySem.F.slot_dict_setdefault PySem.F.type_dict_setdefault<|bz (ho pins s σ H _ I h) λu s1 ⟨x,H1,I1,rx,a,ex,d,q1⟩=>?_;subst ex;obtain rfl:u=Value.ref a:=rx;obtain⟨t1,t2,_⟩:=vL I1 d;refine{t1,t2,?_};rw[m.trees];refine Calls.callWith_builtin rfl<|Calls.evalArgs_plain<|yB<|bz (he pins s1 σ H1 _ I1 q1) λiv s2 ⟨y,H2,I2,ry,q2⟩=>yB<|bz (hf pins s2 σ H2 _ I2 q2) λfv s3 ⟨z,H3,I3,rz,kvs,k,ea,ey,hl,q3,q4⟩=>Calls.spliced_nil ?_;subst ey;exact PJ I3 ea ry rz hl (λv w' s4 l I4 tQ=>{v,H3,I4,tQ,q3 v l}) λl s4 I4=>{z,_,I4,rz,q4 l}
end
section
variable{K:Frag}{X:Cx}{b:Bool}{o e f:Expr}{apos aT pos:Pos}{td ty tx:TD}
theorem vV(hS:Rs K S H)(e:S a=some (.cO kvs)):Rj H a:=by obtain⟨vs,e1,_⟩:=hS.cO e;exact .inl {vs,.inl e1}
def Up(td ty:TD):TD:=λσ S R Z=>td σ S (λx S1=>∃a kvs,x=.ref a/\S1 a=some (.cO kvs)/\ty σ S1 (λy S2=>∃kvs k,S2 a=some (.cO kvs)/\BY y=some k/\R ((cn kvs k).getD .av) S2) Z) Z
theorem Ig(hS:Rs K S H)(e:S a=some (.cO kvs))(r:Rv K H d v):∃o,nZ H a (kV k) o/\Rv K H ((cn kvs k).getD d) (o.getD v):=by obtain⟨o,g,h1,h2⟩:=qF (k:=k) hS e;refine{o,g,?_};cases q:cn kvs k with|none=>(rw[q]at h1;cases o with|none=>exact r|some _=>cases h1)|some d'=>obtain⟨v',rfl,r'⟩:=h2 d' q;exact r'
theorem mg1(hu:X.A.units+64<cLine)(ho:DE K X o td)(he:DE K X e ty)(m:autoParam (M1 X o "get" apos e aT) qQ4):DE K X (.Call (.Attribute o "get" apos) [e] [] aT) (Up td ty):=
 ⟨λy=>(Hx (X:=y.cx) (by show X.A.units+1<cLine;lia) (ho.of y) (he.of y) ⟨m.base,m.G0,m.line,m.trees⟩).mono <| by rintro τ H Q ⟨σ,S,R,Z,aC,hS,q,hR,hZ⟩;exact
  ⟨σ,S,_,Z,aC,hS,q,by
   rintro x S1 xv H1 ⟨a,kvs,e1,e2,r1⟩ v1 s1 k1
   subst e1
   exact⟨a,v1.ref,vV s1 e2,σ,S1,_,Z,aC.ts k1,s1,r1,by
    rintro y S2 yv H2 ⟨kvs,k,e3,e4,r2⟩ v2 s2 k2
    obtain⟨o,g,r⟩:=Ig (k:=k) s2 e3 iC
    exact{o,by rw[lN e4 v2];exact g,(hR.kp<|k1.trans k2).now s2 r2 r},hZ.kp k1⟩,hZ⟩⟩
def Uq(td ty tx:TD):TD:=λσ S R Z=>td σ S (λx S1=>∃a kvs,x=.ref a/\S1 a=some (.cO kvs)/\ty σ S1 (λy S2=>tx σ S2 (λz S3=>∃kvs k,S3 a=some (.cO kvs)/\BY y=some k/\R ((cn kvs k).getD z) S3) Z) Z) Z
theorem mg2(hu:X.A.units+64<cLine)(ho:DE K X o td)(he:DE K X e ty)(hf:DE K X f tx)(m:autoParam (M2 X o "get" apos e f aT) qQ4):DE K X (.Call (.Attribute o "get" apos) [e,f] [] aT) (Uq td ty tx):=
 ⟨λy=>(Hy (X:=y.cx) (by show X.A.units+1<cLine;lia) (ho.of y) (he.of y) (hf.of y) ⟨m.base,m.G0,m.line,m.trees⟩).mono <| by rintro τ H Q ⟨σ,S,R,Z,aC,hS,q,hR,hZ⟩;exact
  ⟨σ,S,_,Z,aC,hS,q,by
   rintro x S1 xv H1 ⟨a,kvs,e1,e2,r1⟩ v1 s1 k1
   subst e1
   exact⟨a,v1.ref,vV s1 e2,σ,S1,_,Z,aC.ts k1,s1,r1,λy S2 yv H2 r2 v2 s2 k2=>⟨σ,S2,_,Z,aC.ts<|k1.trans k2,s2,r2,by
    rintro z S3 zv H3 ⟨kvs,k,e3,e4,r3⟩ v3 s3 k3
    obtain⟨o,g,r⟩:=Ig (k:=k) s3 e3 v3
    exact{o,by rw[lN e4 v2];exact g,(hR.kp<|(k1.trans k2).trans k3).now s3 r3 r},hZ.kp<|k1.trans k2⟩,hZ.kp k1⟩,hZ⟩⟩
def Ur(td ty:TD):TD:=λσ S R Z=>td σ S (λx S1=>∃a kvs,x=.ref a/\S1 a=some (.cO kvs)/\ty σ S1 (λy S2=>∃kvs k d,S2 a=some (.cO kvs)/\BY y=some k/\cn kvs k=some d/\R d (S2.set a<|.cO<|xR kvs k)) Z) Z
theorem mp1(ho:DE K X o td)(he:DE K X e ty)(m:autoParam (M1 X o "pop" apos e aT) qQ4):DE K X (.Call (.Attribute o "pop" apos) [e] [] aT) (Ur td ty):=
 ⟨λy=>(Hz (X:=y.cx) (ho.of y) (he.of y) ⟨m.base,m.G0,m.line,m.trees⟩).mono <| by rintro τ H Q ⟨σ,S,R,Z,aC,hS,q,hR,hZ⟩;exact
  ⟨σ,S,_,Z,aC,hS,q,by
   rintro x S1 xv H1 ⟨a,kvs,e1,e2,r1⟩ v1 s1 k1
   subst e1
   exact⟨a,v1.ref,vV s1 e2,σ,S1,_,Z,aC.ts k1,s1,r1,by
    rintro y S2 yv H2 ⟨kvs,k,d,e3,e4,e5,r2⟩ v2 s2 k2
    obtain⟨vs,e6,t⟩:=s2.cO e3
    obtain⟨v,e7,r7⟩:=(t.val k).1 d e5
    have kk:=s2.iF (o:=.dK<|pe vs k) e3
    exact{vs,k,v,e6,lN e4 v2,e7,hR _ _ _ _ r2 (Rv.ts kk _ r7) (s2.put (c:=.cO _) e3 {_,aE,(t.drop k).ts kk})<|(k1.trans k2).trans kk},hZ.kp k1⟩,hZ⟩⟩
def Us(td ty tx:TD):TD:=λσ S R Z=>td σ S (λx S1=>∃a kvs,x=.ref a/\S1 a=some (.cO kvs)/\ty σ S1 (λy S2=>tx σ S2 (λz S3=>∃kvs k,S3 a=some (.cO kvs)/\BY y=some k/\kvs.length<sizeLine/\(∀d,cn kvs k=some d->R d S3)/\(cn kvs k=none->R z (S3.set a<|.cO<|dput kvs k z))) Z) Z) Z
theorem ms2(ho:DE K X o td)(he:DE K X e ty)(hf:DE K X f tx)(m:autoParam (M2 X o "setdefault" apos e f aT) qQ4):DE K X (.Call (.Attribute o "setdefault" apos) [e,f] [] aT) (Us td ty tx):=
 ⟨λy=>(Ie (X:=y.cx) (ho.of y) (he.of y) (hf.of y) ⟨m.base,m.G0,m.line,m.trees⟩).mono <| by rintro τ H Q ⟨σ,S,R,Z,aC,hS,q,hR,hZ⟩;exact
  ⟨σ,S,_,Z,aC,hS,q,by
   rintro x S1 xv H1 ⟨a,kvs,e1,e2,r1⟩ v1 s1 k1
   subst e1
   exact⟨a,v1.ref,vV s1 e2,σ,S1,_,Z,aC.ts k1,s1,r1,λy S2 yv H2 r2 v2 s2 k2=>⟨σ,S2,_,Z,aC.ts<|k1.trans k2,s2,r2,by
    rintro z S3 zv H3 ⟨kvs,k,e3,e4,hl,r3,r4⟩ v3 s3 k3
    obtain⟨vs,e6,t⟩:=s3.cO e3
    have kk:=s3.iF (o:=.dK<|putK vs k zv) e3
    have hR3:=hR.kp<|(k1.trans k2).trans k3
    refine{vs,k,e6,lN e4<|Rv.ts k3 _ v2,by rw[t.len];exact hl,λv hv=>?_,λhn=>?_}
    ·cases q:cn kvs k with
     |none=>rw[(t.val k).2 q]at hv;cases hv
     |some d =>
      obtain⟨v',e7,r7⟩:=(t.val k).1 d q
      rw[e7]at hv;cases hv
      exact hR3.now s3 (r3 d q) r7
    ·cases q:cn kvs k with
     |some d=>obtain⟨v',e7,r7⟩:=(t.val k).1 d q;rw[e7]at hn;cases hn
     |none=>exact hR3 _ _ _ _ (r4 q) (Rv.ts kk _ v3) (s3.put (c:=.cO _) e3 {_,aE,(t.put k v3).ts kk}) kk,hZ.kp<|k1.trans k2⟩,hZ.kp k1⟩,hZ⟩⟩
noncomputable def B6(f:Str)(d:D):List (Str×D)->List (Str×D)|[]=>[(f,d)]| (g,x)::r=>if g=f then (g,d)::r else (g,x)::B6 f d r
theorem bY.B6{H:Hp}{f:Str}{d:D}{v:V}(rd:Rv K H d v):∀{ks:List (Str×D)}{vs:List (Str×V)},bY K H ks vs->bY K H (B6 f d ks) (putF f v vs)|_,_,.nil=>.cons ⟨rfl,rd⟩ .nil| (g,x)::r,(g',y)::r',.cons h t=>by obtain⟨e,h⟩:=h;dsimp only at e;subst e;show bY K H (if g=f then (g,d)::r else (g,x)::L2.B6 f d r) (if g=f then (g,v)::r' else (g,y)::putF f v r');by_cases q:g=f;rw[if_pos q,if_pos q];exact .cons ⟨rfl,rd⟩ t;rw[if_neg q,if_neg q];exact .cons ⟨rfl,h⟩<|bY.B6 rd t
def Ut(C:Addr)(f:Str)(ta tv:TD):mH:=λDe σ S Z=>tv σ S (λy S1=>ta σ S1 (λx S2=>∃a fs,x=.ref a/\S2 a=some (.ins C fs)/\fs.length<1000/\De.nx σ (S2.set a<|.ins C<|B6 f y fs))<|Z σ)<|Z σ
theorem sf{C:Addr}{f:Str}{value:Expr}{ta tv:TD}{pos':Pos}(c:qB K C)(n:js K C f)(ha:DE K X o ta)(hv:DE K X value tv)(hs:autoParam (swapsWith value (some<|.Attribute o f pos') pos.line X.env=pure false) qQJ)(hK:autoParam (X.K=K) qQJ): DS K X b (.Assign [.Attribute o f pos'] value pos) (Ut C f ta tv):=by
 subst hK
 exact⟨λy=>(OQ (X:=y.cx) (ha.of y) (hv.of y) hs).mono <| by rintro D τ H ⟨σ,S,De,Z,aC,hS,q,hD,hZ⟩;exact
  ⟨σ,S,_,_,aC,hS,q,λy S1 yv H1 r1 v1 s1 k1=>⟨σ,S1,_,_,aC.ts k1,s1,r1,by
   rintro x S2 xv H2 ⟨a,fs,e1,e2,hl,r2⟩ v2 s2 k2
   subst e1
   obtain⟨dx,vs,e4,t4⟩:=s2.ins e2
   have kk:=s2.iF (o:=.ins C dx<|putF f yv vs) e2
   exact{a,C,dx,vs,v2.ref,e4,c,n,by rw[t4.len];exact hl,hD.nx _ _ _ _ r2 (aC.ts<|(k1.trans k2).trans kk) (s2.put (c:=.ins C _) e2 {dx,_,aE,(bY.B6 (Rv.ts k2 _ v1) t4).ts kk})<|(k1.trans k2).trans kk},hZ.on k1<|aC.ts k1⟩,hZ.at aC⟩⟩
def PK(C:Addr)(t:iH):mH:=λ_ σ S Z=>t σ S (λds S1=>ds.length<=sizeLine/\Z σ C S1)<|Z σ
end
section
variable{K:Frag}{X:Cx}{C:Addr}{x:Str}{e:Expr}{es:List Expr}{np aT pos:Pos}
theorem FO{t:TA}{y:Ev X true}(hc:X.calm=true)(c:XC X.K C)(hg:Gl X x)(hm:X.mg x=some (.ref C))(ha:PA y.cx (e::es) t)(pY:(x==("__debug__": Str))=false) (he:starEach (e::es) X.env=(false,eval e X.env)::starEach es X.env) (dO:(backTo aT<|starEach es X.env).any (·.1)=false): PS y.cx (.Raise (some<|.Call (.Name x np) (e::es) [] aT) none pos) (λ_ σ H=>t σ H λvs H1=>vs.length<=sizeLine/\y.E σ (.ref C) none H1):=by intro pins s σ H D I h;obtain⟨bm,N,nm,q,bs,hdct,sn,sub,ab,col,dd,k0,k1,k2,k3,k5,mN,hC,hN,Wc,T⟩:=c.at I.mod.Q9;have my:bm.contains (.type "BaseException")=true:=T.hasType (by decide);refine wpAny_Raise_call_subT (C:=C) (nm:=nm) (q:=q) (N:=N) (bs:=bs) (bm:=bm) (hdct:=hdct) (sn:=sn) (sub:=sub) (ab:=ab) (col:=col) (dd:=dd) (k0:=k0) (k1:=k1) (k2:=k2) (k3:=k3) (k5:=k5) PySem.F.excBase_ValueError (mN:=mN) my (I.ok.hd hc) (by show((backTo aT<|starEach (e::es) X.env).any (·.1))=false;rw[he];show(false||(backTo aT<|starEach es X.env).any (·.1))=false;rw[dO];rfl) Wc<|qx I hg hm {rfl,?_} pY;have h1:=ha aT pins s σ H _ I h;have YZ:starEach (e::es) y.cx.env=(false,eval e X.env)::starEach es X.env:=he;rw[YZ]at h1⊢;exact Calls.evalArgs_plain<|bz h1 <| by rintro us s2 ⟨vs,H2,I2,r,z,q2⟩;exact{rfl,by show us.length<=sizeLine;rw[<-r.length];exact z,I2.bk _ _ hC,hN.keeps I2.bk,T.keeps I2.bk,λh' a hx=>y.ok.own rfl pins σ H2 s2 h' a _ _ I2 hx q2}
theorem p8{t:iH}(c:XC K C)(hm:X.mg x=some (.ref C))(ha:DA K X (e::es) t)(hg:autoParam (Gl X x) qQJ)(pY:autoParam ((x==("__debug__": Str))=false) qQZ) (he:autoParam (starEach (e::es) X.env=(false,eval e X.env)::starEach es X.env) qQJ) (dO:autoParam ((backTo aT<|starEach es X.env).any (·.1)=false) qQJ) (hc:autoParam (X.calm=true) qQJ) (hK:autoParam (X.K=K) qQJ): DS K X true (.Raise (some<|.Call (.Name x np) (e::es) [] aT) none pos) (PK C t):=by subst hK;exact⟨λy=>(FO (y:=y) hc c hg hm (ha.of y) pY he dO).mono λD τ H ⟨σ,S,De,Z,aC,hS,q,hD,hZ⟩=>{σ,S,_,_,aC,hS,q,λds S1 vs H1 ⟨hl,r1⟩ v1 s1 k1=>{by rw[v1.len];exact hl,hZ.at aC C S1 H1 r1 s1 k1},hZ.at aC}⟩
end
structure vW where
 xs:List D
 ok:ay->Prop
def Uu(K:Frag)(H0:Hp)(J:It)(I:vW):Prop:=∀i S H,Kp K H0 H->Rs K S H->I.ok S->(∀d,I.xs[i]?=some d->J.go i H/\∀x H',J.Sh i H x H'->Rv K H' d x/\Kp K H H'/\Rs K S H')/\(I.xs.length<=i->J.stop i H)
abbrev A7:=SD->ay->(vW->ay->Prop)->KX->Prop
def Ti(K:Frag)(E:St->XK)(t:A7):TI:=λτ H R=>∃σ S RI Z,iG K H σ τ/\Rs K S H/\t σ S RI Z/\(∀I S' J H',RI I S'->Uu K H' J I->Rs K S' H'->Kp K H H'->R J H')/\FI K H Z (E τ)
structure DI(K:Frag)(X:Cx)(tg it:Expr)(t:A7):Prop where
 of:∀{b:Bool}(y:Ev X b),PI y.cx tg it<|Ti K y.E t
theorem PI.mono{t t':TI}(h:PI X tg it t)(i:∀τ H R,t' τ H R->t τ H R):PI X tg it t':=λpins s τ H R I q=>h pins s τ H R I<|i τ H R q
section
variable{K:Frag}{X:Cx}{tg l:Expr}
def Y0(t:TD):A7:=λσ S R Z=>t σ S (λx S1=>∃ds,p7 S1 x ds/\R {ds,λS=>p7 S x ds} S1) Z
theorem il{t:TD}(h:DE K X l t)(hK:autoParam (X.K=K) qQJ):DI K X tg l (Y0 t):=by subst hK;exact⟨λy=>(Kv (X:=y.cx)<|h.of y).mono <| by rintro τ H R ⟨σ,S,RI,Z,aC,hS,q,hR,hZ⟩;exact{σ,S,_,Z,aC,hS,q,by rintro x S1 v H1 ⟨ds,h1,r1⟩ v1 s1 k1;obtain⟨a,xs,rfl,hq,t⟩:=h1.at s1 v1;refine{a,rfl,⟨xs,hq⟩,hR _ S1 _ H1 r1 (λi S2 H2 k2 s2 Wn=>?_) s1 k1};obtain⟨a',PL,e',G7,t'⟩:=p7.at Wn s2<|Rv.ts k2 _ v1;cases e';refine{λd hd=>?_,λhl=>{PL,G7,by rw[t'.len];exact hl}};obtain⟨v,e1,r⟩:=t'.get hd;refine{⟨PL,v,G7,e1⟩,λx' H' ⟨e2,e3⟩=>?_};subst e2;have:=e3 PL G7;rw[e1]at this;cases this;exact{r,.refl _,s2},hZ}⟩
def Uv(t:TD):A7:=λσ S R Z=>t σ S (λx S1=>∃ds,(x=.tup ds\/x=.kt ds)/\R {ds,λ_=>True} S1) Z
theorem PM{H:Hp}{x:D}{ds:List D}{v:V}(h:x=.tup ds\/x=.kt ds)(r:Rv K H x v):∃a xs,v=.ref a/\(∀H',Kp K H H'->gT K H' a xs)/\RvAll K H ds xs:=by rcases h with rfl|rfl;obtain⟨a,xs,rfl,q,t⟩:=r.tup;exact{a,xs,rfl,λH' k=>.of<|k.t _ _ q,t};obtain⟨a,xs,rfl,q,t⟩:=r.kt;exact{a,xs,rfl,λH' k=>.inr q,t}
theorem FP{t:TD}(h:DE K X l t)(hK:autoParam (X.K=K) qQJ):DI K X tg l (Uv t):=by subst hK;exact⟨λy=>(OD (X:=y.cx)<|h.of y).mono <| by rintro τ H R ⟨σ,S,RI,Z,aC,hS,q,hR,hZ⟩;exact{σ,S,_,Z,aC,hS,q,by rintro x S1 v H1 ⟨ds,h1,r1⟩ v1 s1 k1;obtain⟨a,xs,rfl,hq,t⟩:=PM h1 v1;refine{a,rfl,{xs,hq _<|.refl _},hR _ S1 _ H1 r1 (λi S2 H2 k2 s2 _=>?_) s1 k1};have RA:=hq H2 k2;refine{λd hd=>?_,λhl=>{xs,RA,by rw[t.len];exact hl}};obtain⟨v,e1,r⟩:=(RvAll.ts k2 _ t).get hd;refine{⟨xs,v,RA,e1⟩,λx' H' ⟨e2,e3⟩=>?_};subst e2;have:=e3 xs RA;rw[e1]at this;cases this;exact{r,.refl _,s2},hZ}⟩
noncomputable def FQ(lo:Int)(n:Nat):List D:=(List.range n).map λi=>D.int<|lo+(i:Nat)
theorem dy{lo:Int}{n:Nat} : (FQ lo n).length=n:=by unfold FQ;rw[zb,List.length_range]
theorem g_{lo:Int}{n i:Nat}{d:D}(h:(FQ lo n)[i]?=some d):i<n/\d=.int (lo+i):=by unfold FQ at h;rw[zp]at h;by_cases q:i<n;rw[List.getElem?_range q]at h;exact{q,(zP h).symm};rw[List.getElem?_eq_none<|by rw[List.length_range];omega]at h;cases h
theorem PN{H0:Hp}{lo:Int}{n:Nat} : Uu K H0 (V3 lo n) {FQ lo n,λ_=>True}:=λi S H k s _=>{λd hd=>by obtain⟨h1,rfl⟩:=g_ hd;exact{h1,by rintro x H' ⟨e1,e2⟩;exact by subst e1 e2;exact{aN _,.refl _,s}},λhl=>by rw[dy]at hl;exact hl}
def Y1(t:iH):A7:=λσ S R Z=>t σ S (λds S1=>∃j:Int,ds=[.int j]/\-(2^62)<=j/\j<2^62/\R {FQ 0 j.toNat,λ_=>True} S1) Z
theorem PQ{t:iH}(hm:X.mg "range"= none)(ha:DA K X [a] t)(hg:autoParam (Gl X "range") qQJ)(hs:autoParam (starEach [a] X.env=[(false,eval a X.env)]) qQJ):DI K X tg (.Call (.Name "range" p) [a] [] pos) (Y1 t):=⟨λy=>(E8 (X:=y.cx) hg hm (ha.of y) hs).mono <| by rintro τ H R ⟨σ,S,RI,Z,aC,hS,q,hR,hZ⟩;exact{σ,S,_,Z,aC,hS,q,by rintro ds S1 vs H1 ⟨j,e,h1,h2,r1⟩ v1 s1 k1;subst e;obtain⟨v,rfl,r⟩:=v1.one;exact{j,by rw[r.int],h1,h2,hR _ S1 _ H1 r1 PN s1 k1},hZ}⟩
end
section
variable{K:Frag}{X:Cx}{tg iter:Expr}{pos:Pos}
def Y2(ti:A7)(g:BZ)(tb:mH):mH:=λDe σ S Z=>ti σ S (λI S1=>∃P:Nat->SD->ay->Prop,P 0 σ S1/\(∀i σ S,P i σ S->I.ok S)/\(∀i d σ S,I.xs[i]?=some d->P i σ S->g d σ S λqz S2=>tb {De with nx:=P<|i+1,ct:=P<|i+1,bk:=De.nx} qz S2 Z)/\∀σ S,P I.xs.length σ S->De.nx σ S)<|Z σ
theorem FR(hi:DI K X tg iter ti)(hg:DG K X tg g)(hb:FL K X true body tb)(hs:autoParam (∀x,foldedSetIterable iter X.env x=pure x) qQ0)(hc:autoParam (X.calm=true) qQJ):DS K X true (.For tg iter body [] pos) (Y2 ti g tb):=
 ⟨λy=>(OE (X:=y.cx) (y.ok.loop rfl) hc (hi.of y) (hg.of _ rfl rfl rfl rfl rfl) (hb.of y) hs).mono <| by rintro D τ H ⟨σ,S,De,Z,aC,hS,q,hD,hZ⟩;exact
  ⟨σ,S,_,_,aC,hS,q,by
   rintro I S1 J H1 ⟨P,p0,Y3,Y4,pend⟩ hJ s1 k1
   refine{λi m τ H=>m=I.xs.length-i/\i<=I.xs.length/\∃σ S,iG K H σ τ/\Rs K S H/\P i σ S/\Kp K H1 H,!{zY _,σ,S1,aC.ts k1,s1,p0,.refl _},?_}
   rintro i m τ2 H2 ⟨rfl,Uw,qz,S2,a2,s2,p2,k2⟩
   have ok:=hJ i S2 H2 k2 s2<|Y3 _ _ _ p2
   by_cases eN:i<I.xs.length
   ·obtain⟨go,yl⟩:=ok.1 _ (zh eN)
    refine .inr {go,λRu H'=>i+1<=I.xs.length/\∃σ S,iG K H' σ Ru/\Rs K S H'/\P (i+1) σ S/\Kp K H1 H',λaF H' h'=>{_,by omega,rfl,h'},λx H' hy=>?_}
    obtain⟨rx,k3,s3⟩:=yl x H' hy
    refine{_,qz,S2,_,rx,a2.ts k3,s3,Y4 i _ qz S2 (zh eN) p2,λWo S4 τ4 H4 r4 a4 s4 k4=>?_}
    have kk:=(k2.trans k3).trans k4
    exact{Wo,S4,_,Z,a4,s4,r4,{λPR S5 Y5 H5 r5 a5 s5 k5=>{eN,PR,S5,a5,s5,r5,kk.trans k5},hD.rt.kp<|k1.trans kk,(hD.nx.kp<|k1.trans kk),λPR S5 Y5 H5 r5 a5 s5 k5=>{eN,PR,S5,a5,s5,r5,kk.trans k5}},hZ.kp<|k1.trans kk}
   ·have e:i=I.xs.length:=by omega
    subst e
    exact .inl {ok.2<|zo _,hD.nx _ _ _ _ (pend _ _ p2) a2 s2<|k1.trans k2},hZ.at aC⟩⟩
end
noncomputable def pq(σ:SD)(src:List<|Option Nat):SD:=src.map λo=>match o with|some j=>(σ[j]?).join|none=>none
theorem iG.pick{K:Frag}{H:Hp}{σ:SD}{τ:St}(h:iG K H σ τ):∀src:List (Option Nat),iG K H (pq σ src) (pick τ src)|[]=>.nil|o::r=>.cons (λd e=>by cases o with|none=>(cases e)|some j=>dsimp only at e⊢;cases q:σ[j]? with|none=>(rw[q]at e;cases e)|some o'=>rw[q]at e;obtain rfl:o'=some d:=e;obtain⟨v,e1,r1⟩:=h.get q;exact{v,by rw[e1];rfl,r1})<|iG.pick h r
def Zf:KX:=λ_ _=>False
def DZ(σ:SD)(src:List<|Option Nat)(g:BZ)(tc:nM)(te:TD)(R:KD)(I:vW)(S1:ay):Prop:=∃P:Nat->List D->ay->Prop,P 0 [] S1/\(∀i out S,P i out S->I.ok S)/\(∀i d out S,I.xs[i]?=some d->P i out S->out.length<sizeLine/\g d (pq σ src) S λjj S3=>tc jj S3 (λb S4=>if b=true then te jj S4 (λv S5=>P (i+1) (out++[v]) S5) Zf else P (i+1) out S4) Zf)/\∀out S2,P I.xs.length out S2->∀p,S2 p=none->R (.ref p) (S2.set p<|.lst out)
def D0(ti:A7)(src:List<|Option Nat)(g:BZ)(tc:nM)(te:TD):TD:=λσ S R Z=>ti σ S (λI S1=>DZ σ src g tc te R I S1) Z
theorem FI.f{K:Frag}{H:Hp}{e:XK} : FI K H Zf e:=λ_ _ _ z=>z.elim
theorem T.comp{K:Frag}{E E':St->XK}{ti:A7}{src:List<|Option Nat}{g:TG}{gd:BZ}{tc:nM}{te:TD}{τ:St}{H:Hp}{Q:VK}(hg:∀v τ H Q,Tg K gd v τ H Q->g v τ H Q) (h:T K E (D0 ti src gd tc te) τ H Q):HC (Ti K E ti) src g (Tt K E' tc) (T K E' te) τ H Q:=by
 obtain⟨σ,S,R,Z,aC,hS,q,hR,hZ⟩:=h;refine{σ,S,_,Z,aC,hS,q,λI S1 J H1 ⟨P,p0,Y3,Y4,pend⟩ hJ s1 k1=>?_,hZ};refine{λi m out H=>m=I.xs.length-i/\i<=I.xs.length/\∃ds S,RvAll K H ds out/\Rs K S H/\P i ds S/\Kp K H1 H,!{zY _,[],S1,bD,s1,p0,.refl _},?_};rintro i m out H2 ⟨rfl,Uw,ds,S2,v2,s2,p2,k2⟩;have ok:=hJ i S2 H2 k2 s2<|Y3 _ _ _ p2;by_cases eN:i<I.xs.length;obtain⟨go,yl⟩:=ok.1 _<|zh eN;obtain⟨hz,st⟩:=Y4 i _ ds S2 (zh eN) p2;refine .inr {go,by rw[v2.len];exact hz,λx H' hy=>?_};obtain⟨rx,k3,s3⟩:=yl x H' hy;refine hg _ _ _ _ {_,_,S2,_,rx,(((aC.ts k1).ts k2).ts k3).pick src,s3,st,λWo S4 τ4 H4 r4 a4 s4 k4=>?_};refine{Wo,S4,_,Zf,a4,s4,r4,λc S5 H5 r5 s5 k5=>?_,.f};cases c with|true=>rw[if_pos rfl]at r5⊢;exact{Wo,S5,_,Zf,a4.ts k5,s5,r5,λd S6 v H6 r6 v6 s6 k6=>{_,by omega,rfl,eN,ds++[d],S6,(RvAll.ts (((k3.trans k4).trans k5).trans k6) _ v2).app<|aS v6 bD,s6,r6,(((k2.trans k3).trans k4).trans k5).trans k6},.f}|false=>rw[if_neg zd]at r5⊢;exact{_,by omega,rfl,eN,ds,S5,RvAll.ts ((k3.trans k4).trans k5) _ v2,s5,r5,((k2.trans k3).trans k4).trans k5}
 have e:i=I.xs.length:=by omega
 subst e;exact .inl {ok.2<|zo _,λp hp=>(hR.kp<|k1.trans k2).new s2 hp (pend _ _ p2 p) v2}
noncomputable def Ev.none(X:Cx)(h:X.xe=λ_ _=>False):Ev X false:={X.pn,X.xe,λ_=>E0,{by rintro p2 τ H s e s' _ ⟨_,_,_,_,_,_,_,_,_,z⟩;exact z.elim,λe=>(by cases e),λe=>(by cases e)}}
section
variable{K:Frag}{X:Cx}{b:Bool}{N:List Str}{src:List (Option Nat)}{scope:Scope}{tg iter elt:Expr}{ifs:List Expr}{pos:Pos}{ti:A7}{g:TG}{gd:BZ}{tc:nM}{te:TD}
structure Wq(K:Frag)(X:Cx)(ifs:List Expr)(t:nM):Prop where
 of:∀{b:Bool}(y:Ev X b),Rk y.cx ifs<|Tt K y.E t
def uT:nM:=λ_ S R _=>R true S
theorem px:Wq K X [] uT:={λy pins s τ H Q I ⟨σ,S,R,Z,aC,hS,q,hR,hZ⟩=>K4 pins s τ H Q I<|hR true S H q hS<|.refl _}
theorem if1{t:nM}(h:DT K X c t):Wq K X [c] t:=⟨λy=>K5<|h.of y⟩
theorem p_(S:bN X N src scope)(hit:DI K X tg iter ti)(hg:∀C s H ex pn,PG (i4 X N scope C s H ex pn) tg g)(hx:BB g src)(Y6:∀v τ H Q,Tg K gd v τ H Q->g v τ H Q) (hi:∀C s H ex pn,Wq K (i4 X N scope C s H ex pn) ifs tc) (he:∀C s H ex pn,DE K (i4 X N scope C s H ex pn) elt te) (hs:autoParam (∀x,foldedSetIterable iter X.env x=pure x) qQ0) (hc:autoParam (X.calm=true) qQJ):DE K X (.ListComp elt [{tg,iter,ifs,0}] scope pos) (D0 ti src gd tc te):=⟨λy=>(K7 (X:=y.cx) (tc:=Tt K (λ_=>E0) tc) (te:=T K (λ_=>E0) te) ⟨S.kind,S.gA,S.loc,S.BA,S.len,S.src⟩ hc (hit.of y) hg hx (λC s H ex pn=>(hi C s H ex pn).of<|.none _ rfl) (λC s H ex pn=>(he C s H ex pn).of<|.none _ rfl) hs).mono λ_ _ _ h=>h.comp Y6⟩
theorem LH(hN:X.N.Nodup)(S:bN X N src scope)(hit:DI K X tg iter ti)(hg:∀C s H ex pn,PG (i4 X N scope C s H ex pn) tg g)(hx:BB g src)(Y6:∀v τ H Q,Tg K gd v τ H Q->g v τ H Q) (hi:∀C s H ex pn,Wq K (i4 X N scope C s H ex pn) ifs tc) (he:∀C s H ex pn,DE K (i4 X N scope C s H ex pn) elt te) (Ya:autoParam (X.N[i]?=some x) qQJ) (Wb:autoParam (X.env.scope.names.lookup x=some .local) qQJ) (Yb:autoParam (swapsWith (.ListComp elt [{tg,iter,ifs,0}] scope pos) (some<|.Name x pos') K8.line X.env=pure true) qQJ) (hs:autoParam (∀x,foldedSetIterable iter X.env x=pure x) qQ0) (hc:autoParam (X.calm=true) qQJ):DS K X b (.Assign [.Name x pos'] (.ListComp elt [{tg,iter,ifs,0}] scope pos) K8) (Um i<|D0 ti src gd tc te):=⟨λy=>(BC (X:=y.cx) (i:=i) (tc:=Tt K (λ_=>E0) tc) (te:=T K (λ_=>E0) te) hN Ya Wb ⟨S.kind,S.gA,S.loc,S.BA,S.len,S.src⟩ hc (hit.of y) hg hx (λC s H ex pn=>(hi C s H ex pn).of<|.none _ rfl) (λC s H ex pn=>(he C s H ex pn).of<|.none _ rfl) Yb hs).mono <| by rintro D τ H ⟨σ,S,De,Z,aC,hS,q,hD,hZ⟩;exact T.comp Y6 {σ,S,_,_,aC,hS,q,λd S1 v H1 r1 v1 s1 k1=>hD.nx _ _ _ _ r1 ((aC.ts k1).set i v1) s1 k1,hZ.at aC}⟩
theorem aP:∀v τ H Q,Tg K (Wl i) v τ H Q->i0 i v τ H Q:=by rintro v τ H Q ⟨d,σ,S,R,rv,aC,hS,q,hR⟩;exact hR _ S _ H q (aC.set i rv) hS<|.refl _
end
structure rP(K:Frag)(x qual:Str)(st:Stmt)(f:Addr)(fd:FuncData):Prop where
 ex:∃(oc:Value)(od:Option Addr)(dV kV doc pm:Value)(an:Option Addr)(eP ct:Value)(OU:Array (Option Value)),
  fd=fnOf x qual (bw st) (bq st) (ae st) dV kV doc pm an eP ct/\K.lookup f=some {oc,od,.func fd,OU}/\codeIn K eP qual=true
noncomputable def iK(N:List Str)(ds:List D):SD:=ds.map some++List.replicate (N.length-ds.length) none
section
variable{i:Nat}{P:Program}{w:World}{K:Frag}{mg:Str->Option Value}{base:Heap}
theorem rP.okD{x qual:Str}{st:Stmt}{f:Addr}{fd:FuncData}{N ps:List Str}{k:Nat}{sp:iJ}(F:rP K x qual st f fd)(S:eZ N ps<|ae st)(len:∀ds S R Z,sp ds S R Z->ds.length=ps.length) (ju:∀(eP:Value)(A:Around)(outer:List Env)(s:Shared)(H:Hp)(E:XK)(ds:List D)(S:ay)(R:KD)(Z:KX),bR k (A.deeper<|envOfC qual (ae st) s.heap.objs.size f eP)->sp ds S R Z->∃t,FL K (jt (fk P w mg) P w K mg base N qual (ae st) f eP A outer s H E) true (bq st) t/\t {nx:=λ_ S'=>R .av S',rt:=R} (iK N ds) S λ_=>Z):bO P w K mg base (fk P w mg) (k+1) f fd ps (qG K sp):=by
 obtain⟨oc,od,dV,kV,doc,pm,an,eP,ct,OU,rfl,lk,tK⟩:=F.ex;have dO:ps.length<=N.length:=by have:=congrArg List.length S.pre;rw[zV]at this;lia
 refine M5 lk tK S (by rintro vs H Q E ⟨ds,S',R,Z,v,_,h,_⟩;exact by rw[v.len];exact len _ _ _ _ h) λA outer s H vs Q E hr ⟨ds,S',R,Z,v,hS,h,hR,hZ⟩=>?_;obtain⟨t,ht,q⟩:=ju eP A outer s H E ds S' R Z hr h;have L:cP (jt (fk P w mg) P w K mg base N qual (ae st) f eP A outer s H E) E:=uP;let y:Ev (jt (fk P w mg) P w K mg base N qual (ae st) f eP A outer s H E) true:={_,(jt (fk P w mg) P w K mg base N qual (ae st) f eP A outer s H E).xe,λ_=>E,{λp2 τ H1 s1 e s' I h=>Nb L p2 τ H1 s1 e s' I h,λ_ p2 τ H1 s1 h' a cls args I hx he=>pj L I hx he,λ_=>PassesOwn.leaving}};refine{Tl K (λ_=>E) t,ht.of y,iK N ds,S',_,λ_=>Z,?_,hS,q,{λσ S1 τ H1 r a b c=>hR.kp c |>.now b r iC,hR,λ_ _ _ _ z=>z.elim,λ_ _ _ _ z=>z.elim},λσ τ C S1 H1 z a b c=>hZ C S1 H1 z b c};unfold iK start;refine(rN v).app ?_;rw[v.len];exact rM _ _<|by rw[List.length_replicate]
theorem bO.Ux(F:bO P w K mg base (fk P w mg) k f fd ps<|qG K sp)(h:∀ds S R Z,V6 ds S R Z->sp ds S R Z):bO P w K mg base (fk P w mg) k f fd ps (qG K V6):=F.imp <| by rintro vs H Q E ⟨ds,S,R,Z,a,b,c,d⟩;exact{ds,S,R,Z,a,b,h _ _ _ _ c,d}
theorem bO.calm(F:bO P w K mg base (fk P w mg) k f fd ps sp):bO P w K mg base V9 k f fd ps λvs H Q _=>sp vs H Q E0:=by refine{λvs H Q E h=>F.len vs H Q E0 h,λA outer s H args us vs Q E hr e0 hb r h=>yQ (F.run A outer s H args us vs Q E0 hr e0 hb r h) λres s' q=>?_};cases res with|error e=>(obtain⟨_,_,_,_,_,_,_,_,_,z⟩:=q;exact z.elim)|ok fl=>cases fl<;>exact q
noncomputable def uS.less(De:uS)(i:Nat):uS:={nx:=λσ S=>De.nx (σ.set i none) S,rt:=De.rt,bk:=λσ S=>De.bk (σ.set i none) S,ct:=λσ S=>De.ct (σ.set i none) S}
end
theorem uU{P:Program}{w:World} : ∀{ss:List Str}{vs:List Value},vs.length=ss.length->(∀(j:Nat)(v:Value),vs[j]?=some v->∃x,ss[j]?=some x/\keyIs (.inr x) v=true)->StrsAre vs ss|[],[],_,_=>.nil|[],_::_,h,_=>by simp at h|_::_,[],h,_=>by simp at h|x::ss,v::vs,h,k=>by obtain⟨x',e,q⟩:=k 0 v rfl;cases e;rcases bE q with⟨i,t,e,_⟩|⟨y,t,e,rfl⟩;cases e;cases e;exact .cons x t<|uU (P:=P) (w:=w) (by simpa using h) λj v e=>k (j+1) v<|by simpa using e
theorem uV:∀{vs:List Value}{ss:List Str},StrsAre vs ss->Vals (ss.map V.str) vs|_,_,.nil=>.nil|_,_,.cons y t h=>.cons ⟨t,rfl⟩<|uV h
theorem KV.Y7{κ:Type}{kvs:List<|κ×V}{vs:List<|κ×Value}(h:KV kvs vs):vs.map (·.1)=kvs.map (·.1):=by unfold KV at h;induction h with|nil=>rfl|cons r t ih=>rw[zy,zy,ih,r.1]
theorem Ih{prog:Program}{w:World}{A:Around}{E:Value->Shared->Prop}{s:Shared}{T:String}{r d:Addr}{n:Nat}{P:Nat->Value->Prop}{OK:Heap->Prop}{R:List Value->Shared->Prop}(K:PySem.W.KdlSrc prog w T r d n P OK)(hh:A.handled=none)(aQ:OK s.heap)(hn:n<=sizeLine) (h:∀(h':Heap) (tk:Nat) (acc:Array Value),(∀b o,s.heap.get? b=some o->h'.get? b=some o)->s.heap.objs.size<=h'.objs.size->ItemsOf P acc n->R acc.toList {s with heap:=h',toks:=tk}): wpAny (model prog w) A (collect<|.ref r) R E s:=by have eN:=K.there _ aQ;unfold collect;refine zc<|wpAny_runValue<|yM entry_proto_collect' ?_;rw[Around.under_plainId PySem.F.plain_proto_collect _];show wpAny _ A.in1 (newList [] >>=λl=>again<|.builtin "list.__iadd__" {[l,.ref r],[]}) _ _ s;refine zc<|yi ?_;refine zm {plainId_quiet PySem.F.plain_list_iadd _,yM entry_list_iadd' ?_};rw[Around.under_plainId PySem.F.plain_list_iadd _];have Uy:(s.heap.push {cls:=.type "list",data:=.seq ([]:List Value).toArray}).get? s.heap.objs.size=some {cls:=.type "list",data:=.seq #[]}:=zk _ rfl;show wpAny _ A.in1 (Builtin.List.listExtendWith (.ref s.heap.objs.size) (.ref r)<|.ref s.heap.objs.size) _ _ _;have key:=PySem.W.kdl_extend (A:=A) (s:={s with heap:=s.heap.push {cls:=.type "list",data:=.seq ([]:List Value).toArray}}) (R:=λ(q:Result) (s':Shared)=>∃(h':Heap) (tk:Nat) (xV:Array Value) (c':Nat),q=.ok (.ret<|.ref s.heap.objs.size)/\s'={s with heap:=h',toks:=tk}/\(∀b o,s.heap.get? b=some o->h'.get? b=some o)/\h'.get? s.heap.objs.size=some {cls:=.type "list",dict:=none,data:=.seq xV c',slots:=#[]}/\ItemsOf P xV n) K hh (K.keep _ _ aQ λb _ o e=>za _ e) s.heap.objs.size (ym eN.1) (ym eN.2) (.ref s.heap.objs.size) 0 Uy (λh' tk xV c' hk nO rE=>{h',tk,xV,c',rfl,rfl,λb o e=>hk b o (zA<|zx e)<|za _ e,nO,rE}) hn;refine yF key (λfin s' x=>?_) λe s' x=>?_;{cases fin with|done f=>(obtain⟨h',tk,xV,c',e,rfl,hk,nO,rE⟩:=x;cases e;show wpAny _ A (load s.heap.objs.size >>=_) _ _ _;exact zc<|wpAny_load nO<|zm<|h h' tk xV hk (yK<|zx nO) rE)|again c₁=>refine{x.1,yQ x.2 λq bW y=>?_};obtain⟨h',tk,xV,c',rfl,rfl,hk,nO,rE⟩:=y;show wpAny _ A (load s.heap.objs.size >>=_) _ _ _;exact zc<|wpAny_load nO<|zm<|h h' tk xV hk (yK<|zx nO) rE};obtain⟨_,_,_,_,e',_⟩:=x;cases e'
theorem vX{X:Cx}(hc:X.calm=true):eU X (.builtin "sorted") (λxs H Q=>∃(a:Addr)(kvs:List (Key×V))(ss:List Str),xs=[.ref a]/\H a=some (.dK kvs)/\kvs.map (·.1)=ss.map Sum.inr/\kvs.length<64/\∀D1,D1.Perm ss->sortedS D1=true->∀l,H l=none->Q (.ref l) (upd H l<|.lst<|D1.map V.str)):=by
 intro pins s σ H xs us Q I r h;obtain⟨a,kvs,ss,rfl,e,hk,hl,q⟩:=h;obtain⟨u,rfl,ru⟩:=vals1 r;cases ru;obtain⟨z,hd,vs,rel,dd⟩:=DK I.aQ e;obtain⟨ep,Wr⟩:=dd.dictAt;have hlen:vs.length<64:=by rw[<-rel.length];exact hl
 have hh:=I.ok.hd hc;refine PySem.Calls.call_function_entry kind_sorted plain_sorted entry_sorted (args_sorted1 _) ?_;unfold Builtin.«sorted»;refine zc (m:=checkCount "sorted" 1 1 _)<|zm ?_;refine zc<|Ih (A:=X.A.in1) (PySem.W.kdl_dict (knd:=aH X.prog X.w) (kvs:=vs) (ep:=ep) hd) hh Wr (by rw[zX];omega) λh' tk acc PU hB rE=>?_;have vJ:acc.toList.length=vs.length:=by rw[zT];exact rE.1
 refine zc<|wpAny_newList ?_ (by rw[vJ,zX];omega);have hS:StrsAre acc.toList ss:=by have hkv:=rel.Y7;refine uU (P:=X.prog) (w:=X.w) (by rw[vJ,<-rel.length];have:=congrArg List.length hk;simpa using this) λj v ev=>?_;obtain⟨k,x,e1,e2⟩:=rE.2 j v (by rw[<-Array.getElem?_toList];exact ev);have e3:(vs.map (·.1))[j]?=some k:=(by rw[zp,e1];rfl);rw[hkv,hk,zp]at e3;cases q2:ss[j]? with|none=>(rw[q2]at e3;cases e3)|some y=>rw[q2]at e3;cases e3;exact⟨y,rfl,e2⟩
 have GZ:(h'.push<|seqObj "list" acc.toList.toArray 0).get? h'.objs.size=some (seqObj "list" acc.toList.toArray 0):=zk _ rfl;show wpAny _ _ _ _ _ {s with heap:=h'.push<|seqObj "list" acc.toList.toArray 0,toks:=tk};refine zc<|yE<|yD slot_list_sort {_,GZ,rfl} entry_list_sort (list_sort_treeK (s:={s with heap:=h'.push<|seqObj "list" acc.toList.toArray 0,toks:=tk}) strKind_oneLt GZ hS.keysOf (λoa og rest e=>keyKind_strs<|by rw[<-e];exact hS) (by rw[vJ];exact hlen) λeM hp hs=>!⟨?_⟩)<|args_list_sort _;refine zm !⟨?_⟩;obtain⟨D1,h1,h2,h3⟩:=sorted_out_str hS hp hs;obtain⟨e1,he1⟩:=sortedHeap_at (vs:=acc.toList) (n:=0) (out:=(arrOf eM).map (·.2)) GZ;have RB:D1.length<=sizeLine:=by rw[h2.length_eq,zX];have:=congrArg List.length hk;rw[zb,zb]at this;omega
 refine{.ref h'.objs.size,_,I.laid (a:=h'.objs.size) (o:=.lst<|D1.map V.str) (λb u hb=>?_) hB {by rw[zb];exact RB,_,e1,uV h1,he1},rfl,q D1 h2 h3 _<|I.aQ.fresh hB};have eN:=zx<|PU b u hb;rw[sortedHeap_old (zA eN)<|by rw[zZ];exact Nat.lt_succ_of_lt eN,za _<|PU b u hb]
section
variable{K:Frag}
def LI:List D->ay->KD->Prop:=λds S R=>∃(a:Addr)(kvs:List (Key×D))(ss:List Str),ds=[.ref a]/\S a=some (.cO kvs)/\kvs.map (·.1)=ss.map Sum.inr/\kvs.length<64/\∀D1,D1.Perm ss->sortedS D1=true->∀p,S p=none->R (.ref p) (S.set p<|.lst<|D1.map D.str)
theorem bY.keys{κ:Type}{H:Hp}{ks:List<|κ×D}{vs:List<|κ×V}(h:bY K H ks vs):vs.map (·.1)=ks.map (·.1):=by unfold bY at h;induction h with|nil=>rfl|cons r t ih=>rw[zy,zy,ih,r.1]
theorem mI:gZ K (.builtin "sorted") LI:=by rintro X hK hc pins s σ H xs us Q I rx ⟨ds,S,R,r,hS,⟨a,kvs,ss,e,e1,hk,hl,h⟩,hR⟩;subst e;obtain⟨v,rfl,r1⟩:=r.one;obtain⟨vs,e2,t⟩:=hS.cO e1;exact vX hc pins s σ H _ us Q I rx {a,vs,ss,by rw[r1.ref],e2,by rw[t.keys];exact hk,by rw[t.len];exact hl,λD1 p1 p2 l hl=>hR.new hS hl (h D1 p1 p2 l)<|vS D1}
end
noncomputable def Nr(K:Frag)(a:Addr)(n:Nat):It:={λi H=>∃xs x,iZ K H a xs/\xs.length=n/\i<n/\xs[n-1-i]?=some x,λi H x H'=>H'=H/\∀xs,iZ K H a xs->xs.length=n->xs[n-1-i]?=some x,λi _=>n<=i}
theorem Ii{P:Program}{w:World}{K:Frag}{tg:Expr}(a it:Addr)(n:Nat):Turn P w K tg (Nr K a n) [it] it (λi h=>i<=n/\h.IsRevIter it a ((n:Int)-1-(i:Int))) where
 mem:=by simp
 obj:=λi h st b hb=>by
  have e:b=it:=by simpa using hb
  subst e
  obtain⟨_,o,e,c,d⟩:=st
  exact{o,e,λv z=>by rw[d]at z;cases z}
 keep:=λi h h' st k=>{st.1,st.2.at λo e=>k it (by simp) o e}
 item:=by
  intro X hP hw hK hc i pins s σ H E I hf st hg
  subst hP hw hK
  obtain⟨xs,x,hq,hn,hi,hx⟩:=hg
  obtain⟨az,rv,p,hz⟩:=I.list hq
  obtain⟨u,hu,ru⟩:=rv.get hx
  obtain⟨f0,f1,f2,f3,f4,f5⟩:=hf it<|by simp
  have e:(n:Int)-1-(i:Int)=((n-1-i:Nat):Int):=by lia
  have hit:=st.2
  rw[e]at hit
  refine wpAny_pyNext_rev_item hit p.isList (x:=u) (by simpa using hu) λh' eM sb=>?_
  have I1:Inv X pins σ H {s with heap:=h'}:=I.turned (t':=s.toks) (λb o hb e=>(sb.2 b hb).trans e) f0 f1 f3 f4 f5
  obtain⟨o,e1,c,d⟩:=id eM
  refine{u,rfl,uE (s:={s with heap:=h'}) e1 c d (by decide) {x,H,I1,ru,{rfl,λys hy _=>by rw[I.qX hy hq];exact hx},{hi,?_},λb hb=>(hf b hb).1}}
  have e2:(n:Int)-1-((i+1:Nat):Int)=((n-1-i:Nat):Int)-1:=by lia
  rw[e2];exact eM
 done:=by
  intro X hP hw hK hc i pins s σ H E I hf st hg
  subst hP hw hK
  obtain⟨f0,f1,f2,f3,f4,f5⟩:=hf it<|by simp
  have hg:n<=i:=hg
  have e:(n:Int)-1-(i:Int) = -1:=by have:=st.1;lia
  have hit:=st.2
  rw[e]at hit
  exact wpAny_pyNext_rev_end (I.ok.hd hc) hit λh' eb=>{rfl,I.turned (t':=s.toks) (λb o hb e=>eb b o hb e) f0 f1 f3 f4 f5}
 self:=λ_ _ _ _ _ st h=>wpAny_pyIter_revIter st.2 h
def Y8(K:Frag)(ta:TA):TI:=λσ H R=>ta σ H λvs H1=>∃a xs,vs=[.ref a]/\iZ K H1 a xs/\R (Nr K a xs.length) H1
theorem PX{X:Cx}{tg a:Expr}{ta:TA}{p pos:Pos}(hg:Gl X "reversed")(hm:X.mg "reversed"= none)(ha:PA X [a] ta)(hs:starEach [a] X.env=[(false,eval a X.env)]):PI X tg (.Call (.Name "reversed" p) [a] [] pos) (Y8 X.K ta):=by
 intro pins s σ H R I h;refine Call_<|fj I hg hm boot_reversed<|PyProof.Rows.callWith_type1 (bz (ha pos pins s σ H _ I h) λus s1 ⟨vs,H1,I1,r1,q1⟩=>?_) hs rfl;obtain⟨l,xs,e,q,hR⟩:=q1;subst e;obtain⟨u,rfl,ru⟩:=vals1 r1;cases ru;obtain⟨az,rv,pl,hz⟩:=I1.list q;have hn:az.toArray.size=xs.length:=by rw[zl,rv.length]
 refine call_reversed_list pl.isList ?_;rw[hn];have st:(s1.heap.push<|revObj l<|(xs.length:Int)-1).IsRevIter s1.heap.objs.size l ((xs.length:Int)-1-((0:Nat):Int)):={_,zk _ rfl,rfl,by show Data.fields _=Data.fields _;simp};have I2:Inv X pins σ H1 {s1 with heap:=s1.heap.push<|revObj l<|(xs.length:Int)-1}:=I1.kept (t':=s1.toks) λb o e=>za _ e;refine wpAny_pyIter_revIter st {_,_,_,_,H1,rfl,I2,Ii l s1.heap.objs.size xs.length,{zY _,st},λb hb=>?_,hR};have hb:b=s1.heap.objs.size:=by simpa using hb
 subst hb;exact I1.nV (zo _)<|I1.aQ.fresh<|zo _
section
variable{K:Frag}{X:Cx}{tg:Expr}
def Uz(t:iH):A7:=λσ S R Z=>t σ S (λds S1=>∃x es,ds=[x]/\p7 S1 x es/\R {es.reverse,λS=>p7 S x es} S1) Z
theorem irv{t:iH}(hm:X.mg "reversed"= none)(ha:DA K X [a] t)(hg:autoParam (Gl X "reversed") qQJ)(hs:autoParam (starEach [a] X.env=[(false,eval a X.env)]) qQJ)(hK:autoParam (X.K=K) qQJ):DI K X tg (.Call (.Name "reversed" p) [a] [] pos) (Uz t):=by subst hK;exact⟨λy=>(PX (X:=y.cx) hg hm (ha.of y) hs).mono <| by rintro τ H R ⟨σ,S,RI,Z,aC,hS,q,hR,hZ⟩;exact{σ,S,_,Z,aC,hS,q,by rintro ds S1 vs H1 ⟨x,es,e,h1,r1⟩ v1 s1 k1;subst e;obtain⟨v,rfl,r⟩:=v1.one;obtain⟨a,xs,rfl,hq,t⟩:=h1.at s1 r;refine{a,xs,rfl,hq,hR _ S1 _ H1 r1 (λi S2 H2 k2 s2 Wn=>?_) s1 k1};obtain⟨a',PL,e',G7,t'⟩:=p7.at Wn s2<|Rv.ts k2 _ r;cases e';have hl:xs.length=es.length:=t.len;have Of:PL.length=es.length:=t'.len;refine{λd hd=>?_,λh=>by rw[yA]at h;show xs.length<=i;lia};have hi:i<es.length:=(by have:=(zf.mp hd).1;rwa [yA]at this);rw[List.getElem?_reverse hi]at hd;obtain⟨v,e1,r⟩:=t'.get hd;rw[<-hl]at e1;refine{{PL,v,G7,by lia,by lia,e1},λx' H' ⟨e2,e3⟩=>?_};subst e2;have:=e3 PL G7 (by lia);rw[e1]at this;cases this;exact{r,.refl _,s2},hZ}⟩
noncomputable def bc(xs ys:List D):List D:=List.zipWith (λa b=>D.tup [a,b]) xs ys
def UA(t:iH):A7:=λσ S R Z=>t σ S (λds S1=>∃xs ys,ds=[.tup xs,.tup ys]/\xs.length=ys.length/\R {bc xs ys,λ_=>True} S1) Z
theorem qI:∀v τ H Q,Tg K (Nq 2<|B5 (Wl i)<|B5 (Wl j) Np) v τ H Q->Ku K 2 (qY (i0 i)<|qY (i0 j) Kt) v τ H Q:=by rintro v τ H Q ⟨d,σ,S,R,rv,aC,hS,⟨ds,e,hl,a,r,e1,b,r',e2,e3,q⟩,hR⟩;subst e e1 e2 e3;obtain⟨p,xs,rfl,hp,t⟩:=rv.tup;obtain⟨v1,v2,rfl,r1,r2⟩:=t.two;exact{p,_,rfl,.of hp,rfl,v1,[v2],rfl,v2,[],rfl,rfl,hR _ S _ H q ((aC.set i r1).set j r2) hS<|.refl _}
end
section
variable{K:Frag}{X:Cx}{b:Bool}{pos:Pos}
def UB(tl ti tv:TD):mH:=λDe σ S Z=>tv σ S (λv S1=>tl σ S1 (λx S2=>ti σ S2 (λy S3=>∃a es i j,x=.ref a/\y=.int i/\S3 a=some (.lst es)/\KW es.length i=some j/\De.nx σ (S3.set a<|.lst<|es.set j v))<|Z σ)<|Z σ)<|Z σ
theorem sls{o i value:Expr}{tl ti tv:TD}{pos':Pos}(ho:DE K X o tl)(hi:DE K X i ti)(hv:DE K X value tv)
  (ha:autoParam (∀v,assign (.Subscript o i pos') X.env v=(do
   let ov <-holding [v] (eval o X.env)
   let iv <-holding [v,ov] (eval i X.env)
   standAt pos'
   holding [v,ov,iv] (setItem ov iv v)
   release [v,ov,iv] [])) qQ0)
  (hs:autoParam (swapsWithSole [.Subscript o i pos'] value pos.line X.env=pure false) qQJ) (hw:autoParam (swappedStores [.Subscript o i pos'] value X.env=pure none) qQJ) (h1:autoParam ((assignEach [.Subscript o i pos'] X.env).map (·.2)=[assign (.Subscript o i pos') X.env]) qQJ):
  DS K X b (.Assign [.Subscript o i pos'] value pos) (UB tl ti tv):=
 ⟨λy=>(Hd (X:=y.cx) (hv.of y) (Ox (ho.of y) (hi.of y) set_list ha) hs hw h1).mono <| by rintro D τ H ⟨σ,S,De,Z,aC,hS,q,hD,hZ⟩;exact
  ⟨σ,S,_,_,aC,hS,q,λv S1 vv H1 r1 v1 s1 k1=>⟨σ,S1,_,_,aC.ts k1,s1,r1,λx S2 xv H2 r2 v2 s2 k2=>⟨σ,S2,_,_,aC.ts<|k1.trans k2,s2,r2,by
   rintro y S3 yv H3 ⟨a,es,i,j,e1,e2,e3,e4,r3⟩ v3 s3 k3
   subst e1 e2
   obtain⟨xs,e5,t⟩:=s3.lst e3
   have kk:=s3.iF (o:=.lst<|xs.set j vv) e3
   refine{a,xs,i,j,(Rv.ts k3 _ v2).ref,v3.int,e5,by rw[t.len];exact e4,?_}
   exact hD.nx _ _ _ _ r3 (aC.ts<|((k1.trans k2).trans k3).trans kk) (s3.put (c:=.lst _) e3 {_,aE,RvAll.ts kk _<|t.set j<|Rv.ts (k2.trans k3) _ v1})<|((k1.trans k2).trans k3).trans kk,hZ.on (k1.trans k2)<|aC.ts<|k1.trans k2⟩,hZ.on k1<|aC.ts k1⟩,hZ.at aC⟩⟩
noncomputable def fm(z:Str):List D:=z.cps.toList.map λc=>D.str ⟨#[c]⟩
def Nt(t:TD):A7:=λσ S R Z=>t σ S (λx S1=>∃z,x=.str z/\R {fm z,λ_=>True} S1) Z
theorem PY{t:TD}(h:DE K X l t):DI K X tg l (Nt t):=⟨λy=>(Pf (X:=y.cx)<|h.of y).mono <| by rintro τ H R ⟨σ,S,RI,Z,aC,hS,q,hR,hZ⟩;exact⟨σ,S,_,Z,aC,hS,q,by
 rintro x S1 v H1 ⟨z,e,r1⟩ v1 s1 k1;subst e;refine{z,v1.str,hR _ S1 _ H1 r1 (λi S2 H2 k2 s2 _=>{λd hd=>?_,λhl=>?_}) s1 k1};unfold fm at hd;rw[zp,Array.getElem?_toList]at hd;cases q:z.cps[i]? with|none=>(rw[q]at hd;cases hd)|some c=>rw[q]at hd;cases hd;refine{(Array.getElem?_eq_some_iff.mp q).1,λx' H' ⟨e1,c',e2,e3⟩=>?_};rw[q]at e2;cases e2;subst e1 e3;exact{gE _,.refl _,s2}
 unfold fm at hl;rw[zb,zT]at hl;exact hl,hZ⟩⟩
def LJ(t:TD):TD:=λσ S R Z=>t σ S (λx S1=>∃ss:List Str,p7 S1 x (ss.map D.str)/\ss.length<4000/\R (.int (i7 ss).length) S1) Z
theorem lse{t:TD}(h:DE K X e t)(hm:X.mg "len"= none)(hm':X.mg "set"= none)(hp:autoParam (isPlain e=true) qQJ)(hg:autoParam (Gl X "len") qQJ)(PZ:autoParam (Gl X "set") qQJ)(he:autoParam (starEach [e] X.env=[(false,eval e X.env)]) qQJ) (he2:autoParam (starEach [Expr.Call (.Name "set" p') [e] [] pos'] X.env=[(false,eval (.Call (.Name "set" p') [e] [] pos') X.env)]) qQJ) (hK:autoParam (X.K=K) qQJ) (hc:autoParam (X.calm=true) qQJ): DE K X (.Call (.Name "len" p) [.Call (.Name "set" p') [e] [] pos'] [] pos) (LJ t):=by subst hK;refine⟨λy=>(xy (X:=y.cx) (FA (X:=y.cx) rfl rfl) hg hm aG (Yc (uK (X:=y.cx) (Fz (X:=y.cx) rfl rfl rfl hc) PZ hm' Pl (Yc (h.of y) Bs hp) (by decide) (by decide) he rfl) Bs rfl) (by decide) (by decide) he2 rfl).mono λτ H Q ⟨σ,S,R,Z,aC,hS,q,hR,hZ⟩=>?_⟩;refine{σ,S,_,Z,aC,hS,q,λx S1 v H1 ⟨ss,h1,hl,r1⟩ v1 s1 k1=>?_,hZ};obtain⟨a,xs,rfl,hq,t⟩:=h1.at s1 v1;rw[t.strs]at hq;exact{a,ss,rfl,hq,hl,λl hl=>{l,ss,rfl,aE,hR _ _ _ _ r1 (aN _) (s1.grow hl)<|k1.trans<|.new hl}}
end
theorem FT{K:Frag}{S:ay}{H:Hp}{l:Addr}(hS:Rs K S H)(h:S l=some .well):∃x y z:Int,Rs K (S.set l<|.lst [.int x,.int y,.int z]) H:=by obtain⟨x,y,z,e⟩:∃x y z:Int,H l=some (.lst [.int x,.int y,.int z]):=hS l _ h;refine{x,y,z,λb c hb=>?_};by_cases q:b=l;subst q;rw[aa]at hb;cases hb;exact{_,e,aS (aN x)<|aS (aN y)<|aS (aN z) bD};rw[ag q]at hb;exact hS b c hb
theorem uW{K:Frag}{S:ay}{H:Hp}{l:Addr}{x y z:Int}(h:S l=some .well)(hS:Rs K (S.set l<|.lst [.int x,.int y,.int z]) H):Rs K S H:=λb c hb=>by by_cases q:b=l;subst q;rw[h]at hb;cases hb;obtain⟨xs,e,t⟩:=hS.lst (a:=b) aa;rw[t.ints (bs:=[x,y,z])]at e;exact⟨x,y,z,e⟩;exact hS b c<|by rw[ag q];exact hb
def P0(pre:List D->Addr->Prop)(post:List D->D->Prop):iJ:=λds S R _=>∃l x y z,pre ds l/\S l=some (.lst [.int x,.int y,.int z])/\∀d x' y' z',post ds d->R d (S.set l<|.lst [.int x',.int y',.int z'])
def Ij(pre:List D->Addr->Prop)(post:List D->D->Prop):iJ:=λds S R _=>∃l,pre ds l/\S l=some .well/\∀d,post ds d->R d S
theorem FU{P:Program}{w:World}{K:Frag}{mg:Str->Option Value}{base:Heap}{k:Nat}{f:Addr}{fd:FuncData}{ps:List Str}{pre:List D->Addr->Prop}{post:List D->D->Prop} (F:bO P w K mg base (fk P w mg) k f fd ps<|qG K<|P0 pre post):bO P w K mg base (fk P w mg) k f fd ps (qG K<|Ij pre post):=by refine F.imp λvs H Q E ⟨ds,S,R,Z,v,hS,⟨l,hp,hw,h⟩,hR,hZ⟩=>?_;obtain⟨x,y,z,nO⟩:=FT hS hw;refine{ds,_,λd S2=>∃x' y' z',post ds d/\S2=S.set l (.lst [.int x',.int y',.int z']),λ_ _=>False,v,nO,{l,x,y,z,hp,aa,λd x' y' z' hd=>⟨x',y',z',hd,dQ⟩},λd S2 u H' ⟨x',y',z',hd,e⟩ rv hs kp=>?_,λ_ _ _ q=>q.elim};subst e;exact hR d S u H' (h d hd) rv (uW hw hs) kp
theorem dj:bootBuiltins "sorted"= some (.builtin "sorted"):=by trivial
def Sub(S S':ay):Prop:=∀b c,S b=some c->S' b=some c
theorem Sub.refl(S:ay):Sub S S:=λ_ _ h=>h
theorem Sub.trans(a:Sub S S1)(b:Sub S1 S2):Sub S S2:=λp c h=>b p c<|a p c h
theorem Sub.new(h:S p=none):Sub S (S.set p c):=λb c' hb=>by rw[ag<|fS hb h];exact hb
theorem Rs.sub{K:Frag}{S S':ay}{H:Hp}(h:Rs K S' H)(s:Sub S S'):Rs K S H:=λa c e=>h a c<|s a c e
inductive Fo (S':ay) (p:ay->Prop):Prop where
 |mk (S:ay) (h:Sub S S') (r:p S):Fo S' p
theorem fo(h:p S):Fo S p:={S,.refl S,h}
section
variable{P:Program}{w:World}{K:Frag}{mg:Str->Option Value}{base:Heap}
theorem rP.ok{x qual:Str}{st:Stmt}{f:Addr}{fd:FuncData}{N ps:List Str}{k:Nat}{sp:iJ}(F:rP K x qual st f fd)(S:eZ N ps<|ae st)(len:∀ds S R Z,sp ds S R Z->ds.length=ps.length) (ju:∀(eP:Value)(A:Around)(outer:List Env)(s:Shared)(H:Hp)(E:XK)(ds:List D)(S:ay)(R:KD)(Z:KX),bR k (A.deeper<|envOfC qual (ae st) s.heap.objs.size f eP)->sp ds S R Z->∃t,FL K (jt (fk P w mg) P w K mg base N qual (ae st) f eP A outer s H E) true (bq st) t/\t {nx:=λ_ S'=>Fo S'<|R .av,rt:=λd S'=>Fo S'<|R d} (iK N ds) S λ_ C S'=>Fo S'<|Z C):bO P w K mg base (fk P w mg) (k+1) f fd ps (qG K sp):=by
 have F2:bO P w K mg base (fk P w mg) (k+1) f fd ps (qG K λds S R' Z'=>∃R Z,sp ds S R Z/\R'=(λd S'=>Fo S'<|R d)/\Z'=λC S'=>Fo S'<|Z C):=by refine F.okD S (by rintro ds S R Z ⟨R0,Z0,h,_⟩;exact len _ _ _ _ h) λeP A outer s H E ds S R Z hr ⟨R0,Z0,h,e1,e2⟩=>?_;subst e1 e2;exact ju eP A outer s H E ds S R0 Z0 hr h
 refine F2.imp <| by rintro vs H Q E ⟨ds,S,R,Z,v,hS,h,hR,hZ⟩;exact{ds,S,_,_,v,hS,⟨R,Z,h,rfl,rfl⟩,by rintro d S' u H' ⟨S2,sb,r⟩ rv rs kp;exact hR d S2 u H' r rv (rs.sub sb) kp,by rintro C S' H' ⟨S2,sb,r⟩ rs kp;exact hZ C S2 H' r (rs.sub sb) kp}
end
section
variable{K:Frag}{X:Cx}{b:Bool}
def UC(t:mH):mH:=λDe σ S Z=>∃P:SD->ay->Prop,t {De with nx:=λaF S'=>Fo S'<|P aF} σ S Z/\∀aF S',P aF S'->De.nx aF S'
theorem xW{st:Stmt}{t:mH}(h:DS K X b st t):DS K X b st (UC t):=⟨λy=>(h.of y).mono <| by rintro D τ H ⟨σ,S,De,Z,aC,hS,⟨P,q,hP⟩,hD,hZ⟩;exact{σ,S,_,Z,aC,hS,q,{by rintro xm S1 YV H1 ⟨S2,sb,r1⟩ a b c;exact hD.nx _ _ _ _ (hP _ _ r1) a (b.sub sb) c,hD.rt,hD.bk,hD.ct},hZ}⟩
def dFo(t:TD):TD:=λσ S R Z=>t σ S (λd S'=>Fo S'<|R d) Z
theorem uX{t:TD}(h:DE K X e t):DE K X e (dFo t):=⟨λy=>(h.of y).mono <| by rintro τ H Q ⟨σ,S,R,Z,aC,hS,q,hR,hZ⟩;exact{σ,S,_,Z,aC,hS,q,by rintro d S' v H' ⟨S2,sb,r⟩ rv rs kp;exact hR d S2 v H' r rv (rs.sub sb) kp,hZ}⟩
theorem mm(nd:N.Nodup)(h0:autoParam (N[0]?=some a) qQJ)(hx:autoParam (∀C s H ex pn,Loc (i4 X N scope C s H ex pn).env.scope a/\(i4 X N scope C s H ex pn).env.scope.names.lookup a=some .local) qJQ): ∀C s H ex pn,PG (i4 X N scope C s H ex pn) (.Name a p) (i0 0):=λC s H ex pn=>qy (i:=0) nd h0 (hx C s H ex pn).1<|.inr (hx C s H ex pn).2
theorem Ws(nd:N.Nodup)(h0:autoParam (N[0]?=some a) qQJ)(h1:autoParam (N[1]?=some c) qQJ) (hx:autoParam (∀C s H ex pn,Loc (i4 X N scope C s H ex pn).env.scope a/\(i4 X N scope C s H ex pn).env.scope.names.lookup a=some .local) qJQ) (hy:autoParam (∀C s H ex pn,Loc (i4 X N scope C s H ex pn).env.scope c/\(i4 X N scope C s H ex pn).env.scope.names.lookup c=some .local) qJQ) (hl:∀env:Env,(assignEach [.Name a p,.Name c p'] env).length=2/\(assignEach [.Name a p,.Name c p'] env).findIdx? (·.1)=none/\(assignEach [.Name a p,.Name c p'] env).map (·.2)=assign (.Name a p) env::(assignEach [.Name c p'] env).map (·.2)/\(assignEach [.Name c p'] env).map (·.2)=assign (.Name c p') env::(assignEach [] env).map (·.2):=by intro _;exact⟨rfl,rfl,rfl,rfl⟩) (hK:autoParam (X.K=K) qQJ) (hc:autoParam (X.calm=true) qQJ): ∀C s H ex pn,PG (i4 X N scope C s H ex pn) (.Tuple [.Name a p,.Name c p'] j p2) (Ku K 2<|qY (i0 0)<|qY (i0 1) Kt):=λC s H ex pn=>by subst hK;have e:=hl (i4 X N scope C s H ex pn).env;exact Hc (X:=i4 X N scope C s H ex pn) hc (qZ (qy (i:=0) nd h0 (hx C s H ex pn).1<|.inr (hx C s H ex pn).2) (qZ (qy (i:=1) nd h1 (hy C s H ex pn).1<|.inr (hy C s H ex pn).2) Dw e.2.2.2) e.2.2.1) e.1 e.2.1
end
theorem rQ:∀{ss:List Str}{az:List Value},Vals (ss.map V.str) az->StrsAre az ss|[],_,.nil=>.nil|z::ss,_,.cons r t=>by obtain⟨tk,rfl⟩:=r;exact .cons z tk<|rQ t
section
variable{K:Frag}
noncomputable def P1(xs:List D):List D:=(List.range xs.length).zipWith (λi x=>.tup [.int (i:Nat),x]) xs
theorem D4(xs:List D):(P1 xs).length=xs.length:=by unfold P1;simp
theorem D9{xs:List D}{i:Nat}{d:D}(h:(P1 xs)[i]?=some d):∃x,xs[i]?=some x/\d=.tup [.int (i:Nat),x]:=by unfold P1 at h;obtain⟨a,y,e1,e2,e3⟩:=List.getElem?_zipWith_eq_some.mp h;have hi:i<xs.length:=(zf.mp e2).1;rw[List.getElem?_range hi]at e1;cases e1;exact⟨y,e2,e3.symm⟩
def Y9(t:iH):A7:=λσ S R Z=>t σ S (λds S1=>∃x xs,ds=[x]/\p7 S1 x xs/\R {P1 xs,λS=>p7 S x xs} S1) Z
theorem ien{X:Cx}{a:Expr}{t:iH}{p pos tp:Pos}{es:List Expr}{kk:Nat}(hm:X.mg "enumerate"= none)(ha:DA K X [a] t)(hg:autoParam (Gl X "enumerate") qQJ)(hs:autoParam (starEach [a] X.env=[(false,eval a X.env)]) qQJ)(hK:autoParam (X.K=K) qQJ): DI K X (.Tuple es kk tp) (.Call (.Name "enumerate" p) [a] [] pos) (Y9 t):=by subst hK;exact⟨λy=>(LA (X:=y.cx) hg hm (ha.of y) hs).mono <| by rintro τ H R ⟨σ,S,RI,Z,aC,hS,q,hR,hZ⟩;exact{σ,S,_,Z,aC,hS,q,by rintro ds S1 vs H1 ⟨x,xs,e,hx,r1⟩ v1 s1 k1;subst e;obtain⟨v,rfl,ra⟩:=v1.one;obtain⟨l,va,e1,qa,ta⟩:=hx.at s1 ra;subst e1;refine{l,rfl,⟨va,qa⟩,hR _ S1 _ H1 r1 (λi S2 H2 k2 s2 aQ=>?_) s1 k1};have ra2:=Rv.ts k2 _ ra;obtain⟨l',vb,e2,qb,tb⟩:=p7.at (d:=x) aQ s2 ra2;cases e2;refine{λd hd=>?_,λh=>{vb,qb,by rw[D4]at h;rw[tb.len];exact h}};obtain⟨y',f0,rfl⟩:=D9 hd;obtain⟨vy,f1,g1⟩:=tb.get f0;refine{⟨vb,vy,qb,f1⟩,λx' H' ⟨T,hT,e4,e5⟩=>?_};have:=e5 vb vy qb f1;subst this e4;have kk:Kp X.K H2 (upd H2 T<|.tup [.int (i:Nat),vy]):=.new hT;exact{iE aE<|RvAll.ts kk _<|aS (aN _)<|aS g1 bD,kk,s2.grow hT},hZ}⟩
end
end L2
namespace HT
open PySem PySem.Spec PyProof.Rows
end HT
namespace L2
open PySem PySem.Spec PyProof.Rows
inductive Ik (S:ay):List D->List PyData->Prop where
 |nil:Ik S [] []
 |cons {d:D}{p:PyData}{ds:List D}{ps:List PyData} : Dl S d p->Ik S ds ps->Ik S (d::ds) (p::ps)
section
variable{K:Frag}
noncomputable def D_(p:Str×D):D:=.tup [.str p.1,p.2]
noncomputable def gF(l:List<|Str×D):List (Key×D):=l.foldl (λc p=>dput c (.inr p.1) p.2) []
theorem Ea:∀{kvs:List (Str×D)}{ys:List V},RvAll K H (kvs.map D_) ys->∃kv:List (Str×V),Prs H ys kv/\∀c c',bY K H c c'->bY K H (kvs.foldl (λc p=>dput c (.inr p.1) p.2) c) (kv.foldl (λc p=>putK c (.inr p.1) p.2) c')|[],ys,h=>(by rw[h.nil];exact{[],{rfl,λi x p e=>(by cases i<;>cases e)},λc c' h=>h})|p::kvs,ys,h=>by obtain⟨y,ys,rfl,r1,r2⟩:=h.cons;obtain⟨b,zs,rfl,hb,tz⟩:=Rv.tup<|show Rv K H (.tup [.str p.1,p.2]) y from r1;obtain⟨v,u,rfl,rv,ru⟩:=tz.two;have ev:=rv.str;subst ev;obtain⟨kv,⟨hl,hp⟩,hf⟩:=Ea r2;refine{(p.1,u)::kv,{by rw[zN,zN,hl],λi x q e1 e2=>?_},λc c' h=>hf _ _<|h.put (.inr p.1) ru};cases i with|zero=>(cases e1;cases e2;exact⟨b,rfl,hb⟩)|succ i=>exact hp i x q e1 e2
def UD:List D->ay->KD->Prop:=λds S R=>∃kvs:List (Str×D),ds=[.tup<|kvs.map D_]/\∀p,S p=none->R (.ref p) (S.set p<|.cO<|gF kvs)
theorem Il:gZ K (.type "dict") UD:=by rintro X hK hc pins s σ H xs us Q I rx ⟨ds,S,R,r,hS,⟨kvs,e,h⟩,hR⟩;subst hK e;obtain⟨v,rfl,r1⟩:=r.one;obtain⟨a,ys,rfl,q,t⟩:=r1.tup;obtain⟨kv,hp,hf⟩:=Ea t;refine BI hc pins s σ H _ us Q I rx {a,ys,kv,rfl,q,hp,λl hl=>?_};have kn:Kp X.K H (upd H l<|.dK<|DN kv):=.new hl;exact hR _ _ _ _ (h l<|hS.fresh hl) (iD l) (hS.new (c:=.cO<|gF kvs) hl {_,aE,(hf [] [] .nil).ts kn}) kn
theorem xX(kvs:List<|Key×D)(k k':Key)(d:D):cn (dput kvs k d) k'=if k'=k then some d else cn kvs k':=by
 unfold dput;by_cases hk:(kvs.any λkv=>decide<|kv.1=k)=true;rw[if_pos hk];unfold cn;induction kvs with|nil=>(cases hk)|cons r kvs ih=>rw[zy,zW,zW];by_cases e:r.1=k;rw[if_pos e];by_cases e2:k'=k;rw[if_pos e2,show decide (r.1=k')=true from zw (e.trans e2.symm)];rfl;rw[if_neg e2,show decide (r.1=k')=false from zu λq=>e2<|q.symm.trans e];by_cases eC:(kvs.any λkv=>decide<|kv.1=k)=true;have:=ih eC;rw[if_neg e2]at this;exact this;have em:kvs.map (λkv=>if kv.1=k then (kv.1,d) else kv)=kvs:=(by(conv=>rhs;rw[<-List.map_id kvs]);refine z0 λx hx=>?_;rw[if_neg λq=>eC<|List.any_eq_true.mpr {x,hx,zw q}];rfl);rw[em];rw[if_neg e];have eC:(kvs.any λkv=>decide<|kv.1=k)=true:=(by rw[yN,zu e,yO]at hk;exact hk);by_cases e3:r.1=k';rw[zw e3,if_neg λq=>e<|e3.trans q];rw[zu e3];exact ih eC
 rw[if_neg hk];unfold cn;rw[List.find?_append];have hn:∀x∈kvs,x.1≠k:=λx hx q=>hk<|List.any_eq_true.mpr {x,hx,zw q};by_cases e:k'=k;subst e;rw[if_pos rfl,List.find?_eq_none.mpr λx hx=>by simp[hn x hx]];simp;rw[if_neg e];have:([(k,d)].find? λkv=>decide<|kv.1=k')=none:=by rw[zW,show decide (k=k')=false from zu λq=>e q.symm];rfl
 rw[this,Option.or_none]
theorem uY(l:List<|Str×D)(z:Str):(cn (gF l)<|.inr z).isSome=l.any λp=>decide (p.1=z):=by
 have all:∀(l:List (Str×D))(c:List (Key×D)),(cn (l.foldl (λc p=>dput c (.inr p.1) p.2) c)<|.inr z).isSome=((cn c<|.inr z).isSome||l.any λp=>decide<|p.1=z):=by intro l;induction l with|nil=>intro c;simp|cons p l ih=>intro c;rw[yL,ih,xX,yN];by_cases e:p.1=z;rw[if_pos<|by rw[e],zw e];simp;rw[if_neg λq=>e (yJ q).symm,zu e];simp
 exact(all l []).trans<|by rfl
def UE(a:Addr)(kvs:List<|Str×V):uR:=λx y S R=>∃z,x=.str z/\y=.ref a/\R (.bl (kvs.lookup z).isSome) S
theorem Y_{X:Cx}{a b:Expr}{ta tb:TD}{pos:Pos}{w:World}{ad:Addr}{kvs:List<|Str×V}(d:HL w K ad kvs)(ha:DE K X a ta)(hb:DE K X b tb)(hw:autoParam (X.w=w) qQJ)(hm:autoParam (behindInMarks .In b=false) qQ2)(hK:autoParam (X.K=K) qQJ): DE K X (.Compare a [.In] [b] pos) (PB (UE ad kvs) ta tb):=by refine⟨λy=>(DB (X:=y.cx) (r:=Lr K<|UE ad kvs) ?_ (ha.of y) (hb.of y) hm).mono λ_ _ _ h=>h.op⟩;rintro pins s σ H x y' v u Q I rx ry ⟨d',e,S,R,r1,r2,hS,⟨z,e1,e2,h⟩,hR⟩;subst e1 e2;exact HM (X:=y.cx) hw hK pins s σ H x y' v u Q I rx ry {z,ad,kvs,r1.str,r2.ref,d,hR.now hS h<|bG _}
end
structure UG(k:Nat)(A:Around):Prop where
 dp:A.depth+3*k+5<recursionLimit
 un:A.units+16*k+200<cLine
structure FnH(P:Program)(w:World)(K:Frag)(mg:Str->Option Value)(base:Heap)(k:Nat)(f:Addr)(fd:FuncData)(ps:List Str)(sp:iJ):Prop where
 len:∀ds S R Z,sp ds S R Z->ds.length=ps.length
 run:∀(A:Around)(outer:List Env)(s:Shared)(H:Hp)(args:Args)(us:List Value)(vs:List V)(Q:VK),UG k A->xw P w K mg base A outer s H->BindsTo s fd args (ps.zip us)->Vals vs us->qG K sp vs H Q E0 ->
  codeAny (model P w) A (.call (.ref f) args) (CR (fk P w mg) outer P w H s Q E0) s
section
variable{K:Frag}
def Za:List D->ay->KD->Prop:=λds S R=>∃n,ds=[.int n]/\n.natAbs.log2<1920/\R (.str<|Str.ofString<|toString n) S
theorem UH:gZ K (.type "str") Za:=by rintro X hK hc pins s σ H xs us Q I rx ⟨ds,S,R,r,hS,⟨n,e,h1,h⟩,hR⟩;subst hK e;obtain⟨v,rfl,r1⟩:=r.one;have ev:=r1.int;subst ev;obtain⟨u,rfl,ru⟩:=vals1 rx;obtain⟨t,rfl⟩:=ru;exact PySem.P.str_of_int h1 {.str _,H,I.tok _,{_,rfl},hR.now hS h<|gE _}
end
def PEg(pre:Nat)(X:Cx)(e:Expr)(t:TE):Prop:=∀(pins:List (Addr×Obj))(s:Shared)(σ:St)(H:Hp)(Q:VK),Inv X pins σ H s->pre<=s.toks->t σ H Q->wpAny (model X.prog X.w) X.A (eval e X.env) (λu s'=>EP X pins σ Q u s'/\1<=s'.toks) X.xe s
structure DEg(pre:Nat)(K:Frag)(X:Cx)(e:Expr)(t:TD):Prop where
 of:∀{b:Bool}(y:Ev X b),PEg pre y.cx e<|T K y.E t
theorem Zb{a b:Str}(h:a.cps.toList=b.cps.toList):a=b:=by obtain⟨⟨x⟩⟩:=a;obtain⟨⟨y⟩⟩:=b;cases h;rfl
end L2
namespace HT
open PySem PySem.Spec PyProof.Rows
end HT
namespace L2
open PySem PySem.Spec PyProof.Rows
section
variable{K:Frag}{X:Cx}
def UI:G6:=λx ds S R=>∃a es fs,x=.ref a/\ds=[.tup fs]/\S a=some (.lst es)/\es.length+fs.length<=sizeLine/\R .av (S.set a<|.lst<|es++fs)
theorem FV:Nj K "list.extend" UI:=by rintro X hK pins s σ H x xs v us Q I rx rs ⟨d,ds,S,R,r1,r2,hS,⟨a,es,fs,e1,e2,e3,hl,h⟩,hR⟩;subst e1 e2;obtain⟨w0,rfl,q2⟩:=r2.one;obtain⟨zs,e5,t⟩:=hS.lst e3;obtain⟨p,ys,rfl,q,t2⟩:=q2.tup;exact BW pins s σ H x _ v us Q I rx rs {a,p,zs,ys,r1.ref,rfl,e5,q,by rw[t.len,t2.len];exact hl,hR.put hS e3 h iC<|t.app t2}
end
section
variable{K:Frag}{X:Cx}{E:XK}
structure DEx(K:Frag)(X:Cx)(E:XK)(e:Expr)(t:TD):Prop where
 of:∀(y:Ev X true),y.E=(λ_=>E)->cP y.cx E->PE y.cx e (T K y.E t)
structure DAx(K:Frag)(X:Cx)(E:XK)(es:List Expr)(t:iH):Prop where
 of:∀(y:Ev X true),y.E=(λ_=>E)->cP y.cx E->PA y.cx es (Ta K y.E t)
structure DSx(K:Frag)(X:Cx)(E:XK)(b:List Stmt)(t:mH):Prop where
 of:∀(y:Ev X true),y.E=(λ_=>E)->cP y.cx E->Dq y.cx b (Tl K y.E t)
variable{N:List Str}{src:List (Option Nat)}{scope:Scope}{tg iter elt:Expr}{ifs:List Expr}{ti:A7}{g:TG}{gd:BZ}{tc:nM}{te:TD}
end
open PySem.Builtin PySem.Builtin.Str
structure M3(X:Cx)(o:Expr)(m:Str)(apos:Pos)(e f g:Expr)(aT:Pos):Prop where
 base:attributeBase o m X.env (eval o X.env)=eval o X.env
 G0:((backTo aT<|starEach [e,f,g] X.env).all (λx=>!x.1)&&(backToKw aT<|keywordEach [] X.env).all (λx=>x.1.isSome)
  && decide (([e,f,g]:List Expr).length+([]:List Keyword).length+(if ([]:List Keyword).isEmpty then 0 else 1)<30))=true
 line:(apos.endLine==aT.line)=true
 trees:backTo aT (starEach [e,f,g] X.env)=[(false,eval e X.env),(false,eval f X.env),(false,eval g X.env)]
section
variable{X:Cx}{t:TE}
def PAg(pre:Nat)(X:Cx)(es:List Expr)(t:TA):Prop:=∀(pos:Pos)(pins:List (Addr×Obj))(s:Shared)(σ:St)(H:Hp)(Q:List V->Hp->Prop),Inv X pins σ H s->pre<=s.toks->t σ H Q->wpAny (model X.prog X.w) X.A (spliced<|backTo pos<|starEach es X.env) (AP X pins σ Q) X.xe s
end
section
variable{K:Frag}{X:Cx}
structure DAg(pre:Nat)(K:Frag)(X:Cx)(es:List Expr)(t:iH):Prop where
 of:∀{b:Bool}(y:Ev X b),PAg pre y.cx es<|Ta K y.E t
end
structure Gh(a₀:Array Keyed)(g:Nat->Nat)(xs:Array Keyed):Prop where
 at_:∀k,k<a₀.size->xs[k]?=a₀[g k]?
 lt:∀k,k<a₀.size->g k<a₀.size
 inj:∀i j,i<a₀.size->j<a₀.size->g i=g j->i=j
def Log(κ:KeyKind)(a₀:Array Keyed)(i j:Nat):Prop:=κ.klt (KK κ a₀ i) (KK κ a₀ j)\/(KK κ a₀ i=KK κ a₀ j/\i<j)
def B7(κ:KeyKind)(a₀:Array Keyed)(g:Nat->Nat)(k:Nat):Prop:=∀i j,i<j->j<k->Log κ a₀ (g i) (g j)
def Wt(κ:KeyKind)(a₀:Array Keyed)(g:Nat->Nat)(k:Nat):Prop:=∀i j,i<j->j<k->Log κ a₀ (g j) (g i)
def FW(g:Nat->Nat)(m n:Nat):Prop:=∀k,m<=k->k<n->g k=k
noncomputable def Im(g:Nat->Nat)(i j k:Nat):Nat:=if i<=k/\k<j then g (i+j-1-k) else g k
noncomputable def LK(g:Nat->Nat)(src l k:Nat):Nat:=if k=l then g src else if l<k/\k<=src then g (k-1) else g k
section
variable{κ:KeyKind}{a₀ xs:Array Keyed}{g:Nat->Nat}
theorem Log.kle(h:Log κ a₀ i j):κ.kle (KK κ a₀ i) (KK κ a₀ j):=by rcases h with h|⟨h,_⟩;exact KeyOrd.kle_of_klt h;rw[h];exact KeyOrd.kle_refl _
theorem Nu(h:κ.kle (KK κ a₀ i)<|KK κ a₀ j)(hl:i<j):Log κ a₀ i j:=by cases q:κ.blt (KK κ a₀ i) (KK κ a₀ j) with|true=>exact .inl q|false=>exact .inr {KeyOrd.kle_antisymm h q,hl}
theorem Gh.low(h:Gh a₀ g xs)(t:FW g m a₀.size)(hm:m<=a₀.size)(hi:i<m):g i<m:=by refine Nat.lt_of_not_le λq=>?_;have h1:=h.lt i (by lia);have h2:=h.inj (g i) i h1 (by lia)<|t (g i) q h1;lia
theorem Gh.key(h:Gh a₀ g xs)(hk:k<a₀.size):KK κ xs k=KK κ a₀ (g k):=KK_congr<|h.at_ k hk
theorem Gh.mirror(h:Gh a₀ g xs)(hs:xs.size=a₀.size)(hj:j<=a₀.size):Gh a₀ (Im g i j) (mirror xs i j<|(j-i)/2) where
 at_:=λk hk=>by
  rw[getElem?_mirror_all<|by lia]
  unfold Im
  by_cases q:i<=k/\k<j
  ·rw[if_pos q,if_pos q];exact h.at_ _<|by lia
  ·rw[if_neg q,if_neg q];exact h.at_ _ hk
 lt:=λk hk=>by
  unfold Im
  by_cases q:i<=k/\k<j
  ·rw[if_pos q];exact h.lt _<|by lia
  ·rw[if_neg q];exact h.lt _ hk
 inj:=λa b ha hb e=>by
  unfold Im at e
  by_cases q:i<=a/\a<j<;>by_cases r:i<=b/\b<j
  ·rw[if_pos q,if_pos r]at e;have:=h.inj _ _ (by lia) (by lia) e;lia
  ·rw[if_pos q,if_neg r]at e;have:=h.inj _ _ (by lia) (by lia) e;lia
  ·rw[if_neg q,if_pos r]at e;have:=h.inj _ _ (by lia) (by lia) e;lia
  ·rw[if_neg q,if_neg r]at e;exact h.inj _ _ ha hb e
theorem Gh.bubble(h:Gh a₀ g xs)(hs:xs.size=a₀.size)(hl:l<=src)(hj:src<a₀.size):Gh a₀ (LK g src l) (bubble xs src<|src-l) where
 at_:=λk hk=>by
  rw[getElem?_bubble (by lia) _<|by lia,show src-(src-l)=l by lia]
  unfold LK
  by_cases q:k=l
  ·rw[if_pos q,if_pos q];exact h.at_ _ hj
  ·rw[if_neg q,if_neg q]
   by_cases r:l<k/\k<=src
   ·rw[if_pos r,if_pos r];exact h.at_ _<|by lia
   ·rw[if_neg r,if_neg r];exact h.at_ _ hk
 lt:=λk hk=>by
  unfold LK
  by_cases q:k=l
  ·rw[if_pos q];exact h.lt _ hj
  ·rw[if_neg q]
   by_cases r:l<k/\k<=src
   ·rw[if_pos r];exact h.lt _<|by lia
   ·rw[if_neg r];exact h.lt _ hk
 inj:=λa b ha hb e=>by
  unfold LK at e
  repeat' split at e
  all_goals (have:=h.inj _ _ (by lia) (by lia) e;lia)
theorem iL(h:i<=k/\k<j):Im g i j k=g (i+j-1-k):=by unfold Im;rw[if_pos h]
theorem fV(h:¬(i<=k/\k<j)):Im g i j k=g k:=by unfold Im;rw[if_neg h]
end
section
variable{prog:Program}{w:World}{A:Around}{E:Value->Shared->Prop}{s:Shared}{a₀:Array Keyed}{κ:KeyKind}
theorem Nv{st:SortSt}{g:Nat->Nat}{a top:Nat}{Q:AscSt->SortSt->Prop}(hO:κ.OneLt)(h0:KeysOf κ a₀)(ht:top<=a₀.size)(h1:1<=a)(h2:a<=top)(B:SBase a₀ st)(G:Gh a₀ g<|arrOf st)(T:FW g a a₀.size)(U:B7 κ a₀ g a) (h:∀n,a<=n->n<=top->B7 κ a₀ g n->(n=top\/κ.klt (KK κ a₀<|g n) (KK κ a₀<|g<|n-1))->Q (none,n) st):wpS (model prog w) A E s (ascLoop a top) Q st:=by
 unfold ascLoop;refine wpS_forRange (I:=λx c t=>t=st/\c=(none,x)/\B7 κ a₀ g x) ?_ ?_ ⟨rfl,rfl,U⟩;rintro x c t RC LG ⟨rfl,rfl,V⟩;dsimp only;refine wpS_bind<|wpS_ltKK hO B h0 (by lia) (by lia) ?_;rw[G.key<|by lia,G.key<|by lia];cases q:κ.blt (KK κ a₀<|g x) (KK κ a₀<|g<|x-1) with|true=>exact wpS_pure (h x RC (by lia) V<|.inr q)|false=>refine wpS_pure {rfl,rfl,λi j lO hj=>?_};rcases Nat.lt_or_ge j x with z|z;exact V i j lO z;obtain rfl:j=x:=(by lia);have lw:=G.low (m:=j) (λk hk eC=>T k (by lia) eC) (by lia) lO;rw[T j RC<|by lia]at q⊢;refine Nu ?_ lw;rcases Nat.lt_or_ge i (j-1) with y|y;exact KeyOrd.kle_trans (V i (j-1) y<|by lia).kle q;obtain rfl:i=j-1:=(by lia);exact q
 rintro c t ⟨rfl,rfl,V⟩;rw[show max a top=top by lia]at V⊢;exact h top h2 (zo _) V<|.inl rfl
theorem Io{st:SortSt}{g:Nat->Nat}{n top:Nat}{Q:Option Nat->SortSt->Prop}(hO:κ.OneLt)(h0:KeysOf κ a₀)(ht:top<=a₀.size)(h1:1<=n)(h2:n<=top)(B:SBase a₀ st)(G:Gh a₀ g<|arrOf st)(T:FW g n a₀.size)(D:Wt κ a₀ g n) (h:∀m g' eM,SBase a₀ eM->Gh a₀ g' (arrOf eM)->FW g' m a₀.size->1<=m->m<=top->B7 κ a₀ g' m->Q (some m) eM):wpS (model prog w) A E s (tail3 n top) Q st:=by
 unfold tail3;refine wpS_bind<|wpS_reverse ?_;have B':SBase a₀ (setArr st<|mirror (arrOf st) 0 n<|(n-0)/2):=B.setArr<|mirror_perm _ _ _ _;have G':Gh a₀ (Im g 0 n) (arrOf<|setArr st<|mirror (arrOf st) 0 n<|(n-0)/2):=G.mirror B.size (by lia);have T':FW (Im g 0 n) n a₀.size:=λk hk eC=>by rw[fV<|by lia];exact T k hk eC
 refine wpS_bind<|Nv hO h0 ht h1 h2 B' G' T' (λi j lO hj=>?_) λm hm1 RD V _=>wpS_pure<|h m _ _ B' G' (λk hk eC=>T' k (by lia) eC) (by lia) RD V;rw[iL<|by lia,iL<|by lia];exact D _ _ (by lia)<|by lia
structure J2(κ:KeyKind)(a₀:Array Keyed)(g:Nat->Nat)(x q:Nat):Prop where
 le:q+1<=x
 tl:FW g (x-(q+1)) a₀.size
 dn:∀i j,i<j->j<x->i<x-(q+1)->Log κ a₀ (g j) (g i)
 eq:∀i,x-(q+1)<=i->i<x->KK κ a₀ (g i)=KK κ a₀ (g<|x-1)
theorem J2.full(F:J2 κ a₀ g x q)(hx:x<=a₀.size):Wt κ a₀ (Im g (x-(q+1)) x) x:=λi j lO hj=>by have le:=F.le;by_cases hi:i<x-(q+1);rw[fV (k:=i)<|by lia];by_cases Wu:j<x-(q+1);rw[fV<|by lia];exact F.dn i j lO hj hi;rw[iL<|by lia];exact F.dn i _ (by lia) (by lia) hi;rw[iL<|by lia,iL<|by lia];refine .inr {(F.eq _ (by lia)<|by lia).trans (F.eq _ (by lia)<|by lia).symm,?_};rw[F.tl _ (by lia)<|by lia,F.tl _ (by lia)<|by lia];lia
theorem J2.Nw(F:J2 κ a₀ g x 0):Wt κ a₀ g x:=λi j lO hj=>F.dn i j lO hj<|by lia
theorem J2.next(D:Wt κ a₀ g x)(T:FW g x a₀.size)(hx:x<a₀.size)(h1:1<=x)(hl:κ.klt (KK κ a₀<|g x)<|KK κ a₀<|g<|x-1):J2 κ a₀ g (x+1) 0 where
 le:=by lia
 tl:=λk hk eC=>T k (by lia) eC
 dn:=λi j lO hj hi=>by
  by_cases Wu:j<x
  ·exact D i j lO Wu
  ·obtain rfl:j=x:=by lia
   refine .inl ?_
   by_cases q:i=j-1
   ·rw[q];exact hl
   ·exact KeyOrd.klt_of_klt_of_kle hl (D i (j-1) (by lia)<|by lia).kle
 eq:=λi hi hj=>by rw[show i=x+1-1 by lia]
theorem P2{st:SortSt}{g:Nat->Nat}{n top:Nat}{Q:DescSt->SortSt->Prop}(hO:κ.OneLt)(h0:KeysOf κ a₀)(ht:top<=a₀.size)(h1:1<=n)(h2:n<=top)(B:SBase a₀ st)(G:Gh a₀ g<|arrOf st)(F:J2 κ a₀ g n 0) (h:∀m q g' eM,SBase a₀ eM->Gh a₀ g' (arrOf eM)->n<=m->m<=top->J2 κ a₀ g' m q->Q (none,m,q) eM):wpS (model prog w) A E s (descLoop n top) Q st:=by
 unfold descLoop;refine wpS_forRange (I:=λx c t=>∃q g',c=(none,x,q)/\SBase a₀ t/\Gh a₀ g' (arrOf t)/\J2 κ a₀ g' x q) ?_ ?_ {0,g,rfl,B,G,F};rintro x c t RC LG ⟨q,g',rfl,B',G',F'⟩;have le:=F'.le;dsimp only;refine wpS_bind<|wpS_ltKK hO B' h0 (by lia) (by lia) ?_;rw[G'.key<|by lia,G'.key<|by lia];cases hl:κ.blt (KK κ a₀<|g' x) (KK κ a₀<|g'<|x-1) with|true=>(simp only[if_true];by_cases hq:q>0;rw[if_pos hq];refine wpS_bind<|wpS_reverse<|wpS_pure {0,_,rfl,B'.setArr<|mirror_perm _ _ _ _,G'.mirror B'.size<|by lia,?_};refine .next (F'.full<|by lia) (λk hk eC=>?_) (by lia) (by lia) ?_;rw[fV<|by lia];exact F'.tl k (by lia) eC;rw[fV<|by lia,iL<|by lia,F'.eq (x-(q+1)+x-1-(x-1)) (by lia)<|by lia];exact hl;rw[if_neg hq];obtain rfl:q=0:=(by lia);exact wpS_pure {0,g',rfl,B',G',.next F'.Nw (λk hk eC=>F'.tl k (by lia) eC) (by lia) (by lia) hl})|false=>simp only[Bool.false_eq_true,if_false];refine wpS_bind<|wpS_ltKK hO B' h0 (by lia) (by lia) ?_;rw[G'.key<|by lia,G'.key<|by lia];cases hg:κ.blt (KK κ a₀<|g'<|x-1) (KK κ a₀<|g' x) with|true=>exact wpS_pure (h x q g' t B' G' RC (by lia) F')|false=>have e:KK κ a₀ (g' x)=KK κ a₀ (g'<|x-1):=KeyOrd.kle_antisymm hg hl;refine wpS_pure {q+1,g',rfl,B',G',{by lia,λk hk eC=>F'.tl k (by lia) eC,λi j lO hj hi=>?_,λi hi hj=>?_}};by_cases Wu:j<x;exact F'.dn i j lO Wu (by lia);obtain rfl:j=x:=(by lia);have:=F'.dn i (j-1) (by lia) (by lia) (by lia);rcases this with z|⟨_,z⟩;exact .inl (by rw[e];exact z);rw[F'.tl (j-1) (by lia)<|by lia]at z;have:=G'.low (m:=j-(q+1)) F'.tl (by lia) (i:=i) (by lia);lia;rw[show x+1-1=x by lia];by_cases Uw:i=x;rw[Uw];rw[e];exact F'.eq i (by lia)<|by lia
 rintro c t ⟨q,g',rfl,B',G',F'⟩;rw[show max n top=top by lia]at F'⊢;exact h top q g' t B' G' h2 (zo _) F'
theorem Iq{st:SortSt}{g:Nat->Nat}{n top:Nat}{Q:Option Nat->SortSt->Prop}(hO:κ.OneLt)(h0:KeysOf κ a₀)(ht:top<=a₀.size)(h2:n+1<=top)(B:SBase a₀ st)(G:Gh a₀ g<|arrOf st)(F:J2 κ a₀ g (n+1) 0) (h:∀m g' eM,SBase a₀ eM->Gh a₀ g' (arrOf eM)->FW g' m a₀.size->1<=m->m<=top->B7 κ a₀ g' m->Q (some m) eM):wpS (model prog w) A E s (descPart n top) Q st:=by
 unfold descPart;refine wpS_bind<|wpS_lift<|wpAny_rule {rfl,?_};refine wpS_bind<|P2 hO h0 ht (by lia) h2 B G F λm q g' eM B' G' hm1 RD F'=>?_;have le:=F'.le;dsimp only;by_cases hq:q>0;rw[if_pos hq];refine wpS_bind<|wpS_reverse<|Io hO h0 ht (by lia) RD (B'.setArr<|mirror_perm _ _ _ _) (G'.mirror B'.size<|by lia) (λk hk eC=>?_) (F'.full<|by lia) h;rw[fV<|by lia];exact F'.tl k (by lia) eC;rw[if_neg hq];obtain rfl:q=0:=by lia
 exact Io hO h0 ht (by lia) RD B' G' (λk hk eC=>F'.tl k (by lia) eC) F'.Nw h
theorem UJ{st:SortSt}{g:Nat->Nat}{top:Nat}{Q:Option Nat->SortSt->Prop}(hO:κ.OneLt)(h0:KeysOf κ a₀)(ht:top<=a₀.size)(h1:1<=top)(B:SBase a₀ st)(G:Gh a₀ g<|arrOf st)(T:FW g 0 a₀.size) (h:∀m g' eM,SBase a₀ eM->Gh a₀ g' (arrOf eM)->FW g' m a₀.size->1<=m->m<=top->B7 κ a₀ g' m->Q (some m) eM):wpS (model prog w) A E s (countRun' 0 top) Q st:=by
 rw[countRun0_eq];refine wpS_bind<|Nv hO h0 ht (zo 1) h1 B G (λk hk eC=>T k (by lia) eC) (λi j lO hj=>by lia) λn LL DC U hor=>?_;dsimp only;have Tn:∀m,FW g m a₀.size:=λm k hk eC=>T k (by lia) eC;by_cases UK:n=top;rw[if_pos<|by simpa using UK];exact wpS_pure<|h n g st B G (Tn n) LL DC U;rw[if_neg<|by simpa using UK];have eN:=hor.resolve_left UK;by_cases Wv:n>1;rw[if_pos Wv];refine wpS_bind<|wpS_ltKK hO B h0 (by lia) (by lia) ?_;rw[G.key<|by lia,G.key<|by lia];cases hr:κ.blt (KK κ a₀<|g 0) (KK κ a₀<|g<|n-1) with|true=>exact wpS_pure (h n g st B G (Tn n) LL DC U)|false=>simp only[Bool.false_eq_true,if_false];have all:∀k,k<n->KK κ a₀ (g k)=KK κ a₀ (g<|n-1):=λk hk=>(by have a1:κ.kle (KK κ a₀<|g 0) (KK κ a₀<|g k):=(by by_cases z:k=0;rw[z];exact KeyOrd.kle_refl _;exact(U 0 k (by lia) hk).kle);have a2:κ.kle (KK κ a₀<|g k) (KK κ a₀<|g<|n-1):=(by by_cases z:k=n-1;rw[z];exact KeyOrd.kle_refl _;exact(U k (n-1) (by lia)<|by lia).kle);exact KeyOrd.kle_antisymm a2<|KeyOrd.kle_trans hr a1);refine wpS_bind<|wpS_reverse<|Iq hO h0 ht (by lia) (B.setArr<|mirror_perm _ _ _ _) (G.mirror B.size<|by lia) ?_ h;refine .next (λi j lO hj=>?_) (λk hk eC=>by rw[fV<|by lia];exact T k (by lia) eC) (by lia) (by lia) ?_;rw[iL<|by lia,iL<|by lia];refine .inr {(all _<|by lia).trans (all _<|by lia).symm,?_};rw[T _ (by lia)<|by lia,T _ (by lia)<|by lia];lia;rw[fV<|by lia,iL<|by lia,all (0+n-1-(n-1))<|by lia];exact eN
 rw[if_neg Wv];obtain rfl:n=1:=by lia
 exact Iq hO h0 ht (by lia) B G (.next (λi j lO hj=>by lia) (Tn 1) (by lia) (by lia) eN) h
theorem UL{st:SortSt}{g:Nat->Nat}{n ok:Nat}{Q:Bool->SortSt->Prop}(hO:κ.OneLt)(h0:KeysOf κ a₀)(hn:n<=a₀.size)(aQ:ok<=n)(B:SBase a₀ st)(G:Gh a₀ g<|arrOf st)(T:FW g ok a₀.size)(U:B7 κ a₀ g ok) (h:∀g' eM,SBase a₀ eM->Gh a₀ g' (arrOf eM)->B7 κ a₀ g' n->Q true eM):wpS (model prog w) A E s (binarySort' 0 n ok) Q st:=by
 rw[binarySort'_eq];simp only[Nat.zero_add];refine wpS_bind<|wpS_mono (wpS_forRange (I:=λk c t=>c=(none,())/\∃g',SBase a₀ t/\Gh a₀ g' (arrOf t)/\FW g' k a₀.size/\B7 κ a₀ g' (min k n)) (Q:=λc t=>c=(none,())/\∃g',SBase a₀ t/\Gh a₀ g' (arrOf t)/\B7 κ a₀ g' n) ?_ ?_ ?_) ?_;rintro k c t Ww eC ⟨rfl,g',B',G',T',V⟩;rw[show min k n=k by lia]at V;have hk:k<a₀.size:=by lia
 refine wpS_bind<|wpS_mono (wpS_forRange (I:=λx c t2=>t2=t/\∃l r,c=(none,l,r)/\l<=r/\r<=k/\r-l<=k-x/\(∀i,i<l->κ.kle (KK κ a₀<|g' i) (KK κ a₀<|g' k))/\(∀i,r<=i->i<k->κ.klt (KK κ a₀<|g' k) (KK κ a₀<|g' i))) (Q:=λc t2=>t2=t/\∃l r,c=(none,l,r)/\l<=k/\(∀i,i<l->κ.kle (KK κ a₀<|g' i) (KK κ a₀<|g' k))/\(∀i,l<=i->i<k->κ.klt (KK κ a₀<|g' k) (KK κ a₀<|g' i))) ?_ ?_ ?_) ?_;rintro x c t2 _ hxk ⟨rfl,l,r,rfl,uZ,Zc,hm,lo,hi⟩;dsimp only;by_cases Wx:l>=r;rw[if_pos Wx];obtain rfl:l=r:=by lia
 exact wpS_pure ⟨rfl,l,l,rfl,Zc,lo,hi⟩;rw[if_neg Wx];refine wpS_bind<|wpS_ltKK hO B' h0 hk (by lia) ?_;rw[G'.key hk,G'.key<|by lia];cases hl:κ.blt (KK κ a₀<|g' k) (KK κ a₀<|g'<|(l+r)/2) with|true=>refine wpS_pure {rfl,l,(l+r)/2,rfl,by lia,by lia,by lia,lo,λi a b=>?_};by_cases z:i=(l+r)/2;rw[z];exact hl;exact KeyOrd.klt_of_klt_of_kle hl (V _ _ (by lia) b).kle|false=>refine wpS_pure {rfl,(l+r)/2+1,r,rfl,by lia,by lia,by lia,λi a=>?_,hi};by_cases z:i=(l+r)/2;rw[z];exact hl;exact KeyOrd.kle_trans (V i ((l+r)/2) (by lia)<|by lia).kle hl
 rintro c t2 ⟨rfl,l,r,rfl,uZ,Zc,hm,lo,hi⟩;obtain rfl:l=r:=by lia
 exact⟨rfl,l,l,rfl,Zc,lo,hi⟩;exact{rfl,0,k,rfl,by lia,by lia,by lia,λi hi=>by lia,λi a b=>by lia};rintro c t2 ⟨rfl,l,r,rfl,Zd,lo,hi⟩;show wpS _ _ _ _ (do moveDown' k l;pure (ForInStep.yield (none,()))) _ _;rw[moveDown'_eq];refine wpS_bind<|wpS_modify<|wpS_pure {rfl,_,B'.setArr<|bubble_perm _ _ _,G'.bubble B'.size Zd hk,λx RC LG=>?_,?_};show LK g' k l x=x;unfold LK;rw[if_neg<|by lia,if_neg<|by lia];exact T' x (by lia) LG;rw[show min (k+1) n=k+1 by lia];have lw:∀i,i<k->g' i<k:=λi q=>G'.low T' (by lia) q;have ek:=T' k (zo _) hk;intro i j lO hj;show Log κ a₀ (LK g' k l i) (LK g' k l j);unfold LK;by_cases i1:i=l;rw[if_pos i1,if_neg<|by lia,if_pos<|by lia];exact .inl<|hi _ (by lia) (by lia);rw[if_neg i1];by_cases j1:j=l;rw[if_pos j1,if_neg<|by lia];have h1:=lo i (by lia);have h2:=lw i (by lia);rw[ek]at h1⊢;exact Nu h1 h2;rw[if_neg j1];by_cases i2:l<i/\i<=k<;>by_cases j2:l<j/\j<=k;rw[if_pos i2,if_pos j2];exact V _ _ (by lia) (by lia);lia;rw[if_neg i2,if_pos j2];exact V _ _ (by lia) (by lia);rw[if_neg i2,if_neg j2];exact V _ _ (by lia) (by lia);rintro c t ⟨hc,g',B',G',T',V⟩;refine{hc,g',B',G',?_};rwa [show min (max (max ok 1) n) n=n by lia]at V;refine{rfl,g,B,G,λk hk eC=>T k (by lia) eC,λi j lO hj=>?_};exact U i j lO (by lia);rintro c t ⟨rfl,g',B',G',V⟩;exact wpS_pure<|h g' t B' G' V
def P4(κ:KeyKind)(a₀:Array Keyed)(st:SortSt):Prop:=failedOf st=none/\pendingOf st=#[(0,a₀.size,0)]/\∃g,(arrOf st).size=a₀.size/\Gh a₀ g (arrOf st)/\B7 κ a₀ g a₀.size
theorem P5{st:SortSt}{Q:Unit->SortSt->Prop}(hO:κ.OneLt)(h0:KeysOf κ a₀)(B:SBase a₀ st)(e0:arrOf st=a₀)(h2:2<=a₀.size)(G8:a₀.size<64) (h:∀eM g,failedOf eM=none->(arrOf eM).size=a₀.size->Gh a₀ g (arrOf eM)->B7 κ a₀ g a₀.size->Q () eM):wpS (model prog w) A E s sortRuns' Q st:=by
 have G:Gh a₀ (λk=>k) (arrOf st):={λk _=>by rw[e0],λk hk=>hk,λ_ _ _ _ e=>e};have fin:∀(t:SortSt)(g:Nat->Nat),SBase a₀ t->Gh a₀ g (arrOf t)->B7 κ a₀ g a₀.size->P4 κ a₀ (setPending t<|(pendingOf t).push (0,a₀.size,0)):=λt g B' G' U=>{B'.failed,by show(pendingOf t).push _=_;rw[B'.pend];rfl,g,B'.size,G',U};rw[sortRuns'_eq];refine wpS_bind<|wpS_get ?_;dsimp only;have hm:minRun' a₀.size a₀.size 0=a₀.size:=by obtain⟨f,hf⟩:∃f,a₀.size=f+1:={a₀.size-1,by lia};have:minRun' (f+1) a₀.size 0=a₀.size:=(by rw[minRun'_succ,if_pos G8];rfl);rwa [<-hf]at this
 simp only[B.size,hm];refine wpS_bind<|wpS_mono (wpS_forRange (I:=λx c t=>(x=0/\c=(none,0)/\t=st)\/(1<=x/\c=(none,a₀.size)/\P4 κ a₀ t)) (Q:=λc t=>c=(none,a₀.size)/\P4 κ a₀ t) ?_ ?_<|.inl ⟨rfl,rfl,rfl⟩) ?_;rintro x c t _ hx (⟨rfl,rfl,rfl⟩|⟨RC,rfl,D⟩);dsimp only;rw[if_neg<|by lia];simp only[Nat.sub_zero,Nat.min_self,Nat.zero_add];refine wpS_bind<|UJ hO h0 (zo _) (by lia) B G (λ_ _ _=>rfl) λm g' t2 B2 G2 T2 hm1 RD U2=>?_;dsimp only;by_cases eN:m<a₀.size;rw[if_pos eN];refine wpS_bind<|wpS_lift<|wpAny_rule {rfl,?_};refine wpS_bind<|UL hO h0 (zo _) RD B2 G2 T2 U2 λg3 t3 B3 G3 U3=>?_;simp only[Bool.not_true,Bool.false_eq_true,if_false];refine wpS_bind<|wpS_get ?_;rw[show(pendingOf t3).back?=none by rw[B3.pend];rfl];dsimp only;exact wpS_bind<|wpS_modify<|wpS_pure<|.inr {by lia,rfl,fin t3 g3 B3 G3 U3};rw[if_neg eN];obtain rfl:m=a₀.size:=by lia
 refine wpS_bind<|wpS_get ?_;rw[show(pendingOf t2).back?=none by rw[B2.pend];rfl];dsimp only;exact wpS_bind<|wpS_modify<|wpS_pure<|.inr {by lia,rfl,fin t2 g' B2 G2 U2};dsimp only;rw[if_pos<|zo _];exact wpS_pure ⟨rfl,D⟩;rintro c t (⟨hx,_,_⟩|⟨_,hc,D⟩);lia;exact⟨hc,D⟩;rintro c t ⟨rfl,D⟩;dsimp only;obtain⟨d1,d2,g,d3,d4,d5⟩:=D;refine wpS_bind<|wpS_mono (wpS_forRange (I:=λ_ c t2=>t2=t/\c=(none,())) (Q:=λc t2=>t2=t/\c=(none,())) ?_ (λ_ _ z=>z) ⟨rfl,rfl⟩) ?_;rintro x c t2 _ _ ⟨rfl,rfl⟩;refine wpS_bind<|wpS_get ?_;rw[if_pos<|by rw[d2];exact zo 1];exact wpS_pure ⟨rfl,rfl⟩;rintro c t2 ⟨rfl,rfl⟩;exact wpS_pure<|h _ g d1 d3 d4 d5
end
noncomputable abbrev LM(X:Cx)(qual:Str)(scope:Scope)(L f:Addr)(cv:Value):Env:=envX qual scope L f cv<|clOf X.env.cells scope.names
noncomputable def RE(X:Cx)(N:List Str)(qual:Str)(scope:Scope)(f:Addr)(cv:Value)(A:Around)(s:Shared)(H:Hp):Cx:={X with A:=A.deeper<|LM X qual scope s.heap.objs.size f cv,N:=N,cX:=s,vE:=H,env:=LM X qual scope s.heap.objs.size f cv,outer:=X.stack,stack:=LM X qual scope s.heap.objs.size f cv::X.stack,ex:=[],fn:=λ_=>false,calm:=true,pn:=[],xe:=λ_ _=>False}
noncomputable abbrev xY(X:Cx)(qual:Str)(params:Arguments)(body:Expr)(scope:Scope)(pm cv mn:Value):Obj:={cls:=.type "function",data:=.func<|kla_fn "<lambda>" qual params body scope (clOf X.env.cells scope.names) pm cv mn}
section
variable{X:Cx}{pins:List (Addr×Obj)}{σ:St}{H:Hp}{s:Shared}{N:List Str}{src:List (Option Nat)}{scope:Scope}{params:Arguments}{body:Expr}{qual p:Str}{pm cv mn u:Value}{f:Addr}{A:Around}{v:V}{te:TE}{Q:VK}
theorem LN(I:Inv X pins σ H s)(S:bN X N src scope)(LO:N[0]?=some p)(hp:scope.names.lookup p=some .local)(h0:src[0]?=some none)(xn:A.frames=some X.stack)(hh:A.handled=none)(r:RelV v u) (P6:h₁.Ns s.heap.objs.size λx=>[(p,u)].reverse.lookup x) (old:∀b o,s.heap.get? b=some o->h₁.get? b=some o): Inv (RE X N qual scope f cv A s H) [] ((pick σ src).set 0<|some v) H {s with heap:=h₁,toks:=tk}:=by
 have i5:∀x c,(clOf X.env.cells scope.names).lookup x=some c->X.env.cells.lookup x=some c:=rC X.env.cells scope.names [] (by intro x c h;simp at h);have KL:∀b:Addr,b∉(RE X N qual scope f cv A s H).ex:=λb z=>absurd (show b∈([]:List Addr) from z) (by simp);have BA:∀x,scope.names.lookup x=some .free->∃c,(clOf X.env.cells scope.names).lookup x=some c:=λx hl=>by have hm:=yh hl;obtain⟨c,K3⟩:=I.ok.has x<|S.BA _ hm rfl;exact{c,jw X.env.cells scope.names [] x c (by intro x c h;simp at h) hm K3}
 refine{{I.ok.mod,S.kind,rfl,rfl,zo _,λx y c h1 h2=>I.ok.inj x y c (i5 _ _ h1)<|i5 _ _ h2,λx hk=>?_,λx c h=>(nomatch h),λ_=>hh,Around.frames_deeper xn,.inr ⟨rfl,rfl⟩,λb z=>absurd z<|KL b,I.bs,zG I.ok.Kk I.sz,λb _ _=>KL b,λb z=>absurd z<|KL b,I.stack,I.qw},rfl,I.bare,Un.kept old,{_,P6,λi x w e1 e2 e3=>?_},λx c e=>?_,I.aQ.fresh<|zo _,λx c e=>I.fR x c<|i5 x c e,λq hq=>absurd (show q∈([]:List (Addr×Obj)) from hq)<|by simp,I.aQ.kept old,?_};have hk:scope.names.lookup x=some .cell\/scope.names.lookup x=some .free:=hk;rcases hk with hk|hk;exact absurd rfl<|S.gA _<|yh hk;exact BA x hk;have e1:N[i]?=some x:=e1;by_cases hi:i=0;subst hi;rw[LO]at e1;cases e1;have hl:0<(pick σ src).length:=by unfold pick;rw[zb];exact(zf.mp h0).1
 rw[List.getElem?_set_self hl]at e2;cases e2;exact{u,r,.inl {hp,by simp[yb]}};rw[List.getElem?_set_ne<|Ne.symm hi]at e2;unfold pick at e2;rw[zp]at e2;cases es:src[i]? with|none=>(rw[es]at e2;cases e2)|some o=>rw[es]at e2;cases o with|none=>(cases e2)|some j=>have e3:(σ[j]?).join=some w:=zP e2;have e4:σ[j]?=some (some w):=(by cases q:σ[j]? with|none=>(rw[q]at e3;cases e3)|some z=>rw[q]at e3;exact congrArg some e3);obtain⟨a1,a2,a3⟩:=S.src i j x es e1;obtain⟨m0,_,hl⟩:=I.loc;obtain⟨u',r',l⟩:=hl j x w a1 e4 a3;have hm:=yh a2;have hk:=S.BA _ hm rfl;rcases l with⟨k,_⟩|⟨_,c,K3,⟨o,ho,hd⟩⟩;rcases hk with hk|hk<;>(rw[k]at hk;cases hk);exact{u',r',.inr {.inr a2,c,jw X.env.cells scope.names [] x c (by intro x c h;simp at h) hm K3,o,old _ _ ho,hd}}
 obtain⟨w,o,ho,hd⟩:=I.cell x c<|i5 x c e;exact{w,o,old _ _ ho,hd};show((pick σ src).set 0<|some v).length=N.length;unfold pick;rw[List.length_set,zb,S.len]
theorem Ir(I:Inv X pins σ H s)(S:bN X N src scope)(LO:N[0]?=some p)(hp:scope.names.lookup p=some .local)(h0:src[0]?=some none)(xn:A.frames=some X.stack)(hh:A.handled=none)(UM:A.depth<recursionLimit)(r:RelV v u) (ho:s.heap.get? f=some (xY X qual params body scope pm cv mn)) (tK:s.heap.CodeRec cv qual) (LP:scope.isCoroutine=false) (B8:scope.isGenerator=false) (hb:bindArgs (kla_fn "<lambda>" qual params body scope (clOf X.env.cells scope.names) pm cv mn) {[u],[]}=pure [(p,u)]) (he:PE (RE X N qual scope f cv A s H) body te) (h:te ((pick σ src).set 0<|some v) H Q): codeAny (model X.prog X.w) A (.call (.ref f) {[u],[]}) (λq s'=>∃w,q=.ok (.ret w)/\CE X.stack X.prog X.w H s Q w s') s:=by refine PySem.W.kla_callFunE UM ho rfl LP B8 rfl tK ?_;show wpAny _ _ (bindArgs (kla_fn "<lambda>" qual params body scope (clOf X.env.cells scope.names) pm cv mn) {[u],[]}) _ _ _;rw[hb];refine zm<|wpAny_newFunctionEnv S.gA (λx hx=>?_) (λh₁ P6 Lg=>{I.nolimit.fresh _ Lg,?_}) S.kind;rw[zE.mp hx];exact hp;have old:∀b o,s.heap.get? b=some o->h₁.get? b=some o:=λb o e=>Lg.extBut b o (zA<|zx e)<|za _ e;show codeAny _ _ (.expr body<|LM X qual scope s.heap.objs.size f cv) _ _;refine PySem.W.kla_codeExpr<|yF (he [] _ _ H Q (LN I S LO hp h0 xn hh r P6 old) h) (by rintro w s' ⟨x,H',J,rv,q⟩;exact⟨w,rfl,x,H',J.os,J.bare,J.base,J.aQ,rv,q⟩) λ_ _ z=>z.elim
end
@[reducible] def intK:KeyKind where
 α:=Int
 blt a b:=decide<|a<b
 irrefl a:=by simp
 trans a b c h1 h2:=by simp only[yj]at *;lia
 negTrans a b c h:=by simp only[yj]at *;lia
 total a b h1 h2:=by simp only[decide_eq_false_iff_not]at *;lia
 keyOf v:=match v with|.int x _=>some x|_=>none
 dflt:=0
theorem Iu:intK.OneLt:=by intro prog w A E s x y a b Q ha hb h;cases x<;>simp only[intK,reduceCtorEq,Option.some.injEq]at ha;cases y<;>simp only[intK,reduceCtorEq,Option.some.injEq]at hb;cases ha;cases hb;exact oneLt_int h
structure Wy(κ:KeyKind)(b:Bool)(key:Nat->κ.α)(n:Nat)(g:Nat->Nat):Prop where
 lt:∀k,k<n->g k<n
 inj:∀i j,i<n->j<n->g i=g j->i=j
 ord:∀i j,i<j->j<n->(if b=true then κ.klt (key<|g j) (key<|g i) else κ.klt (key<|g i) (key<|g j))\/(key (g i)=key (g j)/\g i<g j)
noncomputable def i_(κ:KeyKind)(us:List Value)(j:Nat):κ.α:=(κ.keyOf<|us.getD j .none).getD κ.dflt
theorem Iv{us vs:List Value}(hl:us.length=vs.length){j:Nat}(hj:j<vs.length):(us.toArray.zip vs.toArray)[j]?=some (us.getD j .none,vs.getD j .none):=by have e:(us.zip vs)[j]?=some (us.getD j .none,vs.getD j .none):=List.getElem?_zip_eq_some.mpr {by show us[j]?=some (us.getD j .none);rw[zD,zh<|by lia];rfl,by show vs[j]?=some (vs.getD j .none);rw[zD,zh hj];rfl};rw[<-Array.getElem?_toList,ksk_zip,List.toList_toArray];exact e
theorem vY{κ:KeyKind}{us vs:List Value}(hl:us.length=vs.length){j:Nat}(hj:j<vs.length):KK κ (us.toArray.zip vs.toArray) j=i_ κ us j:=by unfold KK i_;rw[Iv hl hj]
theorem xZ{l m:List Value}{n:Nat}(h1:l.length=n)(h2:m.length=n)(h:∀k,k<n->l[k]?=m[k]?):l=m:=by apply List.ext_getElem?;intro k;by_cases hk:k<n;exact h k hk;rw[List.getElem?_eq_none<|by lia,List.getElem?_eq_none<|by lia]
section
variable{prog:Program}{w:World}{A:Around}{E:Value->Shared->Prop}{s:Shared}{a kS:Addr}{b:Bool}{us vs:List Value}{e e1:Nat}{P:PySem.Fin->Shared->Prop}{κ:KeyKind}
theorem Eb{st:SortSt}{keys:Array Value}(hk:s.heap.get? kS=some (seqObj "list" keys e))(ha:s.heap.get? a=some (seqObj "list" #[] e1))(P7:kS≠a)(hz:keys.size<64)(Iw:(arrOf st).size<64)(BG:failedOf st=none) (h:∀h' c,(∀b o,b≠a->b≠kS->s.heap.get? b=some o->h'.get? b=some o)->h'.get? a=some (seqObj "list" (if b then ((arrOf st).map (·.2)).reverse else (arrOf st).map (·.2)) c)->P (.done<|.ret .none) {s with heap:=h'}): wpAny (model prog w) A (ksk_tail a b e1 (.ref kS) st) P E s:=by
 have s1:=yz s.heap kS<|Obj.mapSeq λ_=>(#[]:Array Value);have Ze:(s.heap.update kS<|Obj.mapSeq λ_=>(#[]:Array Value)).get? a=some (seqObj "list" #[] e1):=(s1.2 a P7.symm).trans ha;have FX:∀o:Array Value,o=(if b then ((arrOf st).map (·.2)).reverse else (arrOf st).map (·.2))->o.size<64:=by rintro o rfl;cases b with|false=>rw[if_neg zd,Array.size_map];exact Iw|true=>rw[if_pos rfl,Array.size_reverse,Array.size_map];exact Iw
 generalize ho:(if b then ((arrOf st).map (·.2)).reverse else (arrOf st).map (·.2))=out at h FX;have FX:=FX out rfl;have s2:=yz (s.heap.update kS<|Obj.mapSeq λ_=>(#[]:Array Value)) a<|Obj.mapSeq λ_=>out;obtain⟨c2,KO⟩:∃c2,((s.heap.update kS<|Obj.mapSeq λ_=>(#[]:Array Value)).update a<|Obj.mapSeq λ_=>out).get? a=some (seqObj "list" out c2):={_,get?_update_seq Ze λ_=>out};unfold ksk_tail;try dsimp only
 refine zc<|listUpdate_at hk rfl ?_ (by rw[zX];lia)<|zY _;refine zc<|wpAny_letGo ?_;refine zc<|seqEpoch_at Ze rfl ?_;rw[ho];refine zc<|listUpdate_at Ze rfl ?_ (zY _)<|zG (yK FX) (by rw[zX];lia);rw[BG];simp only[bne_self_eq_false,Bool.false_eq_true,if_false];exact zm<|h _ c2 (λb o h1 h2 q=>(s2.2 b h1).trans<|(s1.2 b h2).trans q) KO
theorem Iy{xs:Array Keyed}{g:Nat->Nat}(hl:us.length=vs.length)(hs:xs.size=vs.length) (G:Gh (if b=true then (us.toArray.zip vs.toArray).reverse else us.toArray.zip vs.toArray) g xs) (U:B7 κ (if b=true then (us.toArray.zip vs.toArray).reverse else us.toArray.zip vs.toArray) g vs.length): ∃g',Wy κ b (i_ κ us) vs.length g'/\(if b then (xs.map (·.2)).reverse else xs.map (·.2)).toList=(List.range vs.length).map λk=>vs.getD (g' k) .none:=by
 have A8:(us.toArray.zip vs.toArray).size=vs.length:=by rw[Array.size_zip,zl,zl,hl,Nat.min_self]
 have zat:∀k,k<vs.length->(us.toArray.zip vs.toArray)[k]?=some (us.getD k .none,vs.getD k .none):=λk hk=>Iv hl hk;cases b with|false=>rw[if_neg zd]at G U;refine{g,{λk hk=>by have:=G.lt k (by rw[A8];exact hk);rwa [A8]at this,λi j hi hj=>G.inj i j (by rw[A8];exact hi)<|by rw[A8];exact hj,λi j lO hj=>?_},?_};have h1:=G.lt i (by rw[A8];lia);have h2:=G.lt j (by rw[A8];lia);rw[A8]at h1 h2;have:=U i j lO hj;unfold Log at this;rw[vY hl h1,vY hl h2]at this;rw[if_neg zd];exact this;rw[if_neg zd];refine xZ (n:=vs.length) (by rw[zT,Array.size_map,hs]) (by simp) λk hk=>?_;have h1:=G.lt k (by rw[A8];lia);rw[A8]at h1;rw[Array.getElem?_toList,Array.getElem?_map,G.at_ k<|by rw[A8];exact hk,zat _ h1,zp,List.getElem?_range hk];rfl|true=>rw[if_pos rfl]at G U;have tL:(us.toArray.zip vs.toArray).reverse.size=vs.length:=(by rw[Array.size_reverse,A8]);have lt:∀k,k<vs.length->g k<vs.length:=λk hk=>(by have:=G.lt k (by rw[tL];exact hk);rwa [tL]at this);have rat:∀k,k<vs.length->(us.toArray.zip vs.toArray).reverse[k]?=(us.toArray.zip vs.toArray)[vs.length-1-k]?:=λk hk=>(by rw[Array.getElem?_reverse<|by rw[A8];exact hk,A8]);refine{λk=>vs.length-1-g (vs.length-1-k),{λk hk=>by have:=lt (vs.length-1-k) (by lia);lia,λi j hi hj e=>?_,λi j lO hj=>?_},?_};have h1:=lt (vs.length-1-i) (by lia);have h2:=lt (vs.length-1-j) (by lia);have:=G.inj (vs.length-1-i) (vs.length-1-j) (by rw[tL];lia) (by rw[tL];lia) (by lia);lia;have h1:=lt (vs.length-1-i) (by lia);have h2:=lt (vs.length-1-j) (by lia);have:=U (vs.length-1-j) (vs.length-1-i) (by lia) (by lia);unfold Log at this;have e1:KK κ (us.toArray.zip vs.toArray).reverse (g<|vs.length-1-i)=i_ κ us (vs.length-1-g (vs.length-1-i)):=(KK_congr<|rat _ h1).trans<|vY hl (by lia);have e2:KK κ (us.toArray.zip vs.toArray).reverse (g<|vs.length-1-j)=i_ κ us (vs.length-1-g (vs.length-1-j)):=(KK_congr<|rat _ h2).trans<|vY hl (by lia);rw[e1,e2]at this;rw[if_pos rfl];rcases this with z|⟨z1,z2⟩;exact .inl z;exact .inr {z1.symm,by lia};rw[if_pos rfl];refine xZ (n:=vs.length) (by rw[zT,Array.size_reverse,Array.size_map,hs]) (by simp) λk hk=>?_;have h1:=lt (vs.length-1-k) (by lia);rw[Array.getElem?_toList,Array.getElem?_reverse<|by rw[Array.size_map,hs];exact hk,Array.size_map,hs,Array.getElem?_map,G.at_ _<|by rw[tL];lia,rat _ h1,zat _<|by lia,zp,List.getElem?_range hk];rfl
theorem P8(hO:κ.OneLt)(hk:s.heap.get? kS=some (seqObj "list" us.toArray e))(ha:s.heap.get? a=some (seqObj "list" #[] e1))(P7:kS≠a)(hl:us.length=vs.length)(G8:vs.length<64)(h0:∀u∈us,∃x,κ.keyOf u=some x) (hkk:∀oa og rest,us=oa::og::rest->keyKind' (oa::og::rest).toArray=pure oneType') (h:∀h' c g out,(∀b o,b≠a->b≠kS->s.heap.get? b=some o->h'.get? b=some o)->h'.get? a=some (seqObj "list" out c)->Wy κ b (i_ κ us) vs.length g->out.toList=(List.range vs.length).map (λk=>vs.getD (g k) .none)->P (.done<|.ret .none) {s with heap:=h'}): wpAny (model prog w) A (ksk_end a b vs.toArray e1 (.ref kS) us.toArray) P E s:=by
 have A8:(us.toArray.zip vs.toArray).size=vs.length:=by rw[Array.size_zip,zl,zl,hl,Nat.min_self]
 have step:∀t:Sem PySem.Fin,wpAny (model prog w) A t P E s->wpAny (model prog w) A (if b=true then (do let _ <-rule "list.sort.reverse";t) else t) P E s:=by intro t ht;split;exact zc<|wpAny_rule ht;exact ht
 have hsz:(if b=true then (us.toArray.zip vs.toArray).reverse else us.toArray.zip vs.toArray).size=vs.length:=by cases b with|false=>exact A8|true=>rw[if_pos rfl,Array.size_reverse,A8]
 have keys:KeysOf κ (if b=true then (us.toArray.zip vs.toArray).reverse else us.toArray.zip vs.toArray):=λp hp=>by have hp:p∈us.zip vs:=(by have e2:(us.toArray.zip vs.toArray).toList=us.zip vs:=(by rw[ksk_zip]);cases b with|false=>rw[if_neg zd,e2]at hp;exact hp|true=>rw[if_pos rfl,Array.toList_reverse,e2]at hp;exact List.mem_reverse.mp hp);obtain⟨x,y⟩:=p;exact h0 _ (List.of_mem_zip hp).1
 unfold ksk_end;try dsimp only
 refine step _ ?_;by_cases h2:vs.toArray.size<2;{rw[if_pos h2,if_pos h2];refine zc<|zm ?_;rw[StateT.run_pure];refine zc<|zm ?_;(try dsimp only);rw[zl]at h2;refine Eb (st:=SortSt.mk' general' (if b=true then (us.toArray.zip vs.toArray).reverse else us.toArray.zip vs.toArray) #[] 7 none) hk ha P7 (by rw[zl];lia) (by show(if b=true then (us.toArray.zip vs.toArray).reverse else us.toArray.zip vs.toArray).size<64;lia) rfl λh' c k1 k2=>?_;obtain⟨g,g1,g2⟩:=Iy (κ:=κ) (b:=b) (xs:=if b=true then (us.toArray.zip vs.toArray).reverse else us.toArray.zip vs.toArray) (g:=λk=>k) hl hsz {λ_ _=>rfl,λ_ hk=>hk,λ_ _ _ _ e=>e} (λi j lO hj=>by lia);exact h h' c g _ k1 k2 g1 g2};{rw[if_neg h2,if_neg h2];rw[zl]at h2;obtain⟨oa,og,rest,eu⟩:∃oa og rest,us=oa::og::rest:=(by match us,hl with|[],hl=>simp at hl;lia|[_],hl=>simp at hl;lia|oa::og::rest,_=>exact⟨oa,og,rest,rfl⟩);have ek:keyKind' us.toArray=pure oneType':=(by rw[eu];exact hkk _ _ _ eu);rw[ek];refine zc<|zm ?_;refine zc<|yF (P5 (κ:=κ) hO (a₀:=if b=true then (us.toArray.zip vs.toArray).reverse else us.toArray.zip vs.toArray) (st:=SortSt.mk' oneType' (if b=true then (us.toArray.zip vs.toArray).reverse else us.toArray.zip vs.toArray) #[] 7 none) (Q:=λ_ eM=>failedOf eM=none/\(arrOf eM).size=vs.length/\∃g,Gh (if b=true then (us.toArray.zip vs.toArray).reverse else us.toArray.zip vs.toArray) g (arrOf eM)/\B7 κ (if b=true then (us.toArray.zip vs.toArray).reverse else us.toArray.zip vs.toArray) g vs.length) keys {Array.Perm.refl _,rfl,rfl,rfl} rfl (by lia) (by lia) λeM g q1 q2 q3 q4=>{q1,q2.trans hsz,g,q3,by rw[hsz]at q4;exact q4}) ?_ λ_ _ e=>e;rintro⟨⟨⟩,eM⟩ s' ⟨rfl,hf,Zg,g,G,U⟩;(try dsimp only);have Zg:(arrOf eM).size=vs.length:=Zg;refine Eb hk ha P7 (by rw[zl];lia) (by lia) hf λh' c k1 k2=>?_;obtain⟨g',g1,g2⟩:=Iy (κ:=κ) hl Zg G U;exact h h' c g' _ k1 k2 g1 g2}
end
structure Nx(X:Cx)(pins:List (Addr×Obj))(b:Addr):Prop where
 loc:b≠X.env.locals
 fs:b∉X.fs
 cell:∀x c,X.env.cells.lookup x=some c->c≠b
 pin:∀p∈X.pn++pins,p.1≠b
 new:X.cX.heap.objs.size<=b
section
variable{X:Cx}{pins:List (Addr×Obj)}{σ:St}{H:Hp}{s:Shared}
theorem Inv.Wz(I:Inv X pins σ H s)(h:s.heap.objs.size<=b):Nx X pins b:={ym<|zq I.lt h,I.R4 h,λx c e=>by obtain⟨v,q⟩:=I.cell x c e;exact zA<|zq q.lt h,λp hp=>zA<|zq (zx (I.pin p hp).1) h,zG I.sz h}
theorem Inv.LQ(I:Inv X pins σ H s)(kp:∀b o,b≠a->b≠k->s.heap.get? b=some o->h'.get? b=some o)(ha:H a=none)(hk:H k=none)(Aa:Nx X pins a)(Ak:Nx X pins k):Inv X pins σ H {s with heap:=h',toks:=t'}:=by have Oe:∀b u,H b=some u->b≠a/\b≠k:=λb u e=>{λz=>(by rw[z,ha]at e;cases e),λz=>(by rw[z,hk]at e;cases e)};refine I.step (g':=s.gens) (d':=s.drawn) (ch:=[a,k]) (λb hb=>?_) (λb o _ _ hc e _=>kp b o (λz=>hc<|by simp[z]) (λz=>hc<|by simp[z]) e) (λb o _ _ hc e _=>{o.slots,kp b o (λz=>hc<|by simp[z]) (λz=>hc<|by simp[z]) e}) (λ_ _ _ _ n=>n) (λb o hc e=>{o,kp b o (λz=>hc<|by simp[z]) (λz=>hc<|by simp[z]) e}) (λ_ _ e=>e) (λ_ _ _ e=>e) (λb ps e=>{#[],by rw[e];simp}) (λm hm=>?_) (λb u e=>?_) I.bare;simp only[zj,zI,or_false]at hb;rcases hb with rfl|rfl;exact{.inr Aa.new,Aa.loc,Aa.cell,Aa.pin};exact{.inr Ak.new,Ak.loc,Ak.cell,Ak.pin};obtain⟨o,es,ep,ho,r⟩:=hm;exact{o,es,ep,kp _ o (Ne.symm Aa.loc) (Ne.symm Ak.loc) ho,r};refine(I.aQ b u e).pV (λc v hc q=>?_) (λ_ q=>q) λ_ _ q=>q;rcases hc with z|z;rw[z]at q⊢;exact kp b v (Oe b u e).1 (Oe b u e).2 q;exact kp c v (Oe c _ z).1 (Oe c _ z).2 q
theorem Inv.UN(I:Inv X pins σ H s)(ha:H a=none)(A:Nx X pins a)(new:bx X.prog X.w (upd H a o) s.heap a o):Inv X pins σ (upd H a o) s:=by refine I.step (h':=s.heap) (g':=s.gens) (d':=s.drawn) (t':=s.toks) (ch:=[a]) (λb hb=>?_) (λb o _ _ hc e _=>e) (λb o _ _ hc e _=>⟨o.slots,e⟩) (λb u hc e n=>?_) (λb o hc e=>⟨o,e⟩) (λb xs e=>?_) (λb u v e=>?_) (λb ps e=>?_) (λm hm=>hm) (λb u e=>?_) I.bare;rw[zE.mp hb];exact{.inr A.new,A.loc,A.cell,A.pin};rw[ax λz=>hc<|by simp[z]];exact n;rw[ax<|aD e ha];exact e;rw[ax<|aD e ha];exact e;exact{#[],by rw[ax<|aD e ha,e];simp};by_cases hb:b=a;subst hb;rw[aE]at e;cases e;exact new;rw[ax hb]at e;exact(I.aQ b u e).pV (λc v _ q=>q) (λc q=>by rw[ax<|aD q ha];exact q) λc xs q=>by rw[ax<|aD q ha];exact q
end
def Iz(X:Cx)(pins:List<|Addr×Obj)(σ:St)(A:Around)(f:Addr)(xs:List V)(W:Nat->List V->Hp->Prop):Prop:=∀i x u ks s' H' more,Inv X (pins++more) σ H' s'->W i ks H'->xs[i]?=some x->RelV x u->codeAny (model X.prog X.w) A (.call (.ref f) {[u],[]}) (λq Bu=>∃w,q=.ok (.ret w)/\CE X.stack X.prog X.w H' s' (λk H''=>W (i+1) (ks++[k]) H'') w Bu) s'
structure Ny(κ:KeyKind)(us:List Value):Prop where
 all:∀u∈us,∃x,κ.keyOf u=some x
 kind:∀oa og rest,us=oa::og::rest->keyKind' (oa::og::rest).toArray=pure oneType'
section
variable{X:Cx}{pins:List (Addr×Obj)}{σ:St}{H:Hp}{s:Shared}{A:Around}{E:Value->Shared->Prop}{xs:List V}{vs:List Value}{f:Addr}{b:Bool}{κ:KeyKind}{W:Nat->List V->Hp->Prop}
theorem FY{P:PySem.Fin->Shared->Prop}(hO:κ.OneLt)(I:Inv X pins σ H s)(ha:s.heap.get? a=some (seqObj "list" #[] e1))(hk:s.heap.get? kS=some (seqObj "list" #[] 0))(P7:kS≠a)(na:H a=none)(nk:H kS=none)(Aa:Nx X pins a)(Ak:Nx X pins kS) (hv:Vals xs vs) (G8:vs.length<64) (T:Iz X pins σ A f xs W) (w0:W 0 [] H) (G:∀ks us H',W vs.length ks H'->Vals ks us->ks.length=vs.length->Ny κ us) (h:∀s' H' ks us c g out,Inv X pins σ H' s'->H' a=none->s'.heap.get? a=some (seqObj "list" out c)->W vs.length ks H'->Vals ks us->ks.length=vs.length->Wy κ b (i_ κ us) vs.length g->out.toList=(List.range vs.length).map (λk=>vs.getD (g k) .none)->P (.done<|.ret .none) s'): wpAny (model X.prog X.w) A (ksk_rest a (.ref f) b vs.toArray e1<|.ref kS) P E s:=by
 have nc:∀(k:Array Value) (n:Nat) (v:Option Value),(seqObj "list" k n).data≠.cell v:=λ_ _ _ z=>nomatch z;unfold ksk_rest;refine zc<|wpAny_rule ?_;rw[List.forIn_toArray];refine zc<|ksk_fold (λi s'=>∃ks kA e H',Inv X pins σ H' s'/\W i ks H'/\Vals ks kA.toList/\ks.length=i/\H' a=none/\H' kS=none/\s'.heap.get? a=some (seqObj "list" #[] e1)/\s'.heap.get? kS=some (seqObj "list" kA e)) vs 0 s {[],#[],0,H,I,w0,.nil,rfl,na,nk,ha,hk} ?_ ?_;rintro j x s' hx ⟨ks,kA,e,H',I',w',v',l',WA,Zh,Zi,HB⟩;simp only[Nat.zero_add]at l' w'⊢;have hj:j<vs.length:=(zf.mp hx).1;have hl:xs.length=vs.length:=hv.length;obtain⟨y,hy⟩:∃y,xs[j]?=some y:={_,zh<|by lia};obtain⟨u,hu,ru⟩:=hv.get hy;rw[hx]at hu;cases hu;have Ip:Inv X (pins++[(a,seqObj "list" #[] e1),(kS,seqObj "list" kA e)]) σ H' s':=by refine{I'.ok,I'.os,I'.bare,I'.base,I'.loc,I'.cell,I'.free,I'.fR,λp hp=>?_,I'.aQ,I'.len};rcases zM.mp hp with hp|hp;exact I'.pin p<|ye _ hp;rcases zM.mp hp with hp|hp;exact I'.pin p<|zC _ hp;simp only[zj,zI,or_false]at hp;rcases hp with rfl|rfl;exact{Zi,WA,Aa.loc,Aa.fs,nc _ _};exact{HB,Zh,Ak.loc,Ak.fs,nc _ _}
 have hz:kA.size=j:=by have h1:ks.length=kA.toList.length:=v'.length;have h2:kA.toList.length=kA.size:=zT;lia
 refine zc<|wpAny_attempt<|wpAny_call<|yQ (T j y x ks s' H' _ Ip w' hy ru) λr s2 hq=>?_;obtain⟨w,rfl,ce⟩:=hq;obtain⟨k,H2,I2,rk,w2⟩:=Ip.after ce;dsimp only;have pa:=I2.pin (a,seqObj "list" #[] e1)<|zC _<|zC _ (by simp);have pk:=I2.pin (kS,seqObj "list" kA e)<|zC _<|zC _ (by simp);have I3:Inv X pins σ H2 s2:={I2.ok,I2.os,I2.bare,I2.base,I2.loc,I2.cell,I2.free,I2.fR,λp hp=>I2.pin p<|by rcases zM.mp hp with z|z;exact ye _ z;exact zC _<|ye _ z,I2.aQ,I2.len};have s1:=yz s2.heap kS (Obj.mapSeq (·.push w));obtain⟨c2,KO⟩:∃c2,(s2.heap.update kS (Obj.mapSeq (·.push w))).get? kS=some (seqObj "list" (kA.push w) c2):={_,get?_update_seq pk.1 (·.push w)};refine zc<|listUpdate_at pk.1 rfl ?_ (by rw[zX];lia)<|zG (Nat.le_of_eq<|Array.size_push ..) (by rw[zX];lia);refine zm {rfl,ks++[k],kA.push w,c2,H2,I3.turned (t':=s2.toks) (it:=kS) (λb o hb q=>(s1.2 b hb).trans q) pk.2.1 Ak.loc (.inr Ak.new) Ak.cell Ak.pin,w2,?_,by simp[l'],pa.2.1,pk.2.1,(s1.2 a P7.symm).trans pa.1,KO};rw[show(kA.push w).toList=kA.toList++[w] by simp];exact v'.append<|.cons rk .nil;rintro s' ⟨ks,kA,e,H',I',w',v',l',WA,Zh,Zi,HB⟩;simp only[Nat.zero_add]at l' w';refine zc<|listItems_at HB rfl ?_;have eA:kA=kA.toList.toArray:=by simp
 have good:=G ks kA.toList H' w' v' l';have hl:kA.toList.length=vs.length:=by have h1:ks.length=kA.toList.length:=v'.length;lia
 rw[eA]at HB;show wpAny _ _ (ksk_end a b vs.toArray e1 (.ref kS) kA) _ _ _;rw[eA];refine P8 (κ:=κ) hO HB Zi P7 hl G8 good.all good.kind λh' c g out k1 k2 k3 k4=>?_;exact h _ H' ks kA.toList c g out (I'.LQ (t':=s'.toks) k1 WA Zh Aa Ak) WA k2 w' v' l' k3 k4
theorem u0(hO:κ.OneLt)(I:Inv X pins σ H s)(hl:iZ X.K H l xs)(G8:xs.length<64)(WB:argsOk "sorted" {[.ref l],kw})(WC:∀x,argsOk "list.sort" {[.ref x],kw})(ht:∀x,Builtin.«list.sort» {[.ref x],kw}=ksk_tree x (.ref f) b) (T:Iz X pins σ A.in1.in1 f xs W) (w0:W 0 [] H) (G:∀ks us H',W xs.length ks H'->Vals ks us->ks.length=xs.length->Ny κ us) (h:∀H' ks us g D,W xs.length ks H'->Vals ks us->ks.length=xs.length->Wy κ b (i_ κ us) xs.length g->H' D=none->Q (.ref D) (upd H' D<|.lst<|(List.range xs.length).map λk=>xs.getD (g k) .av)): wpAny (model X.prog X.w) A (call (.builtin "sorted") [.ref l] kw) (EP X pins σ Q) E s:=by
 obtain⟨vs,hv,pl,_⟩:=I.list hl;have RF:xs.length=vs.length:=hv.length;rw[RF]at G8 G h;refine call_function_entry_kw kind_sorted plain_sorted entry_sorted WB ?_;unfold Builtin.«sorted»;refine zc (m:=checkCount "sorted" 1 1 _)<|zm ?_;refine zc<|collect_list pl.isList ?_ (by rw[zX];lia);refine zc<|wpAny_newList ?_ (by rw[zX];lia);have hsz:((s.heap.push<|seqObj "list" #[] 0).update s.heap.objs.size (Obj.mapSeq (·++vs.toArray))).objs.size=s.heap.objs.size+1:=by rw[Heap.size_update,size_push']
 have GZ:(((s.heap.push<|seqObj "list" #[] 0).update s.heap.objs.size (Obj.mapSeq (·++vs.toArray))).push<|seqObj "list" vs.toArray 0).get? (s.heap.objs.size+1)=some (seqObj "list" vs.toArray 0):=by rw[<-hsz];exact zk _ rfl
 have keep:∀b o,s.heap.get? b=some o->(((s.heap.push<|seqObj "list" #[] 0).update s.heap.objs.size (Obj.mapSeq (·++vs.toArray))).push<|seqObj "list" vs.toArray 0).get? b=some o:=λb o q=>by have eN:b<s.heap.objs.size:=zx q;rw[Heap.get?_push_ne _ _ _<|by rw[hsz];exact zA<|Nat.lt_succ_of_lt eN,Heap.get?_update_ne _ _ _ _<|zA eN,Heap.get?_push_ne _ _ _<|zA eN];exact q
 show wpAny _ _ _ _ _ {s with heap:=((s.heap.push<|seqObj "list" #[] 0).update s.heap.objs.size (Obj.mapSeq (·++vs.toArray))).push<|seqObj "list" vs.toArray 0};rw[hsz];generalize hg:((s.heap.push<|seqObj "list" #[] 0).update s.heap.objs.size (Obj.mapSeq (·++vs.toArray))).push (seqObj "list" vs.toArray 0)=h1 at GZ keep⊢;have I1:Inv X pins σ H {s with heap:=h1}:=I.kept (t':=s.toks) keep;have Aa:Nx X pins (s.heap.objs.size+1):=I.Wz<|yR _;have na:H (s.heap.objs.size+1)=none:=I.aQ.fresh<|yR _;generalize s.heap.objs.size+1=a at GZ Aa na⊢;refine zc<|yE<|wpAny_call_entry_kw slot_list_sort {_,GZ,rfl} entry_list_sort ?_<|WC _;show wpAny (model X.prog X.w) A.in1.in1 (Builtin.«list.sort» {[.ref a],kw}) _ _ _;rw[ht a];have s1:=yz h1 a<|Obj.mapSeq λ_=>(#[]:Array Value);obtain⟨e1,P9⟩:∃e1,(h1.update a<|Obj.mapSeq λ_=>(#[]:Array Value)).get? a=some (seqObj "list" #[] e1):={_,get?_update_seq GZ λ_=>#[]};have I2:Inv X pins σ H {s with heap:=h1.update a<|Obj.mapSeq λ_=>(#[]:Array Value)}:=Inv.turned (s:={s with heap:=h1}) (h':=h1.update a<|Obj.mapSeq λ_=>(#[]:Array Value)) (t':=s.toks) (it:=a) I1 (λb o hb q=>(s1.2 b hb).trans q) na Aa.loc (.inr Aa.new) Aa.cell Aa.pin;unfold ksk_tree;refine zc<|listItems_at GZ rfl ?_;refine zc<|listUpdate_at GZ rfl ?_ (by rw[zl,zX];lia)<|zY _;refine zc<|seqEpoch_at P9 rfl ?_;refine zc<|wpAny_newTuple ?_ (by show vs.length<=_;rw[zX];lia);refine zc<|wpAny_newList ?_<|zY _;refine yE ?_;generalize h1.update a (Obj.mapSeq λ_=>(#[]:Array Value))=h2 at P9 I2⊢;have k3:∀b u,h2.get? b=some u->((h2.push<|seqObj "tuple" vs.toArray 0).push<|seqObj "list" #[] 0).get? b=some u:=λb u q=>za _<|za _ q;have I3:Inv X pins σ H {s with heap:=(h2.push<|seqObj "tuple" vs.toArray 0).push<|seqObj "list" #[] 0}:=I2.kept (t':=s.toks) k3;have A9:h2.objs.size<=(h2.push<|seqObj "tuple" vs.toArray 0).objs.size:=by rw[size_push'];exact yR _
 refine FY (s:={s with heap:=(h2.push<|seqObj "tuple" vs.toArray 0).push<|seqObj "list" #[] 0}) (kS:=(h2.push<|seqObj "tuple" vs.toArray 0).objs.size) hO I3 (k3 _ _ P9) (zk _ rfl) (ym<|zq (zx P9) A9) na (I2.aQ.fresh A9) Aa (I2.Wz A9) hv G8 T w0 G λs' H' ks us c g out J n1 o1 w1 v1 l1 q1 q2=>{.none,rfl,?_};refine zm !{.ref a,_,J.UN (o:=.lst<|(List.range vs.length).map λk=>xs.getD (g k) .av) n1 Aa {?_,out.toList,c,?_,?_},rfl,h H' ks us g a w1 v1 l1 q1 n1};rw[zb,List.length_range,zX];lia;rw[q2];have:∀(ns:List Nat),(∀k∈ns,g k<vs.length)->Vals (ns.map λk=>xs.getD (g k) .av) (ns.map λk=>vs.getD (g k) .none):=λns=>by induction ns with|nil=>exact λ_=>.nil|cons k ns ih=>intro hk;have Zj:=hk k zr;obtain⟨y,hy⟩:∃y,xs[g k]?=some y:={_,zh<|by lia};obtain⟨u,hu,ru⟩:=hv.get hy;refine .cons ?_<|ih λk eC=>hk k<|zg _ eC;show RelV (xs.getD (g k) .av) (vs.getD (g k) .none);rw[zD,hy,zD,hu];exact ru
 exact this _ λk hk=>q1.lt k<|zQ.mp hk;rw[o1]
end
def Bm(mg:Str->Option Value)(base:Heap):Prop:=∃bm o,mg "__builtins__"= some (.ref bm)/\bm≠builtinsNs/\base.get? bm=some o/\o.cls=.type "module"/\o.dict=some builtinsNs/\o.data=.plain
structure Zk(K:Frag)(mg:Str->Option Value)(base:Heap)(c P:Addr):Prop where
 hd:codeHdIn K c P=true
 bm:Bm mg base
theorem B9{pos p2:Pos}{c cv:Value}(l:List Value)(h:TriplesOk l)(e:codeAmong pos (l++[rawInt p2.line,rawInt p2.col,c])=some cv):codeAmong pos l=some cv\/cv=c:=by fun_induction TriplesOk l with|case1=>(simp only[List.nil_append,rawInt,codeAmong]at e;split at e;cases e;exact .inr rfl;cases e)|case2 a t b u x rest ih=>simp only[List.cons_append,codeAmong]at e⊢;split at e;rename_i hc;rw[if_pos hc];exact .inl e;rename_i hc;rw[if_neg hc];exact ih h e|case3 l h1 h2=>exact h.elim
section
variable{X:Cx}{pins:List (Addr×Obj)}{σ:St}{H:Hp}{s:Shared}
theorem Inv.tab{h':Heap}{tk:Nat}{P c:Addr}{ps RG:Array Value}{oc fo:Obj}(I:Inv X pins σ H s)(hP:H P=some (.qv ps))(hx:Heap.ExtBut P s.heap h')(h1:s.heap.objs.size<=c)(h2:c<h'.objs.size)(hc:h'.get? c=some oc)(hp:h'.get? P=some (tabObj<|ps++RG)): Inv X pins σ (upd (upd H P<|.qv<|ps++RG) c<|.lI oc<|.own 0) {s with heap:=h'.push fo,toks:=tk}:=by
 have hcP:c≠P:=λz=>absurd (zq (I.aQ.lt hP)<|z ▸ h1)<|yy _;have nc:H c=none:=I.aQ.fresh h1;have other:∀b,b≠P->b≠c->upd (upd H P<|.qv<|ps++RG) c (.lI oc<|.own 0) b=H b:=λb z1 z2=>by rw[ax z2,ax z1]
 have nP:∀b o,H b=some o->(∀q,o≠.qv q)->b≠P:=λb o e z q=>by rw[q,hP]at e;cases e;exact z _ rfl
 have Zl:∀b,H b=none->b≠P:=λb e q=>by rw[q,hP]at e;cases e
 have lt:∀b o,s.heap.get? b=some o->b≠c:=λb o e=>zA<|zq (zx e) h1;refine I.un (h':=h'.push fo) {λb o e n _ _=>za _<|hx b o (Zl b n) e,λb o e n _ _=>{o.slots,za _<|hx b o (Zl b n) e},λb o e n _=>by rw[other b (Zl b n)<|lt b o e];exact n,λb o e _=>?_,λb xs e=>by rw[other b (nP b _ e λ_=>nofun)<|aD e nc];exact e,λb o u e=>by rw[other b (nP b _ e λ_=>nofun)<|aD e nc];exact e,λb q e=>?_} λb u e=>?_;by_cases hb:b=P;rw[hb];exact{_,za _ hp};exact{o,za _<|hx b o hb e};by_cases hb:b=P;subst hb;rw[hP]at e;cases e;exact{RG,by rw[ax<|Ne.symm hcP,aE]};exact{#[],by rw[other b hb<|aD e nc,e];simp};by_cases RH:b=c;subst RH;rw[aE]at e;cases e;exact{za _ hc,_,za _ hc};rw[ax RH]at e;by_cases hb:b=P;subst hb;rw[aE]at e;cases e;exact za _ hp;rw[ax hb]at e;refine(I.aQ b u e).pV (λd v hd q=>?_) (λd q=>by rw[other d (nP d _ q λ_=>nofun)<|aD q nc];exact q) λd xs q=>by rw[other d (nP d _ q λ_=>nofun)<|aD q nc];exact q
 rcases hd with rfl|hd;exact za _<|hx d v hb q;exact za _<|hx d v (nP d _ hd λ_=>nofun) q
theorem Inv.Ec(I:Inv X pins σ H s)(ho:s.heap.get? f=some o)(hn:H f=none)(A:Nx X pins f)(d:∀v,o.data≠.cell v):Inv X (pins++[(f,o)]) σ H s:=by refine{I.ok,I.os,I.bare,I.base,I.loc,I.cell,I.free,I.fR,λp hp=>?_,I.aQ,I.len};rcases zM.mp hp with hp|hp;exact I.pin p<|ye _ hp;rcases zM.mp hp with hp|hp;exact I.pin p<|zC _ hp;rw[zE.mp hp];exact⟨ho,hn,A.loc,A.fs,d⟩
structure UO(X:Cx)(pins:List (Addr×Obj))(σ:St)(H H':Hp)(P:Addr)(q:Str)(params:Arguments)(body:Expr)(scope:Scope)(u:Value)(s':Shared)(f:Addr)(pm cv mn:Value):Prop where
 u:u=.ref f
 inv:Inv X (pins++[(f,xY X q params body scope pm cv mn)]) σ H' s'
 code:∃c o vs t,cv=.ref c/\H' c=some (.lI o<|.own 0)/\o.data=.fields vs/\vs[1]?=some (.str q t)
 same:∀b,H' b=H b\/(b=P/\∃ps,H' b=some (.qv ps)/\DU H' q ps)\/(H b=none/\∃o,H' b=some (.lI o<|.own 0))
theorem x5{M:Model}{A:Around}{E:Value->Shared->Prop}{N:List Str}{src:List<|Option Nat}{scope:Scope}{params:Arguments}{body:Expr}{pos:Pos}{c P:Addr}{q:Str}{ps:Array Value}{Q:Value->Shared->Prop}(I:Inv X pins σ H s)(S:bN X N src scope)(pz:X.env.code=.ref c)(mk:Zk X.K X.mg X.base c P) (hP:H P=some (.qv ps)) (ok:DU H q ps) (hq:X.env.qual ++ "<lambda>"= q) (IA:defaultsOf params X.env=([],[])) (h:∀u s' H' f pm cv mn,UO X pins σ H H' P q params body scope u s' f pm cv mn->Q u s'):wpAny M A (eval (.Lambda params body scope pos) X.env) Q E s:=by
 have Fy:closureFor scope X.env=pure (clOf X.env.cells scope.names):=gz λy hy hf=>I.ok.has y.1<|S.BA y hy hf;have WD:s.heap.get? P=some (tabObj ps):=I.aQ P _ hP;have hg:s.heap.Ns mainGlobals X.mg:=I.mod.glob.keeps I.bk;have hC:=codeHd_of_K I.oY mk.hd;obtain⟨bm,ob,b1,b2,b3,b4,b5,b6⟩:=mk.bm;have WE:s.heap.get? bm=some ob:=I.bk _ _ b3;have hgP:mainGlobals≠P:=λz=>by obtain⟨o,es,ep,e,d,_⟩:=id hg;rw[z,WD]at e;cases e;cases d
 have hbG:bm≠mainGlobals:=λz=>by obtain⟨o,es,ep,e,d,_⟩:=id hg;rw[<-z,WE]at e;cases e;rw[b6]at d;cases d
 have hbP:bm≠P:=λz=>by rw[z,WD]at WE;cases WE;cases b4
 have hB:s.heap.BuiltinsAt X.mg P:=⟨bm,ob,b1,b2,hbG,hbP,WE,b4,b5,b6⟩;have hqs:H P≠none:=by rw[hP];nofun
 refine PySem.W.kla_eval IA ?_;rw[hq];cases hf:codeAmong pos ps.toList with|none=>(refine PySem.W.kla_makeFunction Fy I.ok.glob hg pz hC WD ok.1 hf hgP hB λc' mn h' tk hx h1 h2 hr hp=>?_;obtain⟨c2,oc,vs,t,e2,V0,hd,hv⟩:=hr;cases e2;have J:=I.tab (tk:=tk) (fo:=xY X q params body scope ((X.mg "__name__").getD .none) (.ref c') mn) hP hx h1 h2 V0 hp;have hcP:c'≠P:=λz=>absurd (zq (I.aQ.lt hP)<|z ▸ h1)<|yy _;have nc:H c'=none:=I.aQ.fresh h1;have fresh:∀b,h'.objs.size<=b->upd (upd H P<|.qv<|ps++#[rawInt pos.line,rawInt pos.col,.ref c']) c' (.lI oc<|.own 0) b=none:=λb hb=>(by have xu:s.heap.objs.size<=b:=zG (zG h1<|yK h2) hb;rw[ax<|ym<|zq h2 hb,ax<|ym<|zq (I.aQ.lt hP) xu];exact I.aQ.fresh xu);have hsz:s.heap.objs.size<=h'.objs.size:=zG h1<|yK h2;refine h _ _ _ h'.objs.size _ _ _ {rfl,J.Ec (zk _ rfl) (fresh _<|zo _) (I.Wz hsz) (λv z=>nomatch z),⟨c',oc,vs,t,rfl,aE,hd,hv⟩,λb=>?_};by_cases RH:b=c';subst RH;exact .inr<|.inr ⟨nc,oc,aE⟩;by_cases hb:b=P;subst hb;refine .inr<|.inl {rfl,_,by rw[ax RH,aE],?_,λp2 cv e=>?_};rw[Array.toList_append];exact TriplesOk_snoc _ _ _ _ ok.1;rw[Array.toList_append]at e;rcases B9 _ ok.1 e with e|e;obtain⟨d,o,ws,t2,z1,z2,z3⟩:=ok.2 p2 cv e;exact{d,o,ws,t2,z1,by rw[ax<|aD z2 nc,ax λz=>by rw[z,hP]at z2;cases z2];exact z2,z3};exact⟨c',oc,vs,t,e,aE,hd,hv⟩;exact .inl<|by rw[ax RH,ax hb])|some cv=>refine PySem.W.kla_makeFunctionHit Fy I.ok.glob hg pz hC WD ok.1 hf hB λmn h' tk hk hsz=>?_;have J:Inv X pins σ H {s with heap:=h'.push<|xY X q params body scope ((X.mg "__name__").getD .none) cv mn,toks:=tk}:=I.kept λb u e=>za _<|hk b u e;exact h _ _ _ h'.objs.size _ _ _ {rfl,J.Ec (zk _ rfl) (I.aQ.fresh hsz) (I.Wz hsz) (λv z=>nomatch z),ok.2 pos cv hf,λb=>.inl rfl}
end
def UP:D->D->Prop|.int a,.int b=>a<b|.str a,.str b=>a.cps.toList<b.cps.toList|_,_=>False
def x6(ks:List D):Prop:=(∃zs:List Str,ks=zs.map D.str)\/∃ns:List Int,ks=ns.map D.int
structure P_(b:Bool)(key:Nat->D)(n:Nat)(g:Nat->Nat):Prop where
 lt:∀k,k<n->g k<n
 inj:∀i j,i<n->j<n->g i=g j->i=j
 ord:∀i j,i<j->j<n->(if b=true then UP (key<|g j) (key<|g i) else UP (key<|g i) (key<|g j))\/(key (g i)=key (g j)/\g i<g j)
def x8(b:Bool)(P:Addr)(q:Str)(src:List<|Option Nat)(te:TD)(σ:SD)(R:KD)(d:D)(S1:ay):Prop:=∃(l:Addr)(xs:List D)(f:D->D),d=.ref l/\S1 l=some (.lst xs)/\xs.length<64/\S1 P=some (.tab q)/\x6 (xs.map f)/\(∀x,x∈xs->∀S',Sub S1 S'->∀Qk:KD,(∀S2,Sub S' S2->Qk (f x) S2)->te ((pq σ src).set 0<|some x) S' Qk Zf)/\∀g S2 p,P_ b (λj=>f<|xs.getD j .av) xs.length g->Sub S1 S2->S2 p=none->R (.ref p) (S2.set p<|.lst<|(List.range xs.length).map λk=>xs.getD (g k) .av)
def Nz(b:Bool)(P:Addr)(q:Str)(src:List<|Option Nat)(tl te:TD):TD:=λσ S R Z=>tl σ S (λd S1=>x8 b P q src te σ R d S1) Z
def IB(F:D->ay->Prop):List D->ay->Prop|[d],S=>F d S|_,_=>False
theorem Ed{F:D->ay->Prop}{ds:List D}{S:ay}(h:IB F ds S):∃d,ds=[d]/\F d S:=by match ds,h with|[d],h=>exact⟨d,rfl,h⟩
theorem rR:∀{ss:List Int}{az:List Value},Vals (ss.map V.int) az->IntsAre az ss|[],_,.nil=>.nil|z::ss,_,.cons r t=>by obtain⟨tk,rfl⟩:=r;exact .cons z tk<|rR t
theorem rS:∀{us:List Value}{zs:List Str},StrsAre us zs->∀j,j<zs.length->i_ strKind us j=(zs.getD j "").cps.toList|_,_,.cons z t h,0,_=>rfl|_,_,.cons z t h,j+1,hj=>by have:=rS h j (by simpa using hj);unfold i_ at this⊢;rw[List.getD_cons_succ,List.getD_cons_succ];exact this
theorem rT:∀{us:List Value}{zs:List Int},IntsAre us zs->∀j,j<zs.length->i_ intK us j=zs.getD j 0|_,_,.cons z t h,0,_=>rfl|_,_,.cons z t h,j+1,hj=>by have:=rT h j (by simpa using hj);unfold i_ at this⊢;rw[List.getD_cons_succ,List.getD_cons_succ];exact this
theorem IC(h:StrsAre us zs):∀u∈us,∃x,strKind.keyOf u=some x:=by induction h with|nil=>(intro u hu;cases hu)|cons z t h ih=>intro u hu;rcases zj.mp hu with rfl|hu;exact{_,rfl};exact ih u hu
theorem ID(h:IntsAre us zs):∀u∈us,∃x,intK.keyOf u=some x:=by induction h with|nil=>(intro u hu;cases hu)|cons z t h ih=>intro u hu;rcases zj.mp hu with rfl|hu;exact{_,rfl};exact ih u hu
theorem IE{xs:List D}{f:D->D}{j:Nat}(hj:j<xs.length):(xs.map f)[j]?=some (f<|xs.getD j .av):=by rw[zp,zD,zh hj];rfl
theorem vZ{K:Frag}{H:Hp}{ds:List D}{xs:List V}(h:RvAll K H ds xs)(g:Nat->Nat):∀(ns:List Nat),(∀k∈ns,g k<ds.length)->RvAll K H (ns.map λk=>ds.getD (g k) .av) (ns.map λk=>xs.getD (g k) .av)|[],_=>bD|k::ns,hk=>by have Zj:=hk k zr;obtain⟨v,e,r⟩:=h.get<|zh Zj;refine aS ?_<|vZ h g ns λk eC=>hk k<|zg _ eC;show Rv K H (ds.getD (g k) .av) (xs.getD (g k) .av);rw[zD,zh Zj,zD,e];exact r
section
variable{K:Frag}{Y:Cx}{pins:List (Addr×Obj)}{τ:St}{H H2:Hp}{s:Shared}{N:List Str}{src:List (Option Nat)}{scope:Scope}{params:Arguments}{body:Expr}{q p:Str}{pm cv mn:Value}{f l:Addr}{te:TD}{b:Bool}{kw:List (Str×Value)}{k:Nat}
theorem x9{σ:SD}{S1:ay}{xs:List D}{fD:D->D}{Q:VK}{R:KD}{E:Value->Shared->Prop}(I:Inv Y (pins++[(f,xY Y q params body scope pm cv mn)]) τ H s)(hK:Y.K=K)(UQ:Y.calm=true)(hr:bR k Y.A)(pz:∃c o vs t,cv=.ref c/\H c=some (.lI o<|.own 0)/\o.data=.fields vs/\vs[1]?=some (.str q t)) (CS:bN Y N src scope) (LO:N[0]?=some p) (hp:scope.names.lookup p=some .local) (h0:src[0]?=some none) (LP:scope.isCoroutine=false) (B8:scope.isGenerator=false) (hb:∀cl pm cv mn u,bindArgs (kla_fn "<lambda>" q params body scope cl pm cv mn) {[u],[]}=pure [(p,u)]) (he:∀cv s H,DE K (RE Y N q scope f cv Y.A.in1.in1 s H) body te) (aC:iG K H σ τ) (hS:Rs K S1 H) (hl:S1 l=some (.lst xs)) (G8:xs.length<64) (kd:x6<|xs.map fD) (step:∀x,x∈xs->∀S',Sub S1 S'->∀Qk:KD,(∀S2,Sub S' S2->Qk (fD x) S2)->te ((pq σ src).set 0<|some x) S' Qk Zf) (hR:Cn K H R Q) (fin:∀g S2 p,P_ b (λj=>fD<|xs.getD j .av) xs.length g->Sub S1 S2->S2 p=none->R (.ref p) (S2.set p<|.lst<|(List.range xs.length).map λk=>xs.getD (g k) .av)) (WB:argsOk "sorted" {[.ref l],kw}) (WC:∀x,argsOk "list.sort" {[.ref x],kw}) (ht:∀x,Builtin.«list.sort» {[.ref x],kw}=ksk_tree x (.ref f) b): wpAny (model Y.prog Y.w) Y.A (call (.builtin "sorted") [.ref l] kw) (EP Y pins τ Q) E s:=by
 subst hK;obtain⟨vs,hv,rv⟩:=hS.lst hl;have RF:vs.length=xs.length:=rv.len;obtain⟨c,oc,ws,tk,ecv,hc,tK,hcq⟩:=pz;have drop:∀{u:Value}{s':Shared},EP Y (pins++[(f,xY Y q params body scope pm cv mn)]) τ Q u s'->EP Y pins τ Q u s':=λ⟨v,H',J,r,q⟩=>{v,H',{J.ok,J.os,J.bare,J.base,J.loc,J.cell,J.free,J.fR,λp hp=>J.pin p<|by rcases zM.mp hp with z|z;exact ye _ z;exact zC _<|ye _ z,J.aQ,J.len},r,q};have T:Iz Y (pins++[(f,xY Y q params body scope pm cv mn)]) τ Y.A.in1.in1 f vs λi ks H'=>∃S',Sub S1 S'/\Rs Y.K S' H'/\Kp Y.K H H'/\RvAll Y.K H' ((xs.take i).map fD) ks:=by rintro i x u ks s' H' more I' ⟨S',sb,rs,kp,rk⟩ hx ru;have hi:i<xs.length:=(by have:=(zf.mp hx).1;lia);obtain⟨v,e1,r1⟩:=rv.get<|zh hi;rw[hx]at e1;cases e1;have po:=(I'.pin (f,xY Y q params body scope pm cv mn)<|zC _<|ye _<|zC _<|by simp).1;have hcr:s'.heap.CodeRec cv q:={c,oc,ws,tk,ecv,(I'.aQ c _<|kp.f _ _ _ hc).1,tK,hcq};refine Ir (A:=Y.A.in1.in1) I' CS LO hp h0 I'.ok.frames (I'.ok.hd UQ) (by have:=hr.dp;show Y.A.depth<_;lia) ru po hcr LP B8 (hb _ _ _ _ _) ((he cv s' H').of<|.none _ rfl) ?_;refine{_,S',λkk S2=>kk=fD xs[i]/\Sub S' S2,Zf,((aC.ts kp).pick src).set 0<|Rv.ts kp _ r1,rs,step _ (List.getElem_mem hi) S' sb _ λS2 h2=>⟨rfl,h2⟩,λkk S2 v2 H2 ⟨e2,G4⟩ RJ Zm Rr=>?_,.f};subst e2;refine{S2,sb.trans G4,Zm,kp.trans Rr,?_};rw[show xs.take (i+1)=xs.take i++[xs[i]] by rw[List.take_add_one,zh hi];rfl,zJ];exact(RvAll.ts Rr _ rk).app<|aS RJ bD
 have w0:∃S',Sub S1 S'/\Rs Y.K S' H/\Kp Y.K H H/\RvAll Y.K H ((xs.take 0).map fD) []:={S1,.refl _,hS,.refl _,by rw[List.take_zero];exact bD};have V5:iZ Y.K H l vs:=.of hv;rcases kd with⟨zs,ez⟩|⟨zs,ez⟩;have hzl:zs.length=xs.length:=by have:=congrArg List.length ez;rw[zb,zb]at this;exact this.symm
 have ka:∀j,j<xs.length->fD (xs.getD j .av)=.str (zs.getD j ""):=λj hj=>by have e1:=IE (f:=fD) hj;rw[ez,zp,zh<|by lia]at e1;rw[zD (l:=zs),zh<|by lia];exact(zP e1).symm
 have kv:∀ks us H',(∃S',Sub S1 S'/\Rs Y.K S' H'/\Kp Y.K H H'/\RvAll Y.K H' ((xs.take vs.length).map fD) ks)->Vals ks us->StrsAre us zs:=λks us H' ⟨S',_,_,_,rk⟩ hu=>by rw[RF,List.take_length,ez]at rk;rw[rk.strs]at hu;exact rQ hu
 refine yF (u0 (κ:=strKind) (Q:=Q) (b:=b) strKind_oneLt I V5 (by lia) WB WC ht T w0 (λks us H' w1 v1 l1=>{IC<|kv ks us H' w1 v1,λoa og rest e=>keyKind_strs<|by rw[<-e];exact kv ks us H' w1 v1}) λH' ks us g D w1 v1 l1 sr hD=>?_) (λu s' z=>drop z) λ_ _ z=>z;have sk:=kv ks us H' w1 v1;obtain⟨S',sb,rs,kp,rk⟩:=w1;rw[RF]at sr⊢;refine(hR.kp kp).new rs hD (λhp=>fin g S' D {sr.lt,sr.inj,λi j lO hj=>?_} sb hp)<|vZ (RvAll.ts kp _ rv) g _ λk hk=>sr.lt k<|zQ.mp hk;have h1:=sr.lt i (by lia);have h2:=sr.lt j hj;have:=sr.ord i j lO hj;rw[rS sk _<|by lia,rS sk _<|by lia]at this;rw[ka _ h1,ka _ h2];rcases this with z|⟨z1,z2⟩;left;cases b with|false=>rw[if_neg zd]at z⊢;show(zs.getD (g i) "").cps.toList<(zs.getD (g j) "").cps.toList;exact zB z|true=>rw[if_pos rfl]at z⊢;show(zs.getD (g j) "").cps.toList<(zs.getD (g i) "").cps.toList;exact zB z
 exact .inr {by rw[Zb z1],z2};have hzl:zs.length=xs.length:=by have:=congrArg List.length ez;rw[zb,zb]at this;exact this.symm
 have ka:∀j,j<xs.length->fD (xs.getD j .av)=.int (zs.getD j 0):=λj hj=>by have e1:=IE (f:=fD) hj;rw[ez,zp,zh<|by lia]at e1;rw[zD (l:=zs),zh<|by lia];exact(zP e1).symm
 have kv:∀ks us H',(∃S',Sub S1 S'/\Rs Y.K S' H'/\Kp Y.K H H'/\RvAll Y.K H' ((xs.take vs.length).map fD) ks)->Vals ks us->IntsAre us zs:=λks us H' ⟨S',_,_,_,rk⟩ hu=>by rw[RF,List.take_length,ez]at rk;rw[rk.ints]at hu;exact rR hu
 refine yF (u0 (κ:=intK) (Q:=Q) (b:=b) Iu I V5 (by lia) WB WC ht T w0 (λks us H' w1 v1 l1=>{ID<|kv ks us H' w1 v1,λoa og rest e=>keyKind_ints<|by rw[<-e];exact kv ks us H' w1 v1}) λH' ks us g D w1 v1 l1 sr hD=>?_) (λu s' z=>drop z) λ_ _ z=>z;have sk:=kv ks us H' w1 v1;obtain⟨S',sb,rs,kp,rk⟩:=w1;rw[RF]at sr⊢;refine(hR.kp kp).new rs hD (λhp=>fin g S' D {sr.lt,sr.inj,λi j lO hj=>?_} sb hp)<|vZ (RvAll.ts kp _ rv) g _ λk hk=>sr.lt k<|zQ.mp hk;have h1:=sr.lt i (by lia);have h2:=sr.lt j hj;have:=sr.ord i j lO hj;rw[rT sk _<|by lia,rT sk _<|by lia]at this;rw[ka _ h1,ka _ h2];rcases this with z|⟨z1,z2⟩;left;cases b with|false=>rw[if_neg zd]at z⊢;show zs.getD (g i) 0<zs.getD (g j) 0;exact zB z|true=>rw[if_pos rfl]at z⊢;show zs.getD (g j) 0<zs.getD (g i) 0;exact zB z
 exact .inr {by rw[z1],z2}
end
section
variable{K:Frag}{X:Cx}{N:List Str}{src:List (Option Nat)}{scope:Scope}{params:Arguments}{e body:Expr}{q p x:Str}{np pos lp kq kq2 cp:Pos}{ci}{tl te:TD}{k:Nat}{c P:Addr}
theorem UO.kp{pins:List<|Addr×Obj}{τ:St}{H H':Hp}{u:Value}{s':Shared}{f:Addr}{pm cv mn:Value}{Y:Cx}(L:UO Y pins τ H H' P q params body scope u s' f pm cv mn){ps:Array Value}(hP:H P=some (.qv ps)):Kp K H H':=.of λb o e=>by rcases L.same b with z|⟨z,_⟩|⟨z,_⟩;exact .inl (by rw[z];exact e);rw[z,hP]at e;cases e;exact .inr {λ_=>nofun,λ_ _=>nofun};rw[z]at e;cases e
theorem UO.rs{pins:List<|Addr×Obj}{τ:St}{H H':Hp}{u:Value}{s':Shared}{f:Addr}{pm cv mn:Value}{Y:Cx}{S:ay}(L:UO Y pins τ H H' P q params body scope u s' f pm cv mn)(hS:Rs K S H)(ht:S P=some (.tab q)):Rs K S H':=λb x hb=>by obtain⟨ps,hP,_⟩:=hS P _ ht;have kp:Kp K H H':=L.kp hP;rcases L.same b with z|⟨rfl,RG,z1,z2⟩|⟨z,_⟩;exact(hS b x hb).keep (λo e=>by rw[z];exact e) kp;rw[ht]at hb;cases hb;exact⟨RG,z1,z2⟩;obtain⟨o,e,_⟩:=(hS b x hb).has;rw[z]at e;cases e
theorem UR(pz:X.env.code=.ref c)(mk:Zk K X.mg X.base c P)(hr:bR k X.A)(CS:bN X N src scope)(hl:DE K X e tl)(he:∀f cv s H,DE K (RE X N q scope f cv X.A.in1.in1 s H) body te)(hm:X.mg x=none)(hv:bootBuiltins x=some (.builtin "sorted")) (hq:autoParam (X.env.qual ++ "<lambda>"= q) qQJ) (LO:autoParam (N[0]?=some p) qQJ) (hp:autoParam (scope.names.lookup p=some .local) qQJ) (h0:autoParam (src[0]?=some none) qQJ) (LP:autoParam (scope.isCoroutine=false) qQJ) (B8:autoParam (scope.isGenerator=false) qQJ) (hb:autoParam (∀cl pm cv mn u,bindArgs (kla_fn "<lambda>" q params body scope cl pm cv mn) {[u],[]}=pure [(p,u)]) qJ1) (IA:autoParam (defaultsOf params X.env=([],[])) qQJ) (hg:autoParam (Gl X x) qQJ) (hn:autoParam (x≠"__name__") qQZ) (pY:autoParam ((x==("__debug__": Str))=false) qQZ) (Zn:autoParam (backTo pos (starEach [e] X.env)=(false,eval e X.env)::backTo pos (starEach [] X.env)) qQJ) (dO:autoParam ((backTo pos<|starEach [e] X.env).any (·.1)=false) qQJ) (Zo:autoParam (isPlain e=true) qQJ) (hK:autoParam (X.K=K) qQJ) (hC:autoParam (X.calm=true) qQJ): DE K X (.Call (.Name x np) [e] [{some "key",.Lambda params body scope lp,kq}] pos) (Nz false P q src tl te):=by subst hK;refine⟨λy=>?_⟩;rintro pins s τ H Q I ⟨σ,S,R,Z,aC,hS,t,hR,hZ⟩;refine wpAny_Call_Name_kw<|fj I hg hm hv ?_ hn pY;refine callWith_kw (bz (((ac hl an Zo).of y) pos pins s τ H (λvs H1=>∃ds S1,IB (x8 false P q src te σ R) ds S1/\RvAll X.K H1 ds vs/\Rs X.K S1 H1/\Kp X.K H H1) I {σ,S,IB<|x8 false P q src te σ R,Z,aC,hS,t,λds S1 vs H1 r rv rs k1=>⟨ds,S1,r,rv,rs,k1⟩,hZ}) λus s1 ⟨vs,H1,I1,r1,ds,S1,r,rv,rs,k1⟩=>?_) Zn dO;obtain⟨d,rfl,l,xs,fD,rfl,el,G8,et,kd,step,fin⟩:=Ed r;obtain⟨v,Ye,rfl,US,RJ⟩:=rv.cons;cases RJ.nil;cases US.ref;obtain⟨u,rfl,ru⟩:=vals1 r1;cases ru;obtain⟨ps,hP,aQ⟩:=rs P _ et;refine kws_cons<|x5 I1 ⟨CS.kind,CS.gA,CS.loc,CS.BA,CS.len,CS.src⟩ pz mk hP aQ hq IA λw s2 H2 f pm cv mn L=>?_;refine kws_nil ?_;cases L.u;have k2:Kp X.K H1 H2:=L.kp hP;exact x9 L.inv rfl hC hr L.code ⟨CS.kind,CS.gA,CS.loc,CS.BA,CS.len,CS.src⟩ LO hp h0 LP B8 hb (he f) ((aC.ts k1).ts k2) (L.rs rs et) el G8 kd step (hR.kp<|k1.trans k2) fin (ksk_s1 _ _) (λx=>ksk_l1 _ _) λx=>ksk_t1 _ _
theorem NA(pz:X.env.code=.ref c)(mk:Zk K X.mg X.base c P)(hr:bR k X.A)(CS:bN X N src scope)(hl:DE K X e tl)(he:∀f cv s H,DE K (RE X N q scope f cv X.A.in1.in1 s H) body te)(hm:X.mg x=none)(hv:bootBuiltins x=some (.builtin "sorted")) (hq:autoParam (X.env.qual ++ "<lambda>"= q) qQJ) (LO:autoParam (N[0]?=some p) qQJ) (hp:autoParam (scope.names.lookup p=some .local) qQJ) (h0:autoParam (src[0]?=some none) qQJ) (LP:autoParam (scope.isCoroutine=false) qQJ) (B8:autoParam (scope.isGenerator=false) qQJ) (hb:autoParam (∀cl pm cv mn u,bindArgs (kla_fn "<lambda>" q params body scope cl pm cv mn) {[u],[]}=pure [(p,u)]) qJ1) (IA:autoParam (defaultsOf params X.env=([],[])) qQJ) (hg:autoParam (Gl X x) qQJ) (hn:autoParam (x≠"__name__") qQZ) (pY:autoParam ((x==("__debug__": Str))=false) qQZ) (Zn:autoParam (backTo pos (starEach [e] X.env)=(false,eval e X.env)::backTo pos (starEach [] X.env)) qQJ) (dO:autoParam ((backTo pos<|starEach [e] X.env).any (·.1)=false) qQJ) (Zo:autoParam (isPlain e=true) qQJ) (hK:autoParam (X.K=K) qQJ) (hC:autoParam (X.calm=true) qQJ): DE K X (.Call (.Name x np) [e] [{some "key",.Lambda params body scope lp,kq},{some "reverse",.Constant (.bool true) ci cp,kq2}] pos) (Nz true P q src tl te):=by subst hK;refine⟨λy=>?_⟩;rintro pins s τ H Q I ⟨σ,S,R,Z,aC,hS,t,hR,hZ⟩;refine wpAny_Call_Name_kw<|fj I hg hm hv ?_ hn pY;refine callWith_kw (bz (((ac hl an Zo).of y) pos pins s τ H (λvs H1=>∃ds S1,IB (x8 true P q src te σ R) ds S1/\RvAll X.K H1 ds vs/\Rs X.K S1 H1/\Kp X.K H H1) I {σ,S,IB<|x8 true P q src te σ R,Z,aC,hS,t,λds S1 vs H1 r rv rs k1=>⟨ds,S1,r,rv,rs,k1⟩,hZ}) λus s1 ⟨vs,H1,I1,r1,ds,S1,r,rv,rs,k1⟩=>?_) Zn dO;obtain⟨d,rfl,l,xs,fD,rfl,el,G8,et,kd,step,fin⟩:=Ed r;obtain⟨v,Ye,rfl,US,RJ⟩:=rv.cons;cases RJ.nil;cases US.ref;obtain⟨u,rfl,ru⟩:=vals1 r1;cases ru;obtain⟨ps,hP,aQ⟩:=rs P _ et;refine kws_cons<|x5 I1 ⟨CS.kind,CS.gA,CS.loc,CS.BA,CS.len,CS.src⟩ pz mk hP aQ hq IA λw s2 H2 f pm cv mn L=>?_;refine kws_cons<|bz (MW (X:=y.cx) _ s2 τ H2 (λv H'=>v=.bl true/\H'=H2) L.inv ⟨rfl,rfl⟩) λw2 s3 ⟨v2,H3,I3,r3,e3,e4⟩=>?_;subst e3 e4;obtain rfl:w2=Value.bool true:=r3;refine kws_nil ?_;cases L.u;have k2:Kp X.K H1 H3:=L.kp hP;exact x9 I3 rfl hC hr L.code ⟨CS.kind,CS.gA,CS.loc,CS.BA,CS.len,CS.src⟩ LO hp h0 LP B8 hb (he f) ((aC.ts k1).ts k2) (L.rs rs et) el G8 kd step (hR.kp<|k1.trans k2) fin (ksk_s2 _ _ _) (λx=>ksk_l2 _ _ _) λx=>ksk_t2 _ _ _
end
section
variable{P:Program}{w:World}{K:Frag}{mg:Str->Option Value}{base:Heap}
theorem rP.okC{x qual:Str}{st:Stmt}{f:Addr}{fd:FuncData}{N ps:List Str}{k:Nat}{sp:iJ}(F:rP K x qual st f fd)(S:eZ N ps<|ae st)(len:∀ds S R Z,sp ds S R Z->ds.length=ps.length) (ju:∀(eP:Value)(A:Around)(outer:List Env)(s:Shared)(H:Hp)(E:XK)(ds:List D)(S:ay)(R:KD)(Z:KX),eP=fd.code->bR k (A.deeper<|envOfC qual (ae st) s.heap.objs.size f eP)->sp ds S R Z->∃t,FL K (jt (fk P w mg) P w K mg base N qual (ae st) f eP A outer s H E) true (bq st) t/\t {nx:=λ_ S'=>Fo S'<|R .av,rt:=λd S'=>Fo S'<|R d} (iK N ds) S λ_ C S'=>Fo S'<|Z C):bO P w K mg base (fk P w mg) (k+1) f fd ps (qG K sp):=by
 obtain⟨oc,od,dV,kV,doc,pm,an,eP,ct,OU,rfl,lk,tK⟩:=F.ex;have dO:ps.length<=N.length:=by have:=congrArg List.length S.pre;rw[zV]at this;lia
 refine M5 lk tK S (by rintro vs H Q E ⟨ds,S',R,Z,v,_,h,_⟩;exact by rw[v.len];exact len _ _ _ _ h) λA outer s H vs Q E hr ⟨ds,S',R,Z,v,hS,h,hR,hZ⟩=>?_;obtain⟨t,ht,q⟩:=ju eP A outer s H E ds S' R Z rfl hr h;have L:cP (jt (fk P w mg) P w K mg base N qual (ae st) f eP A outer s H E) E:=uP;let y:Ev (jt (fk P w mg) P w K mg base N qual (ae st) f eP A outer s H E) true:={_,(jt (fk P w mg) P w K mg base N qual (ae st) f eP A outer s H E).xe,λ_=>E,{λp2 τ H1 s1 e s' I h=>Nb L p2 τ H1 s1 e s' I h,λ_ p2 τ H1 s1 h' a cls args I hx he=>pj L I hx he,λ_=>PassesOwn.leaving}};refine{L2.Tl K (λ_=>E) t,ht.of y,iK N ds,S',_,λ_ C S'=>Fo S'<|Z C,?_,hS,q,{by rintro σ S1 τ H1 ⟨S2,sb,r⟩ a b c;exact(hR.kp c).now (b.sub sb) r iC,by rintro d S1 v H1 ⟨S2,sb,r⟩ a b c;exact hR _ _ _ _ r a (b.sub sb) c,λ_ _ _ _ z=>z.elim,λ_ _ _ _ z=>z.elim},by rintro σ τ C S1 H1 ⟨S2,sb,r⟩ a b c;exact hZ C S2 H1 r (b.sub sb) c};unfold iK start;refine(rN v).app ?_;rw[v.len];exact rM _ _<|by rw[List.length_replicate]
end
structure x_(ts:List Addr)(H:Hp):Prop where
 all:∀b,H b=none\/(∃o xs,H b=some (.lI o<|.lst xs))\/(b∈ts/\H b=some (.qv #[]))
 tab:∀b∈ts,H b=some (.qv #[])
theorem FZ{P:Program}{w:World}{K:Frag}{mg mb:Str->Option Value}{CX:Bt}{k:Nat}{fa a:Addr}{fd:FuncData}{x:Str}{sp:Sp}{bj:Shared}{vs:List Value}{ns:List Int}{ts:List Addr} (KX:K.In bj.heap) (P6:bj.heap.Ns mainGlobals mg) (hb:bj.heap.Ns builtinsNs mb) (hbb:∀x:Str,x≠"__name__"->mb x=bootBuiltins x) (Zp:bj.heap.NoLimit) (hbm:Bm mg bj.heap) (hg:bj.gens=#[]) (hT:∀b∈ts,bj.heap.get? b=some (tabObj #[])) (hC:∀b∈ts,isCodeTable bj.heap b) (hN:∀b∈ts,K.lookup b=none) (ha:bj.heap.get? a=some {cls:=.type "list",data:=.seq vs.toArray}) (hi:IntsAre vs ns) (hl:ns.length<=sizeLine) (hr:bR k callerA) (F:∀base:Heap,Bm mg base->K.In base->base.Ns mainGlobals mg->bO P w K mg base CX k fa fd [x] sp) (UT:∀(s:Shared) (u:Value),BindsTo s fd {[u],[]} [(x,u)]) (Rf:∀H:Hp,x_ ts H->iZ K H a (ns.map V.int)->sp [.ref a] H (λv _=>v=.bl true) λ_ _ _=>False) (Zr:∀H e s',CX [] H bj (λ_ _ _=>False) e s'->False): codeAny (model P w) callerA (.call (.ref fa) {[.ref a],[]}) (λr s'=>r=.ok (.ret<|.bool true)/\OldK bj.heap s'.heap/\s'.os=bj.os/\AllBare s'.gens) bj:=by
 have rv:=uM hi;have Zs:=hi.length;have Wr:a∉ts:=λz=>by rw[hT a z]at ha;cases ha
 have core:∀H:Hp,x_ ts H->iZ K H a (ns.map V.int)->lJ P w H bj.heap->(∀b,H b≠none->b=a\/b∈ts)->(H a≠none->K.lookup a=none)->codeAny (model P w) callerA (.call (.ref fa) {[.ref a],[]}) (λr s'=>r=.ok (.ret<|.bool true)/\OldK bj.heap s'.heap/\s'.os=bj.os/\AllBare s'.gens) bj:=by intro H hO hS aQ hA hK;have v5:∀{b:Addr}{o:Obj},bj.heap.get? b=some o->H b=none->(tP bj.heap H).get? b=some o:=λe n=>G_ e n;have KL:∀{b:Addr}{o:Obj}{es:Array DictEntry}{ep:Nat},bj.heap.get? b=some o->o.data=.dict es ep->H b=none:=λ{b o es ep} e d=>(by cases q:H b with|none=>rfl|some u=>rcases hA b (by rw[q];simp) with e'|e';subst e';rw[ha]at e;cases e;have d':Data.seq vs.toArray _=Data.dict es ep:=d;cases d';rw[hT b e']at e;cases e;cases d);have WG:∀{b:Addr}{m:Str->Option Value},bj.heap.Ns b m->(tP bj.heap H).Ns b m:=λ{b m} ⟨o,es,ep,e,d,r⟩=>{o,es,ep,v5 e<|KL e d,d,r};have hKb:K.In (tP bj.heap H):=λb o e=>v5 (KX b o e) (by cases q:H b with|none=>rfl|some u=>rcases hA b (by rw[q];simp) with e'|e';subst e';rw[hK<|by rw[q];simp]at e;cases e;rw[hN b e']at e;cases e);have hM:Mod K mg (tP bj.heap H):={hKb,WG P6,{mb,WG hb,hbb},by obtain⟨mc,h1,h2⟩:=Zp;exact{mc,WG h1,h2}};have e0:xw P w K mg (tP bj.heap H) callerA [] bj H:={rfl,hM,λb o e=>Ki e,Nat.le_of_eq<|E3 _ _,trivial,λb hb=>absurd (show b∈([]:List Addr) from hb)<|by simp,aQ,.of_eq hg};have hBm:Bm mg (tP bj.heap H):=(by obtain⟨bm,ob,b1,b2,b3,b4,b5,b6⟩:=hbm;refine{bm,ob,b1,b2,v5 b3 ?_,b4,b5,b6};cases q:H bm with|none=>rfl|some u=>rcases hA bm (by rw[q];simp) with e'|e';rw[e',ha]at b3;cases b3;cases b6;rw[hT bm e']at b3;cases b3;cases b4);refine yQ ((F _ hBm hKb<|WG P6).run callerA [] bj H {[.ref a],[]} [.ref a] [.ref a] _ _ hr e0 (UT bj<|.ref a) (.cons rfl .nil)<|Rf H hO hS) λr s' h=>?_;cases r with|error e=>exact(Zr H e s' h).elim|ok fl=>cases fl with|next=>exact False.elim h|brk=>exact False.elim h|cont=>exact False.elim h|ret u=>obtain⟨v,H',os,bare,un,UU,r',q⟩:=h;have q':v=.bl true:=q;subst q';obtain rfl:u=Value.bool true:=r';refine{rfl,{λb o e=>?_,λb o e=>un.there b o e<|by simp},os,bare};rcases hO.all b with z|⟨ob,xs,z⟩|⟨z1,z⟩;exact .inl<|un.keep b o e z (by intro z;exact absurd (show b∈([]:List Addr) from z)<|by simp) (by simp);have z2:=un.lK b ob _ z;obtain⟨e1,_⟩:=aQ b _ z;obtain⟨e2,_⟩:=UU b _ z2;rw[e]at e1;cases e1;exact .inl e2;obtain⟨more,z2⟩:=un.lL b _ z;have e2:=hT b z1;rw[e]at e2;cases e2;exact .inr<|.inl {hC b z1,rfl,#[],more,rfl,by have:=UU b _ z2;exact this}
 have tabs:∀(H:Hp),(∀b,b∈ts->H b=some (.qv #[]))->∀b u,b∈ts->H b=some u->bx P w H bj.heap b u:=λH h b u hb e=>by rw[h b hb]at e;cases e;exact hT b hb
 cases hk:K.lookup a with|some o=>(have e:=KX a o hk;rw[ha]at e;cases e;refine core (λb=>if b∈ts then some (.qv #[]) else none) {λb=>?_,λb hb=>if_pos hb} (.inr {_,vs.toArray,_,hk,rfl,rfl,rfl,by rw[zl,Zs];exact hl,by simpa using rv}) (λb u z=>?_) (λb z=>?_) λz=>absurd (if_neg Wr) z;by_cases hb:b∈ts;exact .inr<|.inr {hb,if_pos hb};exact .inl<|if_neg hb;by_cases hb:b∈ts;exact tabs _ (λb hb=>if_pos hb) b u hb z;have z':=(if_neg hb).symm.trans z;cases z';by_cases hb:b∈ts;exact .inr hb;exact absurd (if_neg hb) z)|none=>refine core (λb=>if b=a then some (.lI {cls:=.type "list",data:=.seq vs.toArray}<|.lst<|ns.map V.int) else if b∈ts then some (.qv #[]) else none) {λb=>?_,λb hb=>?_} (.inl<|.inr ⟨{cls:=.type "list",data:=.seq vs.toArray},if_pos rfl⟩) (λb u z=>?_) (λb z=>?_) λ_=>hk;by_cases hb:b=a;exact .inr<|.inl {_,_,if_pos hb};by_cases qd:b∈ts;exact .inr<|.inr {qd,(if_neg hb).trans<|if_pos qd};exact .inl<|(if_neg hb).trans<|if_neg qd;have:b≠a:=λz=>Wr<|z ▸ hb;exact(if_neg this).trans<|if_pos hb;by_cases hb:b=a;have z':=(if_pos hb).symm.trans z;cases z';subst hb;exact{ha,by rw[zb];exact hl,vs,_,rv,ha};have z':=(if_neg hb).symm.trans z;by_cases qd:b∈ts;have z2:=(if_pos qd).symm.trans z';cases z2;exact hT b qd;have z2:=(if_neg qd).symm.trans z';cases z2;by_cases hb:b=a;exact .inl hb;by_cases qd:b∈ts;exact .inr qd;exact absurd ((if_neg hb).trans<|if_neg qd) z
theorem Ee:∀{K:Frag},b∉K.map (·.1)->K.lookup b=none|[],_=>rfl| (a,o)::K,h=>by rw[zy,zj,not_or]at h;rw[yb,show(b==a)=false from beq_false_of_ne h.1];exact Ee h.2
theorem LR{K:Params->Frag}{as:List Addr}{e:∀P,as=(K P).map (·.1)}{ts:List Addr}{w:World}{h:Heap}(_:(PySem.W.kmHook K as e ts).says w h)(d:∀b∈ts,b∉as):∀b∈ts,(K w.params).lookup b=none:=λb hb=>Ee<|by rw[<-e];exact d b hb
theorem IF{l:PySem.W.OpenLaw}{n k:Nat}{q:Program}{loose:List Str}{XP:(Str->Option Value)->Heap->Prop}{YP:World->Heap->Prop}{d:DefRec}{K:Params->Frag}{CX:Bt}{x:Str}{ts:List Addr} (hn:l.most=some n) (DC:n<=sizeLine) (XZ:d.params.defaults=[]) (hr:bR k callerA) (hY:∀(w:World)(h:Heap),YP w h->(K w.params).In h) (hT:∀(w:World)(h:Heap),YP w h->∀b∈ts,h.get? b=some (tabObj #[])) (hN:∀(w:World)(h:Heap),YP w h->∀b∈ts,(K w.params).lookup b=none) (F:∀(w:World)(mg:Str->Option Value)(fa:Addr)(h:Heap),(K w.params).In h->h.Ns mainGlobals mg->mg d.name=some (.ref fa)->∃(fd:FuncData)(sp:Sp),(∀b∈ts,∃c,codeHdIn (K w.params) c b=true)/\(∀(s:Shared)(u:Value),BindsTo s fd {[u],[]} [(x,u)])/\(∀base:Heap,Bm mg base->(K w.params).In base->base.Ns mainGlobals mg->bO l.prog w (K w.params) mg base CX k fa fd [x] sp)/\∀(H:Hp)(a:Addr)(ns:List Int),ns.length<=n->x_ ts H->iZ (K w.params) H a (ns.map V.int)->sp [.ref a] H (λv _=>v=.bl true) λ_ _ _=>False) (Zr:∀(H:Hp)(s:Shared)(e:Value)(s':Shared),CX [] H s (λ_ _ _=>False) e s'->False): PySem.W.WalkO q loose XP YP l.row.toRowW d [] (λf vs=>PySem.call f vs):=by refine Att.xE hn XZ λw cX bj mg mb fa o pm cd doc a vs ns G Y ho hd tK Pd Pe hints hlen hg=>?_;have KX:=hY w _ Y;obtain⟨fd,sp,hC,hb,hF,Rf⟩:=F w mg fa _ KX G.T.g Pd;have hT':=hT w _ Y;exact FZ KX G.T.g G.T.b G.T.builtins G.T.nolimit G.T.bmain hg hT' (λb z=>by obtain⟨c,hc⟩:=hC b z;exact((codeHd_of_K KX hc).tab<|hT' b z).isCodeTable) (hN w _ Y) Pe hints (zG hlen DC) hr hF hb (λH hO hS=>Rf H a ns hlen hO hS) λH e s'=>Zr H bj e s'
namespace Rt
theorem own:Manifest.owners.lookup (String.ofList ['d','e','s','r','e','v','e','r'].reverse)=some Manifest.sig_reversed:=by kernel_rfl
theorem mJ:Slot "reversed" "__next__" "reversed.__next__":=.of (owner:="reversed") (n:="__next__") (by rw[typeLookup_type,builtinLookup_eq_fast];kernel_rfl) (by trivial) (by trivial) (by trivial) (by first|exact .inl (by trivial)|exact .inr (by trivial))<|by rw[isSubtype_type];kernel_rfl
theorem Ef:entryFor table "reversed.__next__"= some Builtin.«reversed.__next__»:=entryFor_of_tree<|by kernel_rfl
theorem Eg(a:Value):argsOk "reversed.__next__" {[a],[]}:=by unfold argsOk;rw[signature?_of (id:="reversed.__next__") (n:=['_','_','t','x','e','n','_','_']) (o:=['d','e','s','r','e','v','e','r']) (by kernel_rfl) own];kernel_rfl
theorem Eh:Slot "reversed" "__iter__" "reversed.__iter__":=.of (owner:="reversed") (n:="__iter__") (by rw[typeLookup_type,builtinLookup_eq_fast];kernel_rfl) (by trivial) (by trivial) (by trivial) (by first|exact .inl (by trivial)|exact .inr (by trivial))<|by rw[isSubtype_type];kernel_rfl
theorem LS(a:Value):argsOk "reversed.__iter__" {[a],[]}:=by unfold argsOk;rw[signature?_of (id:="reversed.__iter__") (n:=['_','_','r','e','t','i','_','_']) (o:=['d','e','s','r','e','v','e','r']) (by kernel_rfl) own];kernel_rfl
theorem LU:entryFor table "reversed.__iter__"= some Builtin.«dict_keyiterator.__iter__»:=entryFor_alias (id':="dict_keyiterator.__iter__") (by kernel_rfl) (by first|rfl|decide +kernel|(unfold String.splitOn;simp +decide [String.splitOnAux])) (by trivial)<|by kernel_rfl
theorem LV:Slot "reversed" "__init__" "object.__init__":=.of (owner:="object") (n:="__init__") (by rw[typeLookup_type,builtinLookup_eq_fast];kernel_rfl) (by trivial) (by trivial) (by trivial) (by first|exact .inl (by trivial)|exact .inr (by trivial))<|by rw[isSubtype_type];kernel_rfl
theorem called:TypeCalled "reversed" "reversed.__new__" "object.__init__":={by trivial,by trivial,{_,_,F.mro_reversed},F.made_reversed,by trivial,by rw[isSubtype_type];kernel_rfl,LV}
theorem Qa:typeLookup (.type "tuple") "__reversed__"= pure none:=by rw[typeLookup_type,builtinLookup_eq_fast];kernel_rfl
theorem Ei:typeLookup (.type "tuple") "__getitem__"= pure (some<|.builtin "tuple.__getitem__"):=by rw[typeLookup_type,builtinLookup_eq_fast];kernel_rfl
theorem LW:isSubtype (.type "tuple") (.type "dict")=pure false:=by rw[isSubtype_type];kernel_rfl
end Rt
noncomputable def yU(l:Addr)(i:Int):Obj:={cls:=.type "reversed",data:=.fields #[.ref l,rawInt i]}
def rV(h:Heap)(a l:Addr)(i:Int):Prop:=∃o,h.get? a=some o/\o.cls=.type "reversed"/\o.data=.fields #[.ref l,rawInt i]
section
variable{prog:Program}{w:World}{A:Around}{E:Value->Shared->Prop}{s:Shared}
theorem rV.typeIs(x:rV s.heap a l i):s.TypeIs (.ref a) "reversed":=by obtain⟨o,ho,hc,_⟩:=x;exact⟨o,ho,hc⟩
theorem rV.keep(x:rV h a l i)(e:∀o,h.get? a=some o->h'.get? a=some o):rV h' a l i:=by obtain⟨o,ho,r⟩:=x;exact{o,e _ ho,r}
theorem Qb(hl:IsTup s.heap l items)(hz:items.size<=sizeLine)(h:Q₁ (.ref s.heap.objs.size) {s with heap:=s.heap.push<|yU l<|(items.size:Int)-1,toks:=s.toks+1+1}): codeAny (model prog w) A (.call (.builtin "reversed.__new__") {[.type "reversed",.ref l],[]}) (wants Q₁ E) s:=by
 refine codeAny_of_tree ?_;show wpAny _ A.in1 (do checkBuiltinCall "reversed.__new__" {[.type "reversed",.ref l],[]};again (.builtin "reversed.__new__" {[.type "reversed",.ref l],[]})) _ _ s;refine zc<|yS (F.newCall_reversed_1 _)<|zm {plainId_quiet F.plain_reversed_new _,yM F.entry_reversed_new ?_};rw[Around.under_plainId F.plain_reversed_new _];unfold Builtin.«reversed.__new__»;refine zc<|yS (newClass_reversed _) ?_;refine zc<|yS (a:=()) (by first|rfl|kernel_rfl)<|zc<|yS (a:=()) (by first|rfl|kernel_rfl) ?_;refine zc<|wpAny_specialOf hl.typeIs Rt.Qa ?_;refine zc<|zc<|wpAny_isInstance hl.typeIs Rt.LW<|zc<|wpAny_specialOf hl.typeIs Rt.Ei ?_;show wpAny _ _ (if (["tuple.__getitem__","str.__getitem__","bytes.__getitem__","bytearray.__getitem__","memoryview.__getitem__","numpy.ndarray.__getitem__","sqlite3.Row.__getitem__"]:List String).contains "tuple.__getitem__"= true then pure true else _) _ _ _;rw[if_pos<|by trivial];refine zm ?_
 show wpAny _ _ (do
     let oh <-call (Value.builtin "len") [Value.ref l]
     let __x <-asInt? oh
     match __x with
      |some n=>do
       let oh <-Builtin.SmallTypes.newRecord (Value.type "reversed") [Value.ref l,rawInt (n-1)]
       ret oh
      |x=>unsupported "internal:reversed.__new__") _ _ _
 refine zc<|len_tuple hl (by rw[zX]at hz;lia) ?_;refine zc<|yS (a:=some ((items.size:Nat):Int)) rfl ?_;exact zc (m:=newObj (.type "reversed")<|.fields #[.ref l,rawInt<|((items.size:Nat):Int)-1])<|yi<|zm h
theorem LX(hl:IsTup s.heap l items)(hz:items.size<=sizeLine)(h:Q (.ref s.heap.objs.size) {s with heap:=s.heap.push<|yU l<|(items.size:Int)-1,toks:=s.toks+1+1}): wpAny (model prog w) A (call (.type "reversed") [.ref l]) Q E s:=by refine callType_codes Rt.called (F.typeCall_reversed_1 _) F.entry_object_init (Q₁:=λobj bj=>bj.TypeIs obj "reversed"/\Q obj bj) (Qb hl hz {{_,zk _ rfl,rfl},h}) λobj bj h₁=>?_;exact{h₁.1,F.args_object_init_2 obj _,object_init_meets Rt.called.init.lookup Rt.called.made (by decide) prog w A.in1 _ bj ⟨h₁.1,rfl,h₁.2⟩}
theorem sqx(h:k<n):seqIndex? ((k:Nat):Int) n=some k:=by have e:(if ((k:Nat):Int)<0 then ((k:Nat):Int)+(n:Int) else ((k:Nat):Int))=((k:Nat):Int):=if_neg (by lia);unfold seqIndex?;dsimp only;rw[e,if_pos<|by simp;lia];rfl
theorem LY{it l:Addr}{i:Nat}{items:Array Value}{x:Value}{Q:Option Value->Shared->Prop}(hit:rV s.heap it l (i:Int))(hl:IsTup s.heap l items)(hz:items.size<=sizeLine)(hx:items[i]?=some x) (hQ:∀h' tk,rV h' it l ((i:Int)-1)->Heap.SameBut it s.heap h'->Q (some x) {s with heap:=h',toks:=tk}):wpAny (model prog w) A (pyNext<|.ref it) Q E s:=by obtain⟨o,ho,hc,hd⟩:=id hit;have hi:i<items.size:=(Array.getElem?_eq_some_iff.mp hx).1;unfold pyNext;refine zc<|wpAny_attempt<|wpAny_callSpecial?_slot (name:=Str.ofString "__next__") hit.typeIs Rt.mJ<|yD Rt.mJ hit.typeIs Rt.Ef ?_<|Rt.Eg _;unfold Builtin.«reversed.__next__»;refine zc<|yS (a:=(Value.ref it,[])) rfl<|zc<|zU ho hd (x:=.ref l) rfl<|zc<|zU ho hd (x:=rawInt (i:Int)) rfl ?_;show wpAny _ _ (if (i:Int)<0 then _ else _) _ _ s;rw[if_neg<|by lia];show wpAny _ _ (specialOf (.ref l) "__getitem__" >>=_) _ _ s;refine zc<|wpAny_specialOf hl.typeIs Rt.Ei ?_;show wpAny _ _ (mkInt (i:Int) >>=_) _ _ s;refine zc<|wpAny_mkInt ?_;refine zc<|wpAny_attempt<|getItem_tuple (j:=i) hl (by lia) (by rw[zX]at hz;lia) (sqx hi) hx ?_;refine zc<|zU ho hd (x:=rawInt (i:Int)) rfl ?_;show wpAny _ _ (setField (.ref it) 1 (rawInt<|(i:Int)-1) >>=λ_=>ret x) _ _ _;refine zc<|yP ho hd (by simp)<|zm {x,rfl,zm<|hQ _ _ ?_<|yz ..};exact{_,yt _ ho<|Obj.isFreed_of_fields<|yx hd _,(Obj.cls_mapFields ..).trans hc,by rw[yx hd];simp}
theorem Qc(hh:A.handled=none)(hit:rV s.heap it l (-1))(hQ:∀h',Heap.ExtBut it s.heap h'->Q none {s with heap:=h'}):wpAny (model prog w) A (pyNext<|.ref it) Q E s:=by
 obtain⟨o,ho,hc,hd⟩:=id hit;unfold pyNext;refine zc<|wpAny_attempt<|wpAny_callSpecial?_slot (name:=Str.ofString "__next__") hit.typeIs Rt.mJ<|yD Rt.mJ hit.typeIs Rt.Ef ?_<|Rt.Eg _;unfold Builtin.«reversed.__next__»;refine zc<|yS (a:=(Value.ref it,[])) rfl<|zc<|zU ho hd (x:=.ref l) rfl<|zc<|zU ho hd (x:=rawInt (-1)) rfl ?_;show wpAny _ _ (if (-1:Int)<0 then _ else _) _ _ s;rw[if_pos<|by decide];refine zc<|wpAny_rule ?_;have hd1:=yx hd (·.setIfInBounds 1 (rawInt (-1)));have P9:=yt (Obj.mapFields (·.setIfInBounds 1 (rawInt (-1)))) ho<|Obj.isFreed_of_fields hd1;refine zc (m:=setField (.ref it) 1 (rawInt (-1)) >>=λ_=>setField (.ref it) 0 .none)<|zc<|yP ho hd (by simp)<|yP P9 hd1 (by simp) ?_;have eb:Heap.ExtBut it s.heap ((s.heap.update it (Obj.mapFields (·.setIfInBounds 1 (rawInt (-1))))).update it (Obj.mapFields (·.setIfInBounds 0 Value.none))):=λb u hb e=>by rw[yo _ _<|Ne.symm hb,yo _ _<|Ne.symm hb];exact e
 refine zc ?_;show wpAny _ _ (newExc (.type "StopIteration") [] >>=_) _ _ _;refine zc ?_;simp only[newExc,newTuple];refine zc<|yi ?_ (by size_fits);refine zc (m:=firstArgMember _ _)<|yS (a:=Value.none) (by first|rfl|(simp only[firstArgMember];rfl)) ?_;refine yi ?_ (by size_fits);simp only[raiseNew];refine zc<|wpAny_handled ?_;first|rw[show A.in1.handled=none from hh]|rw[hh]
 refine zc<|zm<|wpAny_throw ?_;refine zc<|wpAny_isInstance (T:="StopIteration") (b:=true) {_,zk _ rfl,rfl} isSubtype_stop ?_;exact zm<|hQ _<|(eb.push _).push _
theorem Ej(hit:rV s.heap it l i)(h:Q (.ref it) s):wpAny (model prog w) A (pyIter<|.ref it) Q E s:=by refine wpAny_pyIter_slot hit.typeIs Rt.Eh<|yD Rt.Eh hit.typeIs Rt.LU ?_<|Rt.LS _;show wpAny _ _ (ret<|.ref it) _ _ s;exact zm !{"reversed",_,hit.typeIs,Rt.mJ.lookup,h}
end
end L2
namespace L2
open PySem PySem.Spec PyProof.Rows
noncomputable def UW(K:Frag)(a:Addr)(n:Nat):It:={λi H=>∃xs x,gT K H a xs/\xs.length=n/\i<n/\xs[n-1-i]?=some x,λi H x H'=>H'=H/\∀xs,gT K H a xs->xs.length=n->xs[n-1-i]?=some x,λi _=>n<=i}
theorem LZ{P:Program}{w:World}{K:Frag}{tg:Expr}(a it:Addr)(n:Nat):Turn P w K tg (UW K a n) [it] it (λi h=>i<=n/\rV h it a ((n:Int)-1-(i:Int))) where
 mem:=by simp
 obj:=λi h st b hb=>by
  have e:b=it:=by simpa using hb
  subst e
  obtain⟨_,o,e,c,d⟩:=st
  exact{o,e,λv z=>by rw[d]at z;cases z}
 keep:=λi h h' st k=>{st.1,st.2.keep λo e=>k it (by simp) o e}
 item:=by
  intro X hP hw hK hc i pins s σ H E I hf st hg
  subst hP hw hK
  obtain⟨xs,x,hq,hn,hi,hx⟩:=hg
  obtain⟨az,rv,p,hz⟩:=I.tuple hq
  obtain⟨u,hu,ru⟩:=rv.get hx
  obtain⟨f0,f1,f2,f3,f4,f5⟩:=hf it<|by simp
  have e:(n:Int)-1-(i:Int)=((n-1-i:Nat):Int):=by lia
  have hit:=st.2
  rw[e]at hit
  refine LY hit p (by rw[zl,<-rv.length];exact hz) (x:=u) (by simpa using hu) λh' tk eM sb=>?_
  have I1:Inv X pins σ H {s with heap:=h',toks:=tk}:=I.turned (t':=tk) (λb o hb e=>(sb.2 b hb).trans e) f0 f1 f3 f4 f5
  obtain⟨o,e1,c,d⟩:=id eM
  refine{u,rfl,uE (s:={s with heap:=h',toks:=tk}) e1 c d (by decide) {x,H,I1,ru,{rfl,λys hy _=>by rw[I.nU hy hq];exact hx},{hi,?_},λb hb=>(hf b hb).1}}
  have e2:(n:Int)-1-((i+1:Nat):Int)=((n-1-i:Nat):Int)-1:=by lia
  rw[e2];exact eM
 done:=by
  intro X hP hw hK hc i pins s σ H E I hf st hg
  subst hP hw hK
  obtain⟨f0,f1,f2,f3,f4,f5⟩:=hf it<|by simp
  have hg:n<=i:=hg
  have e:(n:Int)-1-(i:Int) = -1:=by have:=st.1;lia
  have hit:=st.2
  rw[e]at hit
  exact Qc (I.ok.hd hc) hit λh' eb=>{rfl,I.turned (t':=s.toks) (λb o hb e=>eb b o hb e) f0 f1 f3 f4 f5}
 self:=λ_ _ _ _ _ st h=>Ej st.2 h
def iRt(K:Frag)(ta:TA):TI:=λσ H R=>ta σ H λvs H1=>∃a xs,vs=[.ref a]/\gT K H1 a xs/\R (UW K a xs.length) H1
theorem UX{X:Cx}{tg a:Expr}{ta:TA}{p pos:Pos}(hg:Gl X "reversed")(hm:X.mg "reversed"= none)(ha:PA X [a] ta)(hs:starEach [a] X.env=[(false,eval a X.env)]):PI X tg (.Call (.Name "reversed" p) [a] [] pos) (iRt X.K ta):=by
 intro pins s σ H R I h;refine Call_<|fj I hg hm boot_reversed<|PyProof.Rows.callWith_type1 (bz (ha pos pins s σ H _ I h) λus s1 ⟨vs,H1,I1,r1,q1⟩=>?_) hs rfl;obtain⟨l,xs,e,q,hR⟩:=q1;subst e;obtain⟨u,rfl,ru⟩:=vals1 r1;cases ru;obtain⟨az,rv,pl,hz⟩:=I1.tuple q;have hn:az.toArray.size=xs.length:=by rw[zl,rv.length]
 refine LX pl (by rw[hn];exact hz) ?_;rw[hn];have st:rV (s1.heap.push<|yU l<|(xs.length:Int)-1) s1.heap.objs.size l ((xs.length:Int)-1-((0:Nat):Int)):={_,zk _ rfl,rfl,by show Data.fields _=Data.fields _;simp};have I2:Inv X pins σ H1 {s1 with heap:=s1.heap.push<|yU l<|(xs.length:Int)-1,toks:=s1.toks+1+1}:=I1.kept (t':=s1.toks+1+1) λb o e=>za _ e;refine Ej (s:={s1 with heap:=s1.heap.push<|yU l<|(xs.length:Int)-1,toks:=s1.toks+1+1}) st {_,_,_,_,H1,rfl,I2,LZ l s1.heap.objs.size xs.length,{zY _,st},λb hb=>?_,hR};have hb:b=s1.heap.objs.size:=by simpa using hb
 subst hb;exact I1.nV (zo _)<|I1.aQ.fresh<|zo _
section
variable{K:Frag}{X:Cx}{tg:Expr}
def Zt(t:iH):A7:=λσ S R Z=>t σ S (λds S1=>∃es,ds=[.tup es]/\R {es.reverse,λ_=>True} S1) Z
theorem irt{t:iH}(hm:X.mg "reversed"= none)(ha:DA K X [a] t)(hg:autoParam (Gl X "reversed") qQJ)(hs:autoParam (starEach [a] X.env=[(false,eval a X.env)]) qQJ)(hK:autoParam (X.K=K) qQJ):DI K X tg (.Call (.Name "reversed" p) [a] [] pos) (Zt t):=by subst hK;exact⟨λy=>(UX (X:=y.cx) hg hm (ha.of y) hs).mono <| by rintro τ H R ⟨σ,S,RI,Z,aC,hS,q,hR,hZ⟩;exact{σ,S,_,Z,aC,hS,q,by rintro ds S1 vs H1 ⟨es,e,r1⟩ v1 s1 k1;subst e;obtain⟨v,rfl,r⟩:=v1.one;obtain⟨a,xs,rfl,hq,t⟩:=r.tup;refine{a,xs,rfl,.inl<|.of hq,hR _ S1 _ H1 r1 (λi S2 H2 k2 s2 Wn=>?_) s1 k1};have RA:gT X.K H2 a xs:=.inl<|.of<|k2.t _ _ hq;have t2:=RvAll.ts k2 _ t;have hl:xs.length=es.length:=t.len;refine{λd hd=>?_,λh=>by rw[yA]at h;show xs.length<=i;lia};have hi:i<es.length:=(by have:=(zf.mp hd).1;rwa [yA]at this);rw[List.getElem?_reverse hi]at hd;obtain⟨v,e1,r⟩:=t2.get hd;rw[hl];refine{⟨xs,v,RA,hl,hi,e1⟩,λx' H' ⟨e2,e3⟩=>?_};subst e2;have:=e3 xs RA hl;rw[e1]at this;cases this;exact{r,.refl _,s2},hZ}⟩
end
section
variable{K:Frag}{X:Cx}{pos:Pos}
def Qd(tc:nM)(tb:mH):mH:=λDe σ S Z=>∃P:Nat->SD->ay->Prop,(∃m,P m σ S)/\∀m σ S,P m σ S->tc σ S (λb S1=>if b=true then tb {De with nx:=λaF S'=>∃m',m'<m/\P m' aF S',ct:=λaF S'=>∃m',m'<m/\P m' aF S',bk:=De.nx} σ S1 Z else De.nx σ S1) (Z σ)
theorem swh(hc:DT K X c tc)(hb:FL K X true body tb):DS K X true (.While c body [] pos) (Qd tc tb):=
 ⟨λy=>(He (X:=y.cx) (y.ok.loop rfl) (hc.of y)<|hb.of y).mono <| by rintro D τ H ⟨σ,S,De,Z,aC,hS,⟨P,⟨m,p0⟩,turn⟩,hD,hZ⟩;exact
  ⟨λm Ru H'=>∃σ S,iG K H' σ Ru/\Rs K S H'/\P m σ S/\Kp K H H',⟨m,σ,S,aC,hS,p0,.refl _⟩,by rintro m YV H1 ⟨xm,S1,a1,s1,p1,k1⟩;exact⟨xm,S1,_,Z xm,a1,s1,turn m xm S1 p1,λb S2 H2 r2 s2 k2=>by
   cases b with
   |true =>
    rw[if_pos rfl]at r2⊢
    refine{λτ3 H3=>∃σ S,iG K H3 σ τ3/\Rs K S H3/\(∃m',m'<m/\P m' σ S)/\Kp K H H3,by rintro τ3 H3 ⟨jj,S3,a3,s3,⟨m',hm,p3⟩,k3⟩;exact⟨m',hm,jj,S3,a3,s3,p3,k3⟩,?_}
    have kk:=k1.trans k2
    exact{xm,S2,_,Z,a1.ts k2,s2,r2,{λPR S5 Y5 H5 r5 a5 s5 k5=>{PR,S5,a5,s5,r5,kk.trans k5},hD.rt.kp kk,hD.nx.kp kk,λPR S5 Y5 H5 r5 a5 s5 k5=>{PR,S5,a5,s5,r5,kk.trans k5}},hZ.kp kk}
   |false =>
    rw[if_neg zd]at r2⊢
    exact hD.nx _ _ _ _ r2 (a1.ts k2) s2<|k1.trans k2,(hZ.kp k1).at a1⟩⟩⟩
def Zu(i:Nat)(te:TD):mH:=λDe σ S Z=>∃a:Int,σ[i]?=some (some<|.int a)/\te σ S (λd S1=>∃b:Int,d=.int b/\De.nx (σ.set i<|some<|.int<|a+b) S1) (Z σ)
theorem sau(hN:X.N.Nodup)(he:DE K X e te)(hi:autoParam (X.N[i]?=some x) qQJ)(hx:autoParam (Loc X.env.scope x) qQ8)(hf:autoParam (X.fn x=true\/X.env.scope.names.lookup x=some .local) qQ8): DS K X b (.AugAssign (.Name x pos') .Add e pos) (Zu i te):=⟨λy=>(OA (X:=y.cx) hN hi hx (he.of y) OB hf).mono <| by rintro D τ H ⟨σ,S,De,Z,aC,hS,⟨a,ha,t⟩,hD,hZ⟩;obtain⟨v,e1,r⟩:=aC.get ha;exact{v,e1,σ,S,_,Z σ,aC,hS,t,by rintro d S1 u H1 ⟨c,e2,n⟩ rv s1 k1;subst e2;exact{a,c,r.int,rv.int,hD.nx _ _ _ _ n ((aC.ts k1).set i<|aN _) s1 k1},hZ.at aC}⟩
noncomputable def vD:V->D|.int i=>.int i|.str z=>.str z|.bl b=>.bl b|_=>.av
noncomputable def IG:V->Bool|.int _=>true|.str _=>true|_=>false
def UY(kvs:List<|Str×V)(ty:TD):TD:=λσ S R Z=>ty σ S (λy S1=>∃z,y=.str z/\R ((kvs.lookup z).elim .av vD) S1) Z
theorem mgk{w:World}{ad:Addr}{kvs:List<|Str×V}{o e:Expr}{apos aT:Pos}{ty:TD}(d:HL w K ad kvs)(hf:(kvs.all λp=>IG p.2)=true)(ho:∀Y:Cx,Y.env=X.env->Y.mg=X.mg->PE Y o (tC<|.ref ad))(he:DE K X e ty)(hw:autoParam (X.w=w) qQJ)(hK:autoParam (X.K=K) qQJ)(m:autoParam (M1 X o "get" apos e aT) qQ4): DE K X (.Call (.Attribute o "get" apos) [e] [] aT) (UY kvs ty):=⟨λy=>(HN (X:=y.cx) hw hK (ho y.cx rfl rfl) (he.of y) ⟨m.base,m.G0,m.line,m.trees⟩).mono <| by rintro τ H Q ⟨σ,S,R,Z,aC,hS,q,hR,hZ⟩;exact⟨ad,kvs,rfl,d,σ,S,_,Z,aC,hS,q,by
 rintro yv S1 v H1 ⟨z,e1,r⟩ rv s1 k1;subst e1;refine{z,rv.str,hR _ _ _ _ r ?_ s1 k1};have fl:∀v,kvs.lookup z=some v->IG v=true:=λv hv=>by have:=yh hv;exact yc.mp hf _ this
 cases q:kvs.lookup z with|none=>exact iC|some v=>have:=fl v q;cases v with|int i=>exact aN i|str i=>exact gE i|_=>(cases this),hZ⟩⟩
end
theorem Ek:∀(i:Nat){xs:List V}{us:List Value},Vals xs us->Vals (xs.take i) (us.take i)|0,_,_,_=>.nil|_+1,_,_,.nil=>.nil|i+1,_,_,.cons r t=>.cons r<|Ek i t
theorem El:∀(i:Nat){xs:List V}{us:List Value},Vals xs us->Vals (xs.drop i) (us.drop i)|0,_,_,h=>h|_+1,_,_,.nil=>.nil|i+1,_,_,.cons r t=>El i t
section
variable{X:Cx}
def L3:V->List V->Hp->VK->Prop:=λx vs H Q=>∃l xs y i,x=.ref l/\vs=[.int ((i:Nat):Int),y]/\H l=some (.lst xs)/\i<=xs.length/\xs.length<=1000000/\Q .av (upd H l<|.lst<|xs.take i++y::xs.drop i)
theorem F9:V8 X "list.insert" L3:=by
 intro pins s σ H x vs v us Q I rx rv h;obtain⟨l,xs,y,i,rfl,rfl,hH,hi,hz,q⟩:=h;cases rx;obtain⟨u1,u2,rfl,r1,r2⟩:=rv.two;obtain⟨t1,rfl⟩:=r1;obtain⟨z,az,n,r,hl,e⟩:=I.Fm hH;have hlen:xs.length=az.length:=r.length;have hf:∀i:Nat,i<=1000000->¬(!Builtin.List.listFitsIndex ((i:Nat):Int))=true:=λi h=>by unfold Builtin.List.listFitsIndex;simp only[Bool.not_eq_true',Bool.not_eq_false',zL,yj];rw[zw<|by lia,zw<|by lia];decide
 have hsz:az.toArray.size<=sizeLine:=by rw[zl,zX];lia
 have hfi:=hf i (by lia);generalize hk:((i:Nat):Int)=k at hfi;have M:=AutoListH.list_insert_list_int_val_1 l az.toArray n k t1 u2 hfi hsz;refine call_meets F.slot_list_insert {_,e,rfl} F.entry_list_insert (F.args_list_insert_3 _ _ _) M {e,?_};subst hk;refine{.av,_,I.KY (its':=az.take i++u2::az.drop i) hH e ?_ ((Ek i r).append<|.cons r2<|El i r) ?_,rfl,q};dsimp only;rw[if_neg<|by lia,Int.toNat_natCast,zl,Nat.min_eq_left<|by lia];simp;exact List.take_of_length_le (by rw[yC];lia);rw[zH,zN,zV,yC,zX];lia
end
section
variable{K:Frag}
def L4:G6:=λx ds S R=>∃a es d i,x=.ref a/\ds=[.int ((i:Nat):Int),d]/\S a=some (.lst es)/\i<=es.length/\es.length<=1000000/\R .av (S.set a<|.lst<|es.take i++d::es.drop i)
theorem IH:Nj K "list.insert" L4:=by rintro X hK pins s σ H x xs v us Q I rx rs ⟨d,ds,S,R,r1,r2,hS,⟨a,es,y,i,e1,e2,e3,hi,hl,h⟩,hR⟩;subst e1 e2;obtain⟨w0,ws,rfl,q1,q2⟩:=r2.cons;obtain⟨w1,rfl,q3⟩:=q2.one;obtain⟨zs,e4,t⟩:=hS.lst e3;exact F9 pins s σ H x _ v us Q I rx rs {a,zs,w1,i,r1.ref,by rw[q1.int],e4,by rw[t.len];exact hi,by rw[t.len];exact hl,hR.put hS e3 h iC<|(t.take i).app<|aS q3<|t.drop i}
end
theorem gK(hm:X.mg x=some (.ref a))(hg:autoParam (Gl X x) qQJ)(hd:autoParam ((x==("__debug__": Str))=false) qQZ):∀Y:Cx,Y.env=X.env->Y.mg=X.mg->PE Y (.Name x pos) (tC<|.ref a):=λY e1 e2=>Du (X:=Y) (u:=.ref a) (show Y.env.kindOf x=_ by rw[e1];exact hg) (by rw[e2];exact hm) rfl hd
structure Fb(K:Frag)(x q:Str)(st:Stmt)(ps:List Str)(f:Addr)(d:FuncData):Prop where
 F:rP K x q st f d
 b:Binds K d ps []
structure II(K:Frag)(mg:Str->Option Value)(x:Str)(st:Stmt)(ps:List Str)(f:Addr)(d:FuncData):Prop extends Fb K x x st ps f d where
 k:keepIn K (.ref f)=true
 m:mg x=some (.ref f)
structure J3(K:Frag)(c:Addr)(x q:Str)(st:Stmt)(ps:List Str)(f:Addr)(d:FuncData):Prop extends Fb K x q st ps f d where
 e:Meth K c x f
abbrev Ok(P:Program)(w:World)(base:Heap){K:Frag}{mg:Str->Option Value}{x:Str}{st:Stmt}{ps:List Str}{f:Addr}{d:FuncData}(_:II K mg x st ps f d)(k:Nat)(sp:iJ):Prop:=bO P w K mg base (fk P w mg) k f d ps<|qG K sp
abbrev v7(P:Program)(w:World)(mg:Str->Option Value)(base:Heap){K:Frag}{c:Addr}{x q:Str}{st:Stmt}{ps:List Str}{f:Addr}{d:FuncData}(_:J3 K c x q st ps f d)(k:Nat)(sp:iJ):Prop:=bO P w K mg base (fk P w mg) k f d ps<|qG K sp
theorem fsc{N P:List Str}{sc:Scope}(a:autoParam (sc.kind=.function/\sc.isCoroutine=false/\sc.isGenerator=false/\N.take P.length=P) qQ4)(b:autoParam (N.Nodup/\(∀x∈P,sc.names.lookup x=some .local\/sc.names.lookup x=some .cell)/\∀y∈sc.names,y.2≠.free) qJ3):eZ N P sc:=⟨a.1,a.2.1,a.2.2.1,b.1,a.2.2.2,b.2.1,b.2.2⟩
section
variable{R:Prop}{K:Frag}{h:Heap}{mg:Str->Option Value}{od an:Option Addr}{sl:Array (Option Value)}{oc dV kV dc pm cd ct:Value}{f da:Addr}{NB:Option Addr}{dn:Nat}{NC:Array (Option Value)}{c:Addr}{tk:Tok}{d:FuncData}
theorem fn1(X:K.In h)(G:h.Ns mainGlobals mg)(x:Str)(st:Stmt)(ps:List Str)(a:nsIn K mainGlobals x=some (some<|.ref f))(l:K.lookup f=some {oc,od,.func<|fnOf x x (bw st) (bq st) (ae st) dV kV dc pm an cd ct,sl}) (e:codeIn K cd x=true) (k:keepIn K (.ref f)=true) (b:∀us:List Value,us.length=ps.length->bindArgs (fnOf x x (bw st) (bq st) (ae st) dV kV dc pm an cd ct) {us,[]}=pure (ps.zip us)) (g:∀d,II K mg x st ps f d->R):R:=g _ {{{_,_,_,_,_,_,_,_,_,_,rfl,l,e},.all b},k,mg_of X G a}
theorem Zv(X:K.In h)(G:h.Ns mainGlobals mg)(x:Str)(st:Stmt)(ps:List Str)(a:nsIn K mainGlobals x=some (some<|.ref f))(l:K.lookup f=some {oc,od,.func<|fnOf x x (bw st) (bq st) (ae st) dV kV dc pm an cd ct,sl}) (e:codeIn K cd x=true) (k:keepIn K (.ref f)=true) (b:∀us:List Value,us.length=ps.length->bindArgs (fnOf x x (bw st) (bq st) (ae st) dV kV dc pm an cd ct) {us,[]}=pure (ps.zip us)) (g:∀d,d.code=cd->(∀(s:Shared)(us:List Value),us.length=ps.length->BindsTo s d {us,[]} (ps.zip us))->II K mg x st ps f d->R):R:=g _ rfl (λs us h=>.of_eq<|b us h) {{{_,_,_,_,_,_,_,_,_,_,rfl,l,e},.all b},k,mg_of X G a}
theorem fm1(C:qB K c)(x q:Str)(st:Stmt)(ps:List Str)(a:findIn K (.ref c) x=some (some<|.ref f))(i:isFn K (.ref f)=true)(l:K.lookup f=some {oc,od,.func<|fnOf x q (bw st) (bq st) (ae st) dV kV dc pm an cd ct,sl}) (e:codeIn K cd q=true) (k:keepIn K (.ref f)=true) (b:∀us:List Value,us.length=ps.length->bindArgs (fnOf x q (bw st) (bq st) (ae st) dV kV dc pm an cd ct) {us,[]}=pure (ps.zip us)) (g:∀d,J3 K c x q st ps f d->R):R:=g _ {{{_,_,_,_,_,_,_,_,_,_,rfl,l,e},.all b},a,i,k}
theorem WH(C:qB K c)(x q:Str)(st:Stmt)(ps:List Str)(a:findIn K (.ref c) x=some (some<|.ref f))(i:isFn K (.ref f)=true)(l:K.lookup f=some {oc,od,.func<|fnOf x q (bw st) (bq st) (ae st) (.ref da) kV dc pm an cd ct,sl}) (t:K.lookup da=some {.type "tuple",NB,.seq #[.none] dn,NC}) (e:codeIn K cd q=true) (k:keepIn K (.ref f)=true) (b:∀(s:Shared) (us:List Value),s.heap.get? da=some {.type "tuple",NB,.seq #[.none] dn,NC}->us.length=ps.length->BindsTo s (fnOf x q (bw st) (bq st) (ae st) (.ref da) kV dc pm an cd ct) {us,[]} (ps.zip us)) (b2:∀(s:Shared) (us:List Value),s.heap.get? da=some {.type "tuple",NB,.seq #[.none] dn,NC}->us.length+1=ps.length->BindsTo s (fnOf x q (bw st) (bq st) (ae st) (.ref da) kV dc pm an cd ct) {us,[]} (ps.zip<|us++[.none])) (g:∀d,J3 K c x q st ps f d->Binds K d ps [.none]->R):R:=g _ {{{_,_,_,_,_,_,_,_,_,_,rfl,l,e},λs us hK hl=>by rw[List.append_nil]at hl⊢;exact b s us (hK _ _ t) hl},a,i,k} λs us hK hl=>b2 s us (hK _ _ t)<|by simpa using hl
theorem xo(X:K.In h)(G:h.Ns mainGlobals mg)(x:Str)(a:nsIn K mainGlobals x=some none)(g:mg x=none->R):R:=g<|PySem.W.mg_none_of X G a
theorem L5(X:K.In h)(G:h.Ns mainGlobals mg)(x:Str)(i:Int)(a:nsIn K mainGlobals x=some (some<|.int i tk))(g:mg x=some (.int i tk)->R):R:=g<|mg_of X G a
theorem RK(X:K.In h)(G:h.Ns mainGlobals mg)(x:Str)(a:nsIn K mainGlobals x=some (some<|.ref c))(l:K.lookup c=some o)(g:mg x=some (.ref c)->K.lookup c=some o->R):R:=g (mg_of X G a) l
theorem J4(X:K.In h)(G:h.Ns mainGlobals mg)(x:Str)(a:nsIn K mainGlobals x=some (some<|.ref c))(e:excIn K c L2.mD "ValueError.__new__"= true)(g:mg x=some (.ref c)->excIn K c L2.mD "ValueError.__new__"= true->R):R:=g (mg_of X G a) e
theorem gvc(X:K.In h)(G:h.Ns mainGlobals mg)(x:Str)(a:nsIn K mainGlobals x=some (some<|.ref c))(pg:plainGet K c Str.empty=true)(hd:hasDictIn K c=true)(po:plainOver K c=true)(sa:findIn K (.ref c) "__setattr__"= some (some<|.builtin "object.__setattr__"))(ms:makesIn K c=true)(kc:keepIn K (.ref c)=true) (g:mg x=some (.ref c)->qB K c->makesIn K c=true->keepIn K (.ref c)=true->R):R:=g (mg_of X G a) ⟨pg,hd,po,sa⟩ ms kc
theorem UZ(C:qB K c)(x:Str)(a:findIn K (.ref c) x=some none)(g:findIn K (.ref c) x=some none->R):R:=g a
theorem Qe{P:Addr}(l:K.lookup c=some o)(e:codeHdIn [(c,o)] c P=true):codeHdIn K c P=true:=by unfold codeHdIn at e⊢;rw[l];rw[show([(c,o)]:Frag).lookup c=some o by simp]at e;exact e
theorem gvm{P:Addr}(X:K.In h)(e:d.code=.ref c)(o:K.lookup c=some {oC,od,.fields vC,sl})(q:vC[11]?=some (.ref P))(hh:codeHdIn [(c,{oC,od,.fields vC,sl})] c P=true)(g:codeHdIn K c P=true->R):R:=g<|Qe o hh
end
section
variable{Q:List Value->Prop}
theorem WI(h:Q [])(us:List Value)(e:us.length=0):Q us:=by cases us with|nil=>exact h|cons a us=>cases e
theorem F_(h:∀a us,us.length=n->Q (a::us))(us:List Value)(e:us.length=n+1):Q us:=by cases us with|nil=>(cases e)|cons a us=>exact h a us<|yT e
theorem RL(h:∀a,Q [a]):∀us:List Value,us.length=1->Q us:=F_ λa=>WI<|h a
theorem ln2(h:∀a b,Q [a,b]):∀us:List Value,us.length=2->Q us:=F_ λa=>RL<|h a
theorem Qf(h:∀a b c,Q [a,b,c]):∀us:List Value,us.length=3->Q us:=F_ λa=>ln2<|h a
theorem RM(h:∀a b c d,Q [a,b,c,d]):∀us:List Value,us.length=4->Q us:=F_ λa=>Qf<|h a
theorem U0(h:∀a b c d e,Q [a,b,c,d,e]):∀us:List Value,us.length=5->Q us:=F_ λa=>RM<|h a
theorem U1(h:∀a b c d e f,Q [a,b,c,d,e,f]):∀us:List Value,us.length=6->Q us:=F_ λa=>U0<|h a
theorem Zw(h:∀a,Q [a])(us:List Value)(e:us.length+1=2):Q us:=RL h us<|yT e
theorem Zx(h:∀a b,Q [a,b])(us:List Value)(e:us.length+1=3):Q us:=ln2 h us<|yT e
theorem U4(h:∀a b c,Q [a,b,c])(us:List Value)(e:us.length+1=4):Q us:=Qf h us<|yT e
theorem U5(h:∀a b c d e,Q [a,b,c,d,e])(us:List Value)(e:us.length+1=6):Q us:=U0 h us<|yT e
end
section
variable{K:Frag}{X:Cx}{x:Str}{st:Stmt}{ps:List Str}{f:Addr}{fd:FuncData}{sp:iJ}{e:Expr}{es:List Expr}{p pos:Pos}
theorem aJ{t:iH}(T:II K X.mg x st ps f fd)(F:bO X.prog X.w K X.mg X.base (fk X.prog X.w X.mg) k f fd ps<|qG K sp)(hr:bR k' X.A)(ha:DA K X (e::es) t)(hle:autoParam (k<=k') qJX) (hg:autoParam (Gl X x) qQJ) (pY:autoParam ((x==("__debug__": Str))=false) qQZ) (he:autoParam (starEach (e::es) X.env=(false,eval e X.env)::starEach es X.env) qQJ) (dO:autoParam ((backTo pos<|starEach es X.env).any (·.1)=false) qQJ) (hK:autoParam (X.K=K) qQJ): DE K X (.Call (.Name x p) (e::es) [] pos) (Nm sp [] t):=cf (F.mono hle) hr T.m T.k T.b d0 ha hg pY he dO hK
end
theorem bR.u(r:bR k A):A.units+64<cLine:=r.units
section
variable{P:Program}{w:World}{K:Frag}{mg:Str->Option Value}{base:Heap}{x qual:Str}{st:Stmt}{f:Addr}{fd:FuncData}{N ps:List Str}{k:Nat}{sp:iJ}
theorem rP.okl(F:rP K x qual st f fd)(S:eZ N ps<|ae st) (ju:∀(eP:Value)(A:Around)(outer:List Env)(s:Shared)(H:Hp)(E:XK)(ds:List D)(S:ay)(R:KD)(Z:KX),bR k (A.deeper<|PyProof.Rows.envOfC qual (ae st) s.heap.objs.size f eP)->sp ds S R Z->∃t,FL K (jt (fk P w mg) P w K mg base N qual (ae st) f eP A outer s H E) true (bq st) t/\t {nx:=λ_ S'=>Fo S'<|R .av,rt:=λd S'=>Fo S'<|R d} (iK N ds) S λ_ C S'=>Fo S'<|Z C) (len:∀ds S R Z,sp ds S R Z->ds.length=ps.length:=by intro _ _ _ _ h;repeat first|(obtain⟨e,_⟩:=h;rw[e];rfl;done)|obtain⟨_,h⟩:=h):bO P w K mg base (fk P w mg) (k+1) f fd ps (qG K sp):=F.ok S len ju
end
end L2
namespace L2
open PySem PySem.Spec PyProof.Rows PySem.SeqAt
def isStrOf(z:Str):Value->Bool|.str y _=>y==z|_=>false
end L2
namespace L2
open PySem PySem.Spec PyProof.Rows
section
variable{K:Frag}
theorem RvAll.thr(h:RvAll K H [a,b,c] vs):∃x y z,vs=[x,y,z]/\Rv K H a x/\Rv K H b y/\Rv K H c z:=by obtain⟨x,vs1,rfl,h1,h⟩:=h.cons;obtain⟨y,vs2,rfl,h2,h⟩:=h.cons;obtain⟨z,vs3,rfl,h3,h⟩:=h.cons;rw[h.nil];exact⟨x,y,z,rfl,h1,h2,h3⟩
theorem IJ:bootBuiltins "max"= some (.builtin "max"):=by with_unfolding_all rfl
noncomputable def jA:List D->List D->List D->List D|x::xs,y::ys,z::zs=>.tup [x,y,z]::jA xs ys zs|_,_,_=>[]
theorem oi:∀{xs ys zs:List D},xs.length=ys.length->xs.length=zs.length->(jA xs ys zs).length=xs.length|[],_,_,_,_=>by rw[jA.eq_def]|x::xs,y::ys,z::zs,h,k=>congrArg Nat.succ<|oi (yT h)<|yT k
theorem oj:∀{xs ys zs:List D}{i:Nat}{d:D},(jA xs ys zs)[i]?=some d->∃x y z,xs[i]?=some x/\ys[i]?=some y/\zs[i]?=some z/\d=.tup [x,y,z]|x::xs,y::ys,z::zs,0,d,h=>{x,y,z,rfl,rfl,rfl,(zP h).symm}|x::xs,y::ys,z::zs,i+1,d,h=>oj (i:=i) h|[],_,_,i,d,h=>by rw[jA.eq_def]at h;simp at h|_::_,[],_,i,d,h=>by rw[jA.eq_def]at h;simp at h|_::_,_::_,[],i,d,h=>by rw[jA.eq_def]at h;simp at h
def Qg(t:iH):A7:=λσ S R Z=>t σ S (λds S1=>∃xs ys zs,ds=[.tup xs,.tup ys,.tup zs]/\xs.length=ys.length/\xs.length=zs.length/\R {jA xs ys zs,λ_=>True} S1) Z
end
mutual
inductive Dr (S:ay):D->PyData->Prop where
 |av:Dr S .av .none
 |bl (b:Bool):Dr S (.bl b) (.bool b)
 |int (i:Int):Dr S (.int i) (.int i)
 |str (z:Str):Dr S (.str z) (.str z)
 |tup {ds:List D}{ps:List PyData} : mq S ds ps->Dr S (.tup ds) (.tuple ps)
 |ref {a:Addr}{ds:List D}{ps:List PyData} : S a=some (.lst ds)->mq S ds ps->Dr S (.ref a) (.list ps)
inductive mq (S:ay):List D->List PyData->Prop where
 |nil:mq S [] []
 |cons {d:D}{ds:List D}{p:PyData}{ps:List PyData} : Dr S d p->mq S ds ps->mq S (d::ds) (p::ps)
end
section
variable{K:Frag}{H:Hp}{S:ay}
mutual
theorem Dr.dt(hS:Rs K S H):Dr S d p->Rv K H d v->Dt K H p v|.av,r=>by simp only[Dt];exact r.av|.bl b,r=>by simp only[Dt];exact r.bl|.int b,r=>by simp only[Dt];exact r.int|.str b,r=>by simp only[Dt];exact r.str|.tup h,r=>(by obtain⟨a,xs,rfl,q,t⟩:=r.tup;simp only[Dt];exact{a,xs,rfl,.of q,mq.dt hS h t})|.ref e h,r=>by obtain⟨xs,e1,t⟩:=hS.lst e;rw[r.ref];simp only[Dt];exact{_,xs,rfl,.of e1,mq.dt hS h t}
theorem mq.dt(hS:Rs K S H){ds:List D}{ps:List PyData}{vs:List V} : mq S ds ps->RvAll K H ds vs->DtAll K H ps vs|.nil,r=>by rw[r.nil];simp only[DtAll]|.cons h t,r=>by obtain⟨y,ys,rfl,r1,r2⟩:=r.cons;simp only[DtAll];exact{y,ys,rfl,Dr.dt hS h r1,mq.dt hS t r2}
end
end
def Zy(neg:Bool):uR:=λx y S R=>∃p q,Dr S x p/\Dr S y q/\p.canLay0=true/\q.canLay0=true/\(p.depth<=64\/q.depth<=64)/\R (.bl<|if neg then !PyData.eqv p q else PyData.eqv p q) S
section
variable{K:Frag}
theorem U6:n8 K (compareOp .Eq) (Zy false):=by rintro X hK hu pins s σ H x y v u Q I rx ry ⟨d,e,S,R,r1,r2,hS,⟨p,q,h1,h2,c1,c2,dp,h⟩,hR⟩;subst hK;exact HH hu pins s σ H x y v u Q I rx ry {p,q,h1.dt hS r1,h2.dt hS r2,c1,c2,dp,hR.now hS h<|bG _}
theorem ND:n8 K (compareOp .NotEq) (Zy true):=by rintro X hK hu pins s σ H x y v u Q I rx ry ⟨d,e,S,R,r1,r2,hS,⟨p,q,h1,h2,c1,c2,dp,h⟩,hR⟩;subst hK;exact HI hu pins s σ H x y v u Q I rx ry {p,q,h1.dt hS r1,h2.dt hS r2,c1,c2,dp,hR.now hS h<|bG _}
end
theorem rW(h1:Dr S x p)(h2:Dr S y p)(c:p.canLay0=true)(d:p.depth<=64)(q:R (.bl<|!neg) S):Zy neg x y S R:={p,p,h1,h2,c,c,.inl d,by rw[show(if neg then !PyData.eqv p p else PyData.eqv p p)=!neg by rw[SeqAt.eqv_refl p c];cases neg<;>rfl];exact q}
def lP:Stmt->Str|.FunctionDef n _ _ _ _ _ _ _ _ _=>n|_=>Str.empty
def tZ(s:Stmt):List Str:=(bw s).args.map λa=>a.arg
def Ga(K:Frag)(mg:Str->Option Value)(top:Nat->Stmt)(f:Nat->Addr)(d:Nat->FuncData)(l:List Nat):Prop:=∀i∈l,II K mg (lP<|top i) (top i) (tZ<|top i) (f i)<|d i
def B_(K:Frag)(c:Addr)(q:Str)(cl:Stmt)(f:Nat->Addr)(d:Nat->FuncData)(l:List Nat):Prop:=∀i∈l,J3 K c (lP<|inClass cl i) (q++lP (inClass cl i)) (inClass cl i) (tZ<|inClass cl i) (f i)<|d i
section
variable{K:Frag}{h:Heap}{mg:Str->Option Value}{od an:Option Addr}{sl:Array (Option Value)}{oc dV kV dc pm cd ct:Value}{x:Addr}{top:Nat->Stmt}{l:List Nat}{c:Addr}{q:Str}{cl:Stmt}
theorem af(X:K.In h)(G:h.Ns mainGlobals mg)(i:Nat)(ni:i∉l)(a:nsIn K mainGlobals (lP<|top i)=some (some<|.ref x))(o:K.lookup x=some {oc,od,.func<|fnOf (lP<|top i) (lP<|top i) (bw<|top i) (bq<|top i) (ae<|top i) dV kV dc pm an cd ct,sl}) (e:codeIn K cd (lP<|top i)=true) (k:keepIn K (.ref x)=true) (b:∀us:List Value,us.length=(tZ<|top i).length->bindArgs (fnOf (lP<|top i) (lP<|top i) (bw<|top i) (bq<|top i) (ae<|top i) dV kV dc pm an cd ct) {us,[]}=pure ((tZ<|top i).zip us)) (g:∃f d,Ga K mg top f d l):∃f d,Ga K mg top f d (i::l):=by refine fn1 X G _ _ _ a o e k b λd0 F=>?_;obtain⟨f,d,A⟩:=g;refine{λj=>if j=i then x else f j,λj=>if j=i then d0 else d j,λj hj=>?_};by_cases z:j=i;subst z;dsimp only;rw[if_pos rfl,if_pos rfl];exact F;dsimp only;rw[if_neg z,if_neg z];exact A j<|(zj.mp hj).resolve_left z
theorem af0:∃f d,Ga K mg top f d []:={λ_=>0,λ_=>fnOf Str.empty Str.empty (bw<|.Pass {0,0,0,0}) [] (ae<|.Pass {0,0,0,0}) .none .none .none .none none .none .none,λ_ h=>nomatch h}
theorem afx{R:Prop}(_:K.In h)(_:h.Ns mainGlobals mg)(g:∃f d,Ga K mg top f d l)(r:∀f d,Ga K mg top f d l->R):R:=by obtain⟨f,d,A⟩:=g;exact r f d A
theorem amx{R:Prop}(_:qB K c)(g:∃f d,B_ K c q cl f d l)(r:∀f d,B_ K c q cl f d l->R):R:=by obtain⟨f,d,A⟩:=g;exact r f d A
theorem am(C:qB K c)(i:Nat)(ni:i∉l)(a:findIn K (.ref c) (lP<|inClass cl i)=some (some<|.ref x))(w:isFn K (.ref x)=true)(o:K.lookup x=some {oc,od,.func<|fnOf (lP<|inClass cl i) (q++lP (inClass cl i)) (bw<|inClass cl i) (bq<|inClass cl i) (ae<|inClass cl i) dV kV dc pm an cd ct,sl}) (e:codeIn K cd (q++lP (inClass cl i))=true) (k:keepIn K (.ref x)=true) (b:∀us:List Value,us.length=(tZ<|inClass cl i).length->bindArgs (fnOf (lP<|inClass cl i) (q++lP (inClass cl i)) (bw<|inClass cl i) (bq<|inClass cl i) (ae<|inClass cl i) dV kV dc pm an cd ct) {us,[]}=pure ((tZ<|inClass cl i).zip us)) (g:∃f d,B_ K c q cl f d l):∃f d,B_ K c q cl f d (i::l):=by refine fm1 C _ _ _ _ a w o e k b λd0 F=>?_;obtain⟨f,d,A⟩:=g;refine{λj=>if j=i then x else f j,λj=>if j=i then d0 else d j,λj hj=>?_};by_cases z:j=i;subst z;dsimp only;rw[if_pos rfl,if_pos rfl];exact F;dsimp only;rw[if_neg z,if_neg z];exact A j<|(zj.mp hj).resolve_left z
theorem am0:∃f d,B_ K c q cl f d []:={λ_=>0,λ_=>fnOf Str.empty Str.empty (bw<|.Pass {0,0,0,0}) [] (ae<|.Pass {0,0,0,0}) .none .none .none .none none .none .none,λ_ h=>nomatch h}
end
section
variable{K:Frag}{X:Cx}{x q:Str}{st:Stmt}{ps:List Str}{C f:Addr}{fd:FuncData}{sp:iJ}{o e:Expr}{es:List Expr}{apos pos:Pos}{k k':Nat}
theorem tM{t:iH}(he:DE K X o ta)(c:qB K C)(T:J3 K C x q st ps f fd)(F:bO X.prog X.w K X.mg X.base (fk X.prog X.w X.mg) k f fd ps<|qG K sp)(hr:bR k' X.A)(ha:DA K X (e::es) t)(hle:autoParam (k<=k') qJX)
  (xt:autoParam (starEach (e::es) X.env=(false,eval e X.env)::starEach es X.env) qQJ) (dO:autoParam ((backTo pos<|starEach es X.env).any (·.1)=false) qQJ)
  (ht:autoParam (eval (.Call (.Attribute o x apos) (e::es) [] pos) X.env=(do
   let ov <-eval o X.env
   standAt apos.atName
   let (f,first) <-holding [ov] (getMethod ov x pl)
   callWith pos f first (backTo pos<|starEach (e::es) X.env) (backToKw pos<|keywordEach [] X.env))) qQJ) (hK:autoParam (X.K=K) qQJ):
  DE K X (.Call (.Attribute o x apos) (e::es) [] pos) (DY C x sp [] ta t):=Ui he c T.e (F.mono hle) hr T.b d0 ha xt dO ht hK
theorem t5(he:DE K X o ta)(c:qB K C)(T:J3 K C x q st ps f fd)(F:bO X.prog X.w K X.mg X.base (fk X.prog X.w X.mg) k f fd ps<|qG K sp)(hr:bR k' X.A)(hle:autoParam (k<=k') qJX)
  (ht:autoParam (eval (.Call (.Attribute o x apos) [] [] pos) X.env=(do
   let ov <-eval o X.env
   standAt apos.atName
   let (f,first) <-holding [ov] (getMethod ov x pl)
   callWith pos f first (backTo pos<|starEach [] X.env) (backToKw pos<|keywordEach [] X.env))) qQJ) (hK:autoParam (X.K=K) qQJ):
  DE K X (.Call (.Attribute o x apos) [] [] pos) (DY C x sp [] ta LB):=YS he c T.e (F.mono hle) hr T.b d0 ht hK
end
section
variable{K:Frag}{X:Cx}
def U7:D->Option Int->Option Int->ay->KD->Prop:=λx lo hi S R=>match x with|.ref a=>∃ds,S a=some (.lst ds)/\∀p,S p=none->R (.ref p) (S.set p<|.lst<|e_ ds lo hi)|.iB ds=>∀p,S p=none->R (.ref p) (S.set p<|.lst<|e_ ds lo hi)|_=>False
theorem U8(hK:X.K=K):Rh X (λx lo hi H Q=>∃d S R,Rv K H d x/\Rs K S H/\U7 d lo hi S R/\Cn K H R Q):=by rintro pins s σ H x v vl vu lo hi sl Q I rx hs pl pu ⟨d,S,R,r1,hS,h,hR⟩;subst hK;cases d with|ref a=>(obtain⟨ds,e,h⟩:=h;obtain⟨xs,e1,t⟩:=hS.lst e;exact qD pins s σ H _ v vl vu lo hi sl Q I rx hs pl pu {a,xs,r1.ref,.of e1,λp hp=>hR.new hS hp (h p)<|t.cut lo hi})|iB ds=>(obtain⟨a,xs,rfl,q,t⟩:=r1.iB;exact qD pins s σ H _ v vl vu lo hi sl Q I rx hs pl pu {a,xs,rfl,q.sq,λp hp=>hR.new hS hp (h p)<|t.cut lo hi})|_=>exact h.elim
def Zz(te:TD)(tl th:Nh):TD:=λσ S R Z=>te σ S (λx S1=>tl σ S1 (λl S2=>th σ S2 (λu S3=>U7 x l u S3 R) Z) Z) Z
theorem WJ{e:Expr}{lo hi:Option Expr}{te:TD}{tl th:Nh}{p2 pos:Pos}(he:DE K X e te)(hl:DO K X lo tl)(hu:DO K X hi th)(hK:autoParam (X.K=K) qQJ):DE K X (.Subscript e (.Slice lo hi none p2) pos) (Zz te tl th):=
 ⟨λy=>(xA (X:=y.cx) (U8 hK) (he.of y) (hl.of y)<|hu.of y).mono <| by rintro τ H Q ⟨σ,S,R,Z,aC,hS,q,hR,hZ⟩;exact
  ⟨σ,S,_,Z,aC,hS,q,λd S1 x H1 r1 v1 s1 k1=>⟨σ,S1,_,Z,aC.ts k1,s1,r1,λl S2 H2 r2 s2 k2=>⟨σ,S2,_,Z,aC.ts<|k1.trans k2,s2,r2,λu S3 H3 r3 s3 k3=>⟨d,S3,R,Rv.ts (k2.trans k3) _ v1,s3,r3,hR.kp<|(k1.trans k2).trans k3⟩,hZ.kp<|k1.trans k2⟩,hZ.kp k1⟩,hZ⟩⟩
def ZA:uR:=λx y S R=>match x,y with|.int i,.int j=>R (.int<|i+j) S|.str a,.str b=>a.length+b.length<=sizeLine/\R (.str<|a++b) S|.ref a,.ref b=>∃xs ys,S a=some (.lst xs)/\S b=some (.lst ys)/\xs.length+ys.length<=sizeLine/\∀p,S p=none->R (.ref p) (S.set p<|.lst<|xs++ys)|_,_=>False
theorem bM:n8 K (binaryOp .Add) ZA:=by rintro X hK hu pins s σ H x y v u Q I rx ry ⟨d,e,S,R,r1,r2,hS,h,hR⟩;subst hK;cases d<;>cases e<;>first|exact False.elim h|exact Hh pins s σ H x y v u Q I rx ry {_,_,r1.int,r2.int,hR.now hS h<|aN _}|exact rh pins s σ H x y v u Q I rx ry {_,_,r1.str,r2.str,h.1,hR.now hS h.2<|gE _}|skip;obtain⟨xs,ys,e1,e2,hl,q⟩:=h;obtain⟨vs,h1,t1⟩:=hS.lst e1;obtain⟨ws,h2,t2⟩:=hS.lst e2;exact Hs pins s σ H x y v u Q I rx ry {_,_,vs,ws,r1.ref,r2.ref,h1,h2,by rw[t1.len,t2.len];exact hl,λp hp=>hR.new hS hp (q p)<|t1.app t2}
end
structure W(sp:iJ)(ds:List D)(S:ay)(R:KD)(Z:KX):Prop where
 of:sp ds S R Z
def ZC(s:Stmt):List Str:=((ae s).names.filter λp=>p.2==.local||p.2==.cell).map (·.1)
theorem bK(s:Stmt)(a:autoParam ((ae s).kind=.function/\(ae s).isCoroutine=false/\(ae s).isGenerator=false/\(ZC s).take (tZ s).length=tZ s) qQ4)(b:autoParam ((ZC s).Nodup/\(∀x∈tZ s,(ae s).names.lookup x=some .local\/(ae s).names.lookup x=some .cell)/\∀y∈(ae s).names,y.2≠.free) qJ3):eZ (ZC s) (tZ s) (ae s):=fsc a b
section
variable{P:Program}{w:World}{K:Frag}{mg:Str->Option Value}{base:Heap}{x qual:Str}{st:Stmt}{f:Addr}{fd:FuncData}{N ps:List Str}{k:Nat}{sp:iJ}
theorem rP.ck(F:rP K x qual st f fd)(S:eZ N ps<|ae st) (ju:∀(eP:Value)(A:Around)(outer:List Env)(s:Shared)(H:Hp)(E:XK)(ds:List D)(S:ay)(R:KD)(Z:KX),bR k (A.deeper<|PyProof.Rows.envOfC qual (ae st) s.heap.objs.size f eP)->sp ds S R Z->∃t,FL K (jt (fk P w mg) P w K mg base N qual (ae st) f eP A outer s H E) true (bq st) t/\t {nx:=λ_ S'=>Fo S'<|R .av,rt:=λd S'=>Fo S'<|R d} (iK N ds) S λ_ C S'=>Fo S'<|Z C) (len:∀ds S R Z,sp ds S R Z->ds.length=ps.length:=by intro _ _ _ _ h;first|(cases h;subst_vars;rfl;done)|(repeat first|(obtain⟨e,_⟩:=h;rw[e];rfl;done)|obtain⟨_,h⟩:=h)):bO P w K mg base (fk P w mg) (k+1) f fd ps (qG K sp):=F.ok S len ju
end
section
variable{R:Prop}{K:Frag}{h:Heap}{mg:Str->Option Value}{od an:Option Addr}{sl:Array (Option Value)}{oc kV dc pm cd ct:Value}{f da:Addr}{NB:Option Addr}{dn:Nat}{NC:Array (Option Value)}
theorem U9(X:K.In h)(G:h.Ns mainGlobals mg)(x:Str)(st:Stmt)(ps:List Str)(ar:Array Value)(a:nsIn K mainGlobals x=some (some<|.ref f))(l:K.lookup f=some {oc,od,.func<|fnOf x x (bw st) (bq st) (ae st) (.ref da) kV dc pm an cd ct,sl}) (t:K.lookup da=some {.type "tuple",NB,.seq ar dn,NC}) (e:codeIn K cd x=true) (k:keepIn K (.ref f)=true) (b:∀(s:Shared) (us:List Value),s.heap.get? da=some {.type "tuple",NB,.seq ar dn,NC}->us.length=ps.length->BindsTo s (fnOf x x (bw st) (bq st) (ae st) (.ref da) kV dc pm an cd ct) {us,[]} (ps.zip us)) (b2:∀(s:Shared) (us:List Value),s.heap.get? da=some {.type "tuple",NB,.seq ar dn,NC}->us.length+1=ps.length->BindsTo s (fnOf x x (bw st) (bq st) (ae st) (.ref da) kV dc pm an cd ct) {us,[]} (ps.zip<|us++[.none])) (g:∀d,II K mg x st ps f d->Binds K d ps [.none]->R):R:=g _ {{{_,_,_,_,_,_,_,_,_,_,rfl,l,e},λs us hK hl=>by rw[List.append_nil]at hl⊢;exact b s us (hK _ _ t) hl},k,mg_of X G a} λs us hK hl=>b2 s us (hK _ _ t)<|by simpa using hl
end
noncomputable def fq(N:Nat)(v:Nat->Value):Array Value:=((List.range N).map v).toArray
structure ZN(n N:Nat)(l:Nat->Addr)(i:Nat)(h:Heap):Prop where
 z:IsZip h (n+N+2) (n+N) (n+N+1) .none
 t:mE h (n+N) (fq N λj=>.ref<|n+j)
 o:∃arr:Array Value,arr.size=N/\mE h (n+N+1) arr
 it:∀j,j<N->h.IsTupleIter (n+j) (l j) i
theorem kh:(fq N v).size=N:=by unfold fq;simp
theorem jB:(fq N v).toList.length=N:=by unfold fq;simp
theorem L6(h:arr.size=N)(e:∀j,j<N->arr[j]?=some (v j)):arr=fq N v:=by refine Array.ext (by rw[h,kh]) λj h1 h2=>?_;have:=e j (by lia);rw[Array.getElem?_eq_getElem h1]at this;rw[zP this];simp[fq]
section
variable{prog:Program}{w:World}{A:Around}{E:Value->Shared->Prop}{s:Shared}{n N:Nat}{l:Nat->Addr}{i:Nat}{xs:Nat->Array Value}
theorem Gb{v:Nat->Value}{Q:Value->Shared->Prop}(h1:1<=N)(h3:N<=3)(lt:∀j,j<N->l j<n)(hs:ZN n N l i s.heap)(tu:∀j,j<N->s.heap.IsTuple (l j) (xs j))(ev:∀j,j<N->(xs j)[i]?=some (v j)) (hQ:∀h',IsZip h' (n+N+2) (n+N) (n+N+1) (rawInt s.heap.objs.size)->mE h' (n+N+1) (fq N v)->(∀j,j<N->h'.IsTupleIter (n+j) (l j) (i+1))->mE h' s.heap.objs.size (fq N v)->(∀c o,c≠n+N+2->c≠n+N+1->(∀j,j<N->c≠n+j)->s.heap.get? c=some o->h'.get? c=some o)->Q (.ref s.heap.objs.size) {s with heap:=h'}): wpAny (model prog w) A (Builtin.«zip.__next__» {[.ref<|n+N+2],[]}) (λfin s'=>∃v,fin=.done (.ret v)/\Q v s') E s:=by
 obtain⟨hz,hI,⟨arr,na,hO⟩,hit⟩:=hs;show wpAny _ _ (field (.ref<|n+N+2) 2 >>=_) _ _ _;refine zc<|zU hz rfl (x:=.bool false) rfl ?_;show wpAny _ _ (field (.ref<|n+N+2) 3 >>=_) _ _ _;refine zc<|zU hz rfl (x:=.ref<|n+N) rfl ?_;refine zc<|wpAny_seqItems hI rfl ?_;have he:(fq N λj=>Value.ref<|n+j).isEmpty=false:=by rw[Array.isEmpty_eq_false_iff];intro e;have:=congrArg Array.size e;rw[kh]at this;simp at this;lia
 dsimp only;rw[if_neg<|by rw[he];exact zd];refine zc ?_;unfold Builtin.SmallTypes.ownedTupleIsFree;refine zc<|zU hz rfl (x:=.none) rfl<|zm ?_;simp only[if_true];refine zc<|wpAny_rule ?_;refine zc<|zU hz rfl (x:=.ref<|n+N+1) rfl ?_;refine zc<|wpAny_setField_rec hz (by simp) λh0 Qh q0=>?_;replace Qh:IsZip h0 (n+N+2) (n+N) (n+N+1) .ellipsis:=Qh;have k0:∀c o,c≠n+N+2->s.heap.get? c=some o->h0.get? c=some o:=λc o d e=>q0.extBut _ _ d e;refine zc<|wpAny_forIn_list _ (λrest b s'=>∃(k:Nat)(h':Heap)(a':Array Value),k<=N/\rest=((fq N λj=>Value.ref<|n+j).toList.zipIdx).drop k/\b=(none,())/\s'={s with heap:=h'}/\mE h' (n+N+1) a'/\a'.size=N/\(∀j,j<k->a'[j]?=some (v j))/\(∀j,j<N->h'.IsTupleIter (n+j) (l j) (if j<k then i+1 else i))/\IsZip h' (n+N+2) (n+N) (n+N+1) .ellipsis/\h'.objs.size=s.heap.objs.size/\(∀c o,c≠n+N+2->c≠n+N+1->(∀j,j<N->c≠n+j)->s.heap.get? c=some o->h'.get? c=some o)) _ ?_ ?_ _ _ ?_;rintro x rest b s' ⟨k,h',a',hk,e1,rfl,rfl,O,ha,hv,J,Z,sz,kp⟩;have eC:k<N:=by have:=congrArg List.length e1;rw[zN,yC,List.length_zipIdx,jB]at this;lia
 have e2:((fq N λj=>Value.ref<|n+j).toList.zipIdx).drop k=(Value.ref<|n+k,k)::((fq N λj=>Value.ref<|n+j).toList.zipIdx).drop (k+1):=by rw[yd<|by rw[List.length_zipIdx,jB];exact eC];simp[fq]
 rw[e2]at e1;cases e1;have lk:@LT.lt Nat _ (l k) n:=lt k eC;have Jk:=J k eC;rw[if_neg<|yy _]at Jk;have T0:Heap.IsTuple h' (l k) (xs k):=by obtain⟨o,a1,a2⟩:=tu k eC;exact{o,kp _ _ (by show @Ne Nat _ _;lia) (by show @Ne Nat _ _;lia) (λj _=>by show @Ne Nat _ _;lia) a1,a2}
 refine zc<|wpAny_onRaise ?_;show wpAny _ _ (Builtin.SmallTypes.nextOf (.ref<|n+k) >>=_) _ _ _;refine zc<|BJ (s:={s with heap:=h'}) Jk T0 (ev k eC) λg1 m0 q1=>zm ?_;have O1:mE g1 (n+N+1) a':=q1.extBut _ _ (by show @Ne Nat _ _;lia) O;refine zc<|wpAny_seqItems (s:={s with heap:=g1}) O1 rfl ?_;refine zc<|FE (s:={s with heap:=g1}) O1 (by lia) λg2 O2 q2=>?_;refine zc<|wpAny_letGo<|zm ?_;refine{k+1,g2,_,eC,rfl,rfl,rfl,O2,by rw[Array.size_setIfInBounds];exact ha,λj hj=>?_,λj hj=>?_,q2.extBut _ _ (by show @Ne Nat _ _;lia)<|q1.extBut _ _ (by show @Ne Nat _ _;lia) Z,by rw[q2.1,q1.1];exact sz,λc o d1 d2 d3 e=>q2.extBut _ _ d2<|q1.extBut _ _ (d3 k eC)<|kp c o d1 d2 d3 e};by_cases z:j=k;subst z;rw[Array.getElem?_setIfInBounds_self_of_lt<|by lia];rw[Array.getElem?_setIfInBounds_ne<|Ne.symm z];exact hv j (by lia);by_cases z:j=k;subst z;rw[if_pos<|yH _];exact vQ q2.extBut (by show @Ne Nat _ _;lia) m0;have:=J j hj;rw[show(if j<k+1 then i+1 else i)=if j<k then i+1 else i by by_cases y:j<k;rw[if_pos y,if_pos<|by lia];rw[if_neg y,if_neg<|by lia]];exact vQ q2.extBut (by show @Ne Nat _ _;lia)<|vQ q1.extBut (by show @Ne Nat _ _;lia) this;rintro b s' ⟨k,h',a',hk,e1,rfl,rfl,O,ha,hv,J,Z,sz,kp⟩;have eC:k=N:=by have:=congrArg List.length e1;rw[List.length_nil,yC,List.length_zipIdx,jB]at this;lia
 subst eC;have ea:=L6 ha hv;subst ea;refine zc<|wpAny_seqItems (s:={s with heap:=h'}) O rfl ?_;refine zc<|wpAny_newTuple ?_ (hsz:=by rw[jB];exact Yo h3);have lz:n+k+2<h'.objs.size:=zx Z;show wpAny _ _ (Builtin.SmallTypes.ownedTupleHandOut (.ref<|n+k+2) (.ref h'.objs.size) >>=_) _ _ _;refine zc ?_;unfold Builtin.SmallTypes.ownedTupleHandOut;have hzM:IsZip (h'.push {cls:=.type "tuple",data:=.seq<|fq k v}) (n+k+2) (n+k) (n+k+1) .ellipsis:=za _ Z;refine zc<|wpAny_setField_rec (s:={s with heap:=h'.push {cls:=.type "tuple",data:=.seq<|fq k v}}) hzM (by simp) λg1 RN r1=>?_;replace RN:IsZip g1 (n+k+2) (n+k) (n+k+1) (rawInt h'.objs.size):=RN;refine wpAny_setField_rec (s:={s with heap:=g1}) RN (by simp) λg2 Iw r2=>?_;replace Iw:IsZip g2 (n+k+2) (n+k) (n+k+1) (rawInt h'.objs.size):=Iw;have up:∀c o,c≠n+k+2->h'.get? c=some o->g2.get? c=some o:=λc o d e=>r2.extBut _ _ d<|r1.extBut _ _ d<|za _ e;have hT:mE g2 h'.objs.size (fq k v):=r2.extBut _ _ (ym lz)<|r1.extBut _ _ (ym lz)<|zk _ rfl;rw[sz]at Iw hT;refine zm !⟨?_⟩;show Q (.ref h'.objs.size) _;rw[sz];refine hQ g2 Iw (up _ _ (by show @Ne Nat _ _;lia) O) (λj hj=>?_) hT λc o d1 d2 d3 e=>up c o d1<|kp c o d1 d2 d3 e;have:=J j hj;rw[if_pos hj]at this;exact Nc (λo e=>up _ o (by show @Ne Nat _ _;lia) e) this;refine{0,h0,arr,zY _,rfl,rfl,rfl,k0 _ _ (by show @Ne Nat _ _;lia) hO,na,λj hj=>absurd hj<|Nat.not_lt_zero _,λj hj=>?_,Qh,q0.1,λc o d _ _ e=>k0 c o d e};rw[if_neg<|Nat.not_lt_zero _];obtain⟨o,a1,a2⟩:=hit j hj;exact{o,k0 _ _ (by show @Ne Nat _ _;lia) a1,a2}
theorem IK(h1:1<=N)(hh:A.handled=none)(hs:ZN n N l i s.heap)(lt:l 0<n)(t0:s.heap.IsTuple (l 0)<|xs 0)(e0:(xs 0)[i]?=none) (hE:∀h' e,(∀c o,c≠n+N+2->c≠n+0->s.heap.get? c=some o->h'.get? c=some o)->(∃o,h'.get? e=some o/\o.cls=.type "StopIteration")->E (.ref e) {s with heap:=h'}): wpAny (model prog w) A (Builtin.«zip.__next__» {[.ref<|n+N+2],[]}) Q E s:=by
 obtain⟨hz,hI,⟨arr,na,hO⟩,hit⟩:=hs;show wpAny _ _ (field (.ref<|n+N+2) 2 >>=_) _ _ _;refine zc<|zU hz rfl (x:=.bool false) rfl ?_;show wpAny _ _ (field (.ref<|n+N+2) 3 >>=_) _ _ _;refine zc<|zU hz rfl (x:=.ref<|n+N) rfl ?_;refine zc<|wpAny_seqItems hI rfl ?_;have he:(fq N λj=>Value.ref<|n+j).isEmpty=false:=by rw[Array.isEmpty_eq_false_iff];intro e;have:=congrArg Array.size e;rw[kh]at this;simp at this;lia
 dsimp only;rw[if_neg<|by rw[he];exact zd];refine zc ?_;unfold Builtin.SmallTypes.ownedTupleIsFree;refine zc<|zU hz rfl (x:=.none) rfl<|zm ?_;simp only[if_true];refine zc<|wpAny_rule ?_;refine zc<|zU hz rfl (x:=.ref<|n+N+1) rfl ?_;refine zc<|wpAny_setField_rec hz (by simp) λh0 Qh q0=>?_;replace Qh:IsZip h0 (n+N+2) (n+N) (n+N+1) .ellipsis:=Qh;have lk:@LT.lt Nat _ (l 0) n:=lt;have J0:Heap.IsTupleIter h0 (n+0) (l 0) i:=by obtain⟨o,a1,a2⟩:=hit 0 h1;exact{o,q0.extBut _ _ (by show @Ne Nat _ _;lia) a1,a2}
 have T0:Heap.IsTuple h0 (l 0) (xs 0):=by obtain⟨o,a1,a2⟩:=t0;exact{o,q0.extBut _ _ (by show @Ne Nat _ _;lia) a1,a2}
 have e2:(fq N λj=>Value.ref<|n+j).toList.zipIdx=(Value.ref<|n+0,0)::((fq N λj=>Value.ref<|n+j).toList.zipIdx).drop 1:=by have:=yd (l:=(fq N λj=>Value.ref<|n+j).toList.zipIdx) (i:=0) (by rw[List.length_zipIdx,jB];exact h1);rw[List.drop_zero]at this;rw[this];simp[fq]
 rw[e2,List.forIn_cons];refine zc<|zc<|zc<|wpAny_onRaise ?_;show wpAny _ _ (Builtin.SmallTypes.nextOf (.ref<|n+0) >>=_) _ _ _;refine zc<|rJ (s:={s with heap:=h0}) hh J0 T0 e0 λh1 e q1 he=>?_;obtain⟨oe,ZD,hce⟩:=he;have RN:IsZip h1 (n+N+2) (n+N) (n+N+1) .ellipsis:=q1 _ _ (by show @Ne Nat _ _;lia) Qh;have ez:e≠n+N+2:=λx=>by subst x;rw[RN]at ZD;cases ZD;simp at hce
 refine wpAny_setField_rec (s:={s with heap:=h1}) RN (by simp) λh2 _ q2=>hE h2 e (λc o dz d0 x=>q2.extBut _ _ dz<|q1 _ _ d0<|q0.extBut _ _ dz x) {oe,q2.extBut _ _ ez ZD,hce}
end
noncomputable def Qi(K:Frag)(N:Nat)(l:Nat->Addr):It:={λi H=>∃(xs:Nat->List V)(x:Nat->V),∀j,j<N->gT K H (l j) (xs j)/\(xs j)[i]?=some (x j),λi H y H'=>∃T,H T=none/\y=.ref T/\∀(xs:Nat->List V)(x:Nat->V),(∀j,j<N->gT K H (l j) (xs j)/\(xs j)[i]?=some (x j))->H'=upd H T (.tup<|(List.range N).map x),λi H=>∃xs:Nat->List V,(∀j,j<N->gT K H (l j) (xs j))/\(xs 0).length<=i}
noncomputable def RO(n N:Nat):List Addr:=(List.range<|N+3).map λj=>n+j
theorem qJ(h:b∈RO n N):∃j,j<N+3/\b=n+j:=by obtain⟨j,hj,e⟩:=ze.mp h;exact{j,zQ.mp hj,e.symm}
theorem ft(h:j<N+3):(n+j:Nat)∈RO n N:=ze.mpr {j,zQ.mpr h,rfl}
theorem Ca(h:∀j,j<N->RelV (x j) (u j)):Vals ((List.range N).map x) ((List.range N).map u):=by
 have:∀l:List Nat,(∀j∈l,j<N)->Vals (l.map x) (l.map u):=by intro l;induction l with|nil=>exact λ_=>.nil|cons a l ih=>exact λhl=>.cons (h a<|hl a zr)<|ih λj hj=>hl j<|zg _ hj
 exact this _ λj hj=>zQ.mp hj
theorem u3{P:Program}{w:World}{K:Frag}{es:List Expr}{kk:Nat}{tp:Pos}{n N:Nat}{l:Nat->Addr}(h1:1<=N)(h3:N<=3)(lt:∀j,j<N->l j<n):Turn P w K (.Tuple es kk tp) (Qi K N l) (RO n N) (n+N+2) (ZN n N l) where
 mem:=ft (j:=N+2)<|by lia
 obj:=λi h st b hb=>by
  obtain⟨j,hj,rfl⟩:=qJ hb
  by_cases q:j<N
  ·obtain⟨o,e,c,d⟩:=st.it j q;exact{o,e,λv z=>by rw[d]at z;cases z}
  ·obtain⟨arr,na,hO⟩:=st.o
   have:j=N\/j=N+1\/j=N+2:=by lia
   rcases this with rfl|rfl|rfl
   ·exact{_,st.t,λv z=>by cases z}
   ·exact{_,hO,λv z=>by cases z}
   ·exact{_,st.z,λv z=>by cases z}
 keep:=λi h h' st k=>by
  obtain⟨hz,hI,⟨arr,na,hO⟩,J⟩:=st
  exact{k _ (ft (j:=N+2)<|by lia) _ hz,k _ (ft (j:=N)<|by lia) _ hI,{arr,na,k _ (ft (j:=N+1)<|by lia) _ hO},λj hj=>Nc (λo e=>k _ (ft<|by lia) o e)<|J j hj}
 item:=by
  intro X hP hw hK hc i pins s σ H E I hf st hg
  subst hP hw hK
  obtain⟨xs,x,hx⟩:=hg
  have ex:∀j,∃(az:List Value)(u:Value),j<N->Vals (xs j) az/\s.heap.IsTuple (l j) az.toArray/\az[i]?=some u/\RelV (x j) u:=λj=>by
   by_cases q:j<N
   ·obtain⟨az,rv,p,_⟩:=I.tuple (hx j q).1
    obtain⟨u,hu,ru⟩:=rv.get (hx j q).2
    exact{az,u,λ_=>⟨rv,p,hu,ru⟩}
   ·exact{[],.none,λh=>absurd h q}
  have fx:=Classical.axiomOfChoice ex
  obtain⟨az,fx⟩:=fx
  obtain⟨u,fx⟩:=Classical.axiomOfChoice fx
  have hT:s.TypeIs (.ref<|n+N+2) "zip":={_,st.z,rfl}
  have lz:@LT.lt Nat _ (n+N+2) s.heap.objs.size:=zx st.z
  unfold pyNext
  refine zc<|wpAny_attempt<|wpAny_callSpecial?_slot (name:=Str.ofString "__next__") hT F.slot_zip_next<|yD F.slot_zip_next hT F.entry_zip_next (Gb h1 h3 lt st (xs:=λj=>(az j).toArray) (v:=u) (λj hj=>(fx j hj).2.1) (λj hj=>by simpa using (fx j hj).2.2.1) λg1 z1 O1 m1 T1 kp=>zm !⟨?_⟩)<|F.args_zip_next_1 _
  refine wpAny_letOwnedTupleGo_zip (s:={s with heap:=g1}) z1 λg2 z2 r2=>?_
  have Rr:∀c o,c∉RO n N->s.heap.get? c=some o->g2.get? c=some o:=λc o hc e=>r2.extBut _ _ (λz=>hc<|z ▸ ft (j:=N+2) (by lia))<|kp c o (λz=>hc<|z ▸ ft (j:=N+2) (by lia)) (λz=>hc<|z ▸ ft (j:=N+1) (by lia)) (λj hj z=>hc<|z ▸ ft (by lia)) e
  have T2:mE g2 s.heap.objs.size (fq N u):=r2.extBut _ _ (ym lz) T1
  have I2:Inv X pins σ (upd H s.heap.objs.size<|.tup<|(List.range N).map x) {s with heap:=g2}:=I.DQ (t':=s.toks) (RO n N) hf Rr (Heap.get?_none_of_le<|zo _) {by rw[zb,List.length_range];exact Yn<|zG h3<|by decide,_,Ca λj hj=>(fx j hj).2.2.2,{_,T2,rfl,rfl,_,rfl}}
  refine{.ref s.heap.objs.size,_,I2,rfl,{_,I.aQ.fresh<|zo _,rfl,λys y hy=>?_},{z2,?_,{_,kh,r2.extBut _ _ (by show @Ne Nat _ _;lia) O1},λj hj=>vQ r2.extBut (by show @Ne Nat _ _;lia)<|m1 j hj},λb hb=>?_}
  ·congr 2
   refine z0 λj hj=>?_
   have hj:=zQ.mp hj
   have:=I.nU (hy j hj).1 (hx j hj).1
   have e:=(hy j hj).2
   rw[this,(hx j hj).2]at e
   exact zP e
  ·exact r2.extBut _ _ (by show @Ne Nat _ _;lia) (kp _ _ (by show @Ne Nat _ _;lia) (by show @Ne Nat _ _;lia) (λj hj=>by show @Ne Nat _ _;lia) st.t)
  ·obtain⟨j,hj,rfl⟩:=qJ hb
   rw[ax<|by show @Ne Nat _ _;lia]
   exact(hf _ hb).1
 done:=by
  intro X hP hw hK hc i pins s σ H E I hf st hg
  subst hP hw hK
  obtain⟨xs,hx,hl⟩:=hg
  obtain⟨IL,ZE,p0,_⟩:=I.tuple<|hx 0 h1
  have hT:s.TypeIs (.ref<|n+N+2) "zip":={_,st.z,rfl}
  have WK:=ZE.length
  unfold pyNext
  refine zc<|wpAny_attempt<|wpAny_callSpecial?_slot (name:=Str.ofString "__next__") hT F.slot_zip_next<|yD F.slot_zip_next hT F.entry_zip_next (IK h1 (I.ok.hd hc) st (lt 0 h1) (xs:=λ_=>IL.toArray) p0 (by simp;lia) λh1 e kp he=>?_)<|F.args_zip_next_1 _
  obtain⟨o,ho,LP⟩:=he
  refine zc<|wpAny_isInstance (T:="StopIteration") (b:=true) ⟨o,ho,LP⟩ isSubtype_stop<|zm {rfl,?_}
  exact I.DP (t':=s.toks) (RO n N) hf λc o hc e=>kp c o (λz=>hc<|z ▸ ft (j:=N+2) (by lia)) (λz=>hc<|z ▸ ft (j:=0) (by lia)) e
 self:=λA' i s Q E st h=>wpAny_pyIter_zip st.z h
noncomputable def two(a b:Addr):Nat->Addr:=λj=>if j=0 then a else b
noncomputable def Qj(a b c:Addr):Nat->Addr:=λj=>if j=0 then a else if j=1 then b else c
theorem WL{p:Nat->Prop}(h0:p 0)(h1:p 1):∀j,j<2->p j|0,_=>h0|1,_=>h1|j+2,h=>by lia
theorem WM{p:Nat->Prop}(h0:p 0)(h1:p 1)(h2:p 2):∀j,j<3->p j|0,_=>h0|1,_=>h1|2,_=>h2|j+3,h=>by lia
section
variable{X:Cx}{a b c:Expr}{ta:TA}{p pos tp:Pos}{es:List Expr}{kk:Nat}
theorem Ql(hg:Gl X "zip")(hm:X.mg "zip"= none)(ha:PA X [a,b] ta)(hs:starEach [a,b] X.env=[(false,eval a X.env),(false,eval b X.env)])(xu:starEach [b] X.env=[(false,eval b X.env)]): PI X (.Tuple es kk tp) (.Call (.Name "zip" p) [a,b] [] pos) (λσ H R=>ta σ H λvs H1=>∃l0 l1,vs=[.ref l0,.ref l1]/\(∃xs,gT X.K H1 l0 xs)/\(∃xs,gT X.K H1 l1 xs)/\R (Qi X.K 2<|two l0 l1) H1):=by intro pins s σ H R I h;refine Call_<|fj I hg hm boot_zip<|PyProof.Rows.callWith_type1 (bz (ha pos pins s σ H _ I h) λus s1 ⟨vs,H1,I1,r1,q1⟩=>?_) (by rw[hs,xu]) (by rw[xu];rfl);obtain⟨l0,l1,e,⟨BK,q0⟩,⟨BL,q2⟩,q⟩:=q1;subst e;obtain⟨u,v,rfl,r,r'⟩:=r1.two;cases r;cases r';obtain⟨IL,ZE,p0,_⟩:=I1.tuple q0;obtain⟨Qm,US,p1,_⟩:=I1.tuple q2;refine BO (show s1.heap.IsTuple l0 IL.toArray from p0) (show s1.heap.IsTuple l1 Qm.toArray from p1) λh' zs kp=>?_;have zn:ZN s1.heap.objs.size 2 (two l0 l1) 0 h':={zs.1,zs.2.1,zs.2.2.1,WL zs.2.2.2.1 zs.2.2.2.2};refine wpAny_pyIter_zip (s:={s1 with heap:=h'}) zs.1 {_,_,_,_,H1,rfl,I1.kept (t':=s1.toks) kp,u3 (by decide) (by decide)<|WL p0.lt p1.lt,zn,λb hb=>?_,q};obtain⟨j,_,rfl⟩:=qJ hb;exact I1.nV (Nat.le_add_right _ _)<|I1.aQ.fresh<|Nat.le_add_right _ _
theorem Qn(hg:Gl X "zip")(hm:X.mg "zip"= none)(ha:PA X [a,b,c] ta)(hs:starEach [a,b,c] X.env=[(false,eval a X.env),(false,eval b X.env),(false,eval c X.env)])(xu:starEach [b,c] X.env=[(false,eval b X.env),(false,eval c X.env)]): PI X (.Tuple es kk tp) (.Call (.Name "zip" p) [a,b,c] [] pos) (λσ H R=>ta σ H λvs H1=>∃l0 l1 l2,vs=[.ref l0,.ref l1,.ref l2]/\(∃xs,gT X.K H1 l0 xs)/\(∃xs,gT X.K H1 l1 xs)/\(∃xs,gT X.K H1 l2 xs)/\R (Qi X.K 3<|Qj l0 l1 l2) H1):=by intro pins s σ H R I h;refine Call_<|fj I hg hm boot_zip<|PyProof.Rows.callWith_type1 (bz (ha pos pins s σ H _ I h) λus s1 ⟨vs,H1,I1,r1,q1⟩=>?_) (by rw[hs,xu]) (by rw[xu];rfl);obtain⟨l0,l1,l2,e,⟨BK,q0⟩,⟨BL,q2⟩,⟨Rp,q3⟩,q⟩:=q1;subst e;obtain⟨u,v,z,rfl,r,r',r''⟩:=r1.three;cases r;cases r';cases r'';obtain⟨IL,ZE,p0,_⟩:=I1.tuple q0;obtain⟨Qm,US,p1,_⟩:=I1.tuple q2;obtain⟨p5,RJ,p2,_⟩:=I1.tuple q3;refine BV (show s1.heap.IsTuple l0 IL.toArray from p0) (show s1.heap.IsTuple l1 Qm.toArray from p1) (show s1.heap.IsTuple l2 p5.toArray from p2) λh' zs kp=>?_;have zn:ZN s1.heap.objs.size 3 (Qj l0 l1 l2) 0 h':={zs.1,zs.2.1,zs.2.2.1,WM zs.2.2.2.1 zs.2.2.2.2.1 zs.2.2.2.2.2};refine wpAny_pyIter_zip (s:={s1 with heap:=h'}) zs.1 {_,_,_,_,H1,rfl,I1.kept (t':=s1.toks) kp,u3 (by decide) (by decide)<|WM p0.lt p1.lt p2.lt,zn,λb hb=>?_,q};obtain⟨j,_,rfl⟩:=qJ hb;exact I1.nV (Nat.le_add_right _ _)<|I1.aQ.fresh<|Nat.le_add_right _ _
end
section
variable{K:Frag}{X:Cx}{a c e:Expr}{t:iH}{p pos tp:Pos}{es:List Expr}{kk:Nat}
theorem WN(hm:X.mg "zip"= none)(ha:DA K X [a,c] t)(hg:autoParam (Gl X "zip") qQJ)(hs:autoParam (starEach [a,c] X.env=[(false,eval a X.env),(false,eval c X.env)]) qQJ)(xu:autoParam (starEach [c] X.env=[(false,eval c X.env)]) qQJ)(hK:autoParam (X.K=K) qQJ): DI K X (.Tuple es kk tp) (.Call (.Name "zip" p) [a,c] [] pos) (UA t):=by subst hK;exact⟨λy=>(Ql (X:=y.cx) hg hm (ha.of y) hs xu).mono λτ H R ⟨σ,S,RI,Z,aC,hS,q,hR,hZ⟩=>{σ,S,_,Z,aC,hS,q,λds S1 vs H1 ⟨xs,ys,e,hl,r1⟩ v1 s1 k1=>by subst e;obtain⟨v,u,rfl,ra,rb⟩:=v1.two;obtain⟨a,va,rfl,qa,ta⟩:=ra.tup;obtain⟨b,vb,rfl,qb,tb⟩:=rb.tup;refine{a,b,rfl,{va,.of qa},{vb,.of qb},hR _ S1 _ H1 r1 (λi S2 H2 k2 s2 _=>?_) s1 k1};have U_:gT X.K H2 a va:=.of<|k2.t _ _ qa;have Va:gT X.K H2 b vb:=.of<|k2.t _ _ qb;have la:va.length=xs.length:=ta.len;let f:Nat->List V:=λj=>if j=0 then va else vb;refine{λd hd=>?_,λh=>{f,WL U_ Va,by show va.length<=i;unfold bc at h;rw[List.length_zipWith]at h;lia}};unfold bc at hd;obtain⟨x,y',e1,e2,e3⟩:=List.getElem?_zipWith_eq_some.mp hd;subst e3;obtain⟨vx,f1,g1⟩:=(RvAll.ts k2 _ ta).get e1;obtain⟨vy,f2,g2⟩:=(RvAll.ts k2 _ tb).get e2;let g:Nat->V:=λj=>if j=0 then vx else vy;have ok:∀j,j<2->gT X.K H2 (two a b j) (f j)/\(f j)[i]?=some (g j):=WL ⟨U_,f1⟩ ⟨Va,f2⟩;refine{⟨f,g,ok⟩,λx' H' ⟨T,hT,e4,e5⟩=>?_};have:=e5 f g ok;subst this e4;have kk:Kp X.K H2 (upd H2 T<|.tup [vx,vy]):=.new hT;exact{iE aE<|RvAll.ts kk _<|aS g1<|aS g2 bD,kk,s2.grow hT},hZ}⟩
theorem ZF(hm:X.mg "zip"= none)(ha:DA K X [a,c,e] t)(hg:autoParam (Gl X "zip") qQJ)(hs:autoParam (starEach [a,c,e] X.env=[(false,eval a X.env),(false,eval c X.env),(false,eval e X.env)]) qQJ)(xu:autoParam (starEach [c,e] X.env=[(false,eval c X.env),(false,eval e X.env)]) qQJ)(hK:autoParam (X.K=K) qQJ): DI K X (.Tuple es kk tp) (.Call (.Name "zip" p) [a,c,e] [] pos) (Qg t):=by subst hK;exact⟨λy=>(Qn (X:=y.cx) hg hm (ha.of y) hs xu).mono λτ H R ⟨σ,S,RI,Z,aC,hS,q,hR,hZ⟩=>{σ,S,_,Z,aC,hS,q,λds S1 vs H1 ⟨xs,ys,zs,e,hl,vJ,r1⟩ v1 s1 k1=>by subst e;obtain⟨v,u,w,rfl,ra,rb,rc⟩:=v1.thr;obtain⟨a,va,rfl,qa,ta⟩:=ra.tup;obtain⟨b,vb,rfl,qb,tb⟩:=rb.tup;obtain⟨c,vc,rfl,qc,tc⟩:=rc.tup;refine{a,b,c,rfl,{va,.of qa},{vb,.of qb},{vc,.of qc},hR _ S1 _ H1 r1 (λi S2 H2 k2 s2 _=>?_) s1 k1};have U_:gT X.K H2 a va:=.of<|k2.t _ _ qa;have Va:gT X.K H2 b vb:=.of<|k2.t _ _ qb;have qc2:gT X.K H2 c vc:=.of<|k2.t _ _ qc;have la:va.length=xs.length:=ta.len;let f:Nat->List V:=λj=>if j=0 then va else if j=1 then vb else vc;refine{λd hd=>?_,λh=>{f,WM U_ Va qc2,by show va.length<=i;rw[la,<-oi hl vJ];exact h}};obtain⟨x,y',z,e1,e2,e3,e4⟩:=oj hd;subst e4;obtain⟨vx,f1,g1⟩:=(RvAll.ts k2 _ ta).get e1;obtain⟨vy,f2,g2⟩:=(RvAll.ts k2 _ tb).get e2;obtain⟨vz,f3,g3⟩:=(RvAll.ts k2 _ tc).get e3;let g:Nat->V:=λj=>if j=0 then vx else if j=1 then vy else vz;have ok:∀j,j<3->gT X.K H2 (Qj a b c j) (f j)/\(f j)[i]?=some (g j):=WM ⟨U_,f1⟩ ⟨Va,f2⟩ ⟨qc2,f3⟩;refine{⟨f,g,ok⟩,λx' H' ⟨T,hT,e4,e5⟩=>?_};have:=e5 f g ok;subst this e4;have kk:Kp X.K H2 (upd H2 T<|.tup [vx,vy,vz]):=.new hT;exact{iE aE<|RvAll.ts kk _<|aS g1<|aS g2<|aS g3 bD,kk,s2.grow hT},hZ}⟩
end
end L2
namespace My
open PySem L2
def top(i:Nat):Stmt:=PySem.Challenge.pw_pageturns_k48_whole_keepers_pages.main.body.getD i<|.Pass {0,0,0,0}
abbrev Ge:Stmt:=top 21
abbrev IM:Stmt:=top 22
abbrev Gf:Stmt:=top 23
abbrev qf:Stmt:=top 30
abbrev Cb:Stmt:=top 32
abbrev v8:Stmt:=top 35
abbrev k8:Stmt:=top 45
abbrev lQ:Stmt:=top 48
abbrev Cc:Stmt:=top 50
abbrev t6:Stmt:=top 58
abbrev yV:Stmt:=top 59
abbrev yW:Stmt:=top 63
abbrev rX:Stmt:=top 67
abbrev hG:Stmt:=top 69
abbrev hU:Stmt:=top 70
abbrev fu:Stmt:=top 71
abbrev Cd:Stmt:=top 100
abbrev u4:Stmt:=top 103
abbrev Qo:Stmt:=top 106
abbrev Cf:Stmt:=top 108
abbrev Cg:Stmt:=top 109
abbrev Em:Stmt:=top 110
abbrev yX:Stmt:=top 112
abbrev u5:Stmt:=top 115
abbrev IP:Stmt:=top 116
abbrev NF:Stmt:=top 117
abbrev bA:Stmt:=top 90
abbrev cR:Stmt:=top 93
structure hW where
 (om lR Gg yY NG mK rY yZ t9 v9 jC jD iM hX ja mL h_ lS rZ r9 u6 r_ mM fw u7 au aI fW aU eV aM:Addr)
 (ia fz u9 pC IQ fX jE pE k9:FuncData)
 (mO oo mP sj kJ y0 kK mQ y1:Tok)
 ts:List Addr
 (f Ci v_:Nat->Addr)
 (d Qp L7:Nat->FuncData)
structure Txt(w:World)(K:Frag)(mg:Str->Option Value)(t:hW):Prop where
 fn:Ga K mg top t.f t.d [18,19,20,21,22,23,24,25,26,27,30,31,32,33,34,35,36,42,43,44,45,46,47,48,49,50,51,52,58,59,60,61,62,63,64,66,67,68,70,74,75,80,81,82,83,84,85,86,87,88,91,95,96,97,98,99,100,101,102,103,104,105,106,107,108,109,110,111,112,113,114,115,116]
 ee:B_ K t.au "Shelf." bA t.Ci t.Qp [0,1,2,3,4,5,6,7,8,13]
 y3:B_ K t.aI "Keeper." cR t.v_ t.L7 [0,1]
 fA:II K mg "sorted_by_keys" (top 69) ["rows","way"] t.om t.ia
 dR:II K mg "sorted_by_values" (top 71) ["columns","part","rows"] t.lR t.fz
 qL:II K mg "page_on" (top 78) ["shelf","order","sieve","size","gap","moment"] t.Gg t.u9
 y4:Binds K t.u9 ["shelf","order","sieve","size","gap","moment"] [.none]
 kl:II K mg "page_back" (top 79) ["shelf","order","sieve","size","gap","moment"] t.yY t.pC
 t_:Binds K t.pC ["shelf","order","sieve","size","gap","moment"] [.none]
 ZG:II K mg "law" (top 117) ["_law_script"] t.NG t.IQ
 cT:J3 K t.au "worths_at" "Shelf.worths_at" (inClass bA 9) ["self","key","moment"] t.mK t.fX
 eW:Binds K t.fX ["self","key","moment"] [.none]
 iN:J3 K t.au "all_at" "Shelf.all_at" (inClass bA 10) ["self","moment"] t.rY t.jE
 Gi:Binds K t.jE ["self","moment"] [.none]
 km:J3 K t.aI "on" "Keeper.on" (inClass cR 3) ["self","sieve","size","gap"] t.yZ t.pE
 ua:Binds K t.pE ["self","sieve","size","gap"] [.none]
 fY:J3 K t.aI "back" "Keeper.back" (inClass cR 4) ["self","sieve","size","gap"] t.t9 t.k9
 qg:Binds K t.k9 ["self","sieve","size","gap"] [.none]
 lT:mg "MOST_NAME_SIGNS"= some (.int 8 t.mO)
 mR:mg "MOST_KEY_SIGNS"= some (.int 12 t.oo)
 lU:mg "MOST_WORD_SIGNS"= some (.int 40 t.mP)
 qh:mg "MOST_COLUMNS"= some (.int 8 t.sj)
 jF:mg "MOST_PARTS_orders"= some (.int 8 t.kJ)
 wb:mg "MOST_DEEP"= some (.int 8 t.y0)
 jG:mg "MOST_PARTS_sieves"= some (.int 200 t.kK)
 lV:mg "MOST_IN_A_TUPLE"= some (.int 8 t.mQ)
 wc:mg "MOST_ROWS"= some (.int 1000 t.y1)
 IS:mg "KINDS"= some (.ref t.v9)
 IT:∀H,Rv K H (.kt [.str "number",.str "word"])<|.ref t.v9
 wd:mg "OTHER_WAY"= some (.ref t.jC)
 y6:HL w K t.jC [("up",.str "down"),("down",.str "up")]
 we:mg "OTHER_END"= some (.ref t.jD)
 y7:HL w K t.jD [("first",.str "last"),("last",.str "first")]
 ub:mg "OTHER_SIDE"= some (.ref t.iM)
 wg:HL w K t.iM [("ahead",.str "behind"),("behind",.str "ahead")]
 mS:mg "LENGTHS_sieves"= some (.ref t.hX)
 oq:HL w K t.hX [("every",.int 1),("is",.int 3),("below",.int 3),("above",.int 3),("begins",.int 3),("key",.int 2),("not",.int 2),("and",.int 2),("or",.int 2)]
 ot:mg "LENGTHS_deeds"= some (.ref t.ja)
 qj:HL w K t.ja [("put",.int 3),("change",.int 3),("take",.int 2)]
 aX:mg "len"= none
 k_:mg "all"= none
 Vb:mg "any"= none
 ao:mg "isinstance"= none
 iO:mg "range"= none
 lg:mg "int"= none
 lh:mg "str"= none
 Cj:mg "bool"= none
 bu:mg "tuple"= none
 Qq:mg "list"= none
 IU:mg "dict"= none
 NH:mg "set"= none
 y8:mg "zip"= none
 eE:mg "sorted"= none
 NI:mg "min"= none
 NJ:mg "max"= none
 y9:mg "enumerate"= none
 so:mg "reversed"= none
 gG:mg "BadColumns"= some (.ref t.mL)
 dA:excIn K t.mL L2.mD "ValueError.__new__"= true
 ko:mg "BadRow"= some (.ref t.h_)
 ib:excIn K t.h_ L2.mD "ValueError.__new__"= true
 eF:mg "BadOrder"= some (.ref t.lS)
 cY:excIn K t.lS L2.mD "ValueError.__new__"= true
 pF:mg "BadSieve"= some (.ref t.rZ)
 iP:excIn K t.rZ L2.mD "ValueError.__new__"= true
 eG:mg "BadPlace"= some (.ref t.r9)
 cZ:excIn K t.r9 L2.mD "ValueError.__new__"= true
 Ck:mg "BadSize"= some (.ref t.u6)
 ou:excIn K t.u6 L2.mD "ValueError.__new__"= true
 Gj:mg "HasKey"= some (.ref t.r_)
 su:excIn K t.r_ L2.mD "ValueError.__new__"= true
 IV:mg "NoKey"= some (.ref t.mM)
 wj:excIn K t.mM L2.mD "ValueError.__new__"= true
 y_:mg "NoMoment"= some (.ref t.fw)
 lW:excIn K t.fw L2.mD "ValueError.__new__"= true
 sv:mg "BadDeed"= some (.ref t.u7)
 kr:excIn K t.u7 L2.mD "ValueError.__new__"= true
 IW:mg "Shelf"= some (.ref t.au)
 aq:qB K t.au
 IX:Mk K t.au (t.Ci 0)
 cK:findIn K (.ref t.au) "columns"= some none
 cH:findIn K (.ref t.au) "deeds"= some none
 bS:findIn K (.ref t.au) "runs"= some none
 Gk:mg "Keeper"= some (.ref t.aI)
 bH:qB K t.aI
 Gm:Mk K t.aI (t.v_ 0)
 cU:findIn K (.ref t.aI) "shelf"= some none
 eQ:findIn K (.ref t.aI) "order"= some none
 fZ:t.ia.code=.ref t.fW
 dD:codeHdIn K t.fW t.aU=true
 mT:t.aU∈t.ts
 eX:t.fz.code=.ref t.eV
 cQ:codeHdIn K t.eV t.aM=true
 kL:t.aM∈t.ts
 np:[t.aU,t.aM].Nodup
 ta:∀b∈t.ts,b=t.aU\/b=t.aM
 bl:∀(s:Shared)(u:Value),BindsTo s t.IQ {[u],[]} [("_law_script",u)]
section
variable{w:World}{K:Frag}{mg:Str->Option Value}{t:hW}(T:Txt w K mg t)
def Txt.jH:=T.fn 18<|by decide
def Txt.ic:=T.fn 19<|by decide
def Txt.ow:=T.fn 20<|by decide
def Txt.qM:=T.fn 21<|by decide
def Txt.lX:=T.fn 22<|by decide
def Txt.wk:=T.fn 23<|by decide
def Txt.wm:=T.fn 24<|by decide
def Txt.jI:=T.fn 25<|by decide
def Txt.compared:=T.fn 26<|by decide
def Txt.c_:=T.fn 27<|by decide
def Txt.gH:=T.fn 30<|by decide
def Txt.ox:=T.fn 31<|by decide
def Txt.mU:=T.fn 32<|by decide
def Txt.dS:=T.fn 33<|by decide
def Txt.ku:=T.fn 34<|by decide
def Txt.lY:=T.fn 35<|by decide
def Txt.cz:=T.fn 36<|by decide
def Txt.wo:=T.fn 42<|by decide
def Txt.Co:=T.fn 43<|by decide
def Txt.wq:=T.fn 44<|by decide
def Txt.f_:=T.fn 45<|by decide
def Txt.wu:=T.fn 46<|by decide
def Txt.jJ:=T.fn 47<|by decide
def Txt.dU:=T.fn 48<|by decide
def Txt.oy:=T.fn 49<|by decide
def Txt.sx:=T.fn 50<|by decide
def Txt.eR:=T.fn 51<|by decide
def Txt.sy:=T.fn 52<|by decide
def Txt.jK:=T.fn 58<|by decide
def Txt.oz:=T.fn 59<|by decide
def Txt.dE:=T.fn 60<|by decide
def Txt.jL:=T.fn 61<|by decide
def Txt.gI:=T.fn 62<|by decide
def Txt.passes:=T.fn 63<|by decide
def Txt.iQ:=T.fn 64<|by decide
def Txt.dF:=T.fn 66<|by decide
def Txt.iR:=T.fn 67<|by decide
def Txt.sA:=T.fn 68<|by decide
def Txt.fB:=T.fn 70<|by decide
def Txt.fC:=T.fn 74<|by decide
def Txt.qN:=T.fn 75<|by decide
def Txt.lZ:=T.fn 80<|by decide
def Txt.iS:=T.fn 81<|by decide
def Txt.oA:=T.fn 82<|by decide
def Txt.l4:=T.fn 83<|by decide
def Txt.fb:=T.fn 84<|by decide
def Txt.iT:=T.fn 85<|by decide
def Txt.l5:=T.fn 86<|by decide
def Txt.jM:=T.fn 87<|by decide
def Txt.gb:=T.fn 88<|by decide
def Txt.gf:=T.fn 91<|by decide
def Txt.dk:=T.fn 95<|by decide
def Txt.l6:=T.fn 96<|by decide
def Txt.aY:=T.fn 97<|by decide
def Txt.oB:=T.fn 98<|by decide
def Txt.mV:=T.fn 99<|by decide
def Txt.ie:=T.fn 100<|by decide
def Txt.z_:=T.fn 101<|by decide
def Txt.wA:=T.fn 102<|by decide
def Txt.kx:=T.fn 103<|by decide
def Txt.Cp:=T.fn 104<|by decide
def Txt.qO:=T.fn 105<|by decide
def Txt.Cq:=T.fn 106<|by decide
def Txt.sC:=T.fn 107<|by decide
def Txt.mW:=T.fn 108<|by decide
def Txt.ig:=T.fn 109<|by decide
def Txt.IY:=T.fn 110<|by decide
def Txt.Cr:=T.fn 111<|by decide
def Txt.wB:=T.fn 112<|by decide
def Txt.Cs:=T.fn 113<|by decide
def Txt.qP:=T.fn 114<|by decide
def Txt.qQ:=T.fn 115<|by decide
def Txt.Ct:=T.fn 116<|by decide
def Txt.fE:=T.ee 0<|by decide
def Txt.fe:=T.ee 1<|by decide
def Txt.cL:=T.ee 2<|by decide
def Txt.dW:=T.ee 3<|by decide
def Txt.cq:=T.ee 4<|by decide
def Txt.bP:=T.ee 5<|by decide
def Txt.cu:=T.ee 6<|by decide
def Txt.ba:=T.ee 7<|by decide
def Txt.fg:=T.ee 8<|by decide
def Txt.cw:=T.ee 13<|by decide
def Txt.eS:=T.y3 0<|by decide
def Txt.gk:=T.y3 1<|by decide
end
def Ab:=bK<|top 18
def wC:=bK<|top 19
def wD:=bK<|top 20
def Cu:=bK<|top 21
def Gn:=bK<|top 22
def Cv:=bK<|top 23
def Cw:=bK<|top 24
def Ac:=bK<|top 25
def pG:=bK<|top 26
def dJ:=bK<|top 27
def oE:=bK<|top 30
def wF:=bK<|top 31
def Ad:=bK<|top 32
def uc:=bK<|top 33
def wG:=bK<|top 34
def ud:=bK<|top 35
def Ae:=bK<|top 36
def Gq:=bK<|top 42
def Gr:=bK<|top 43
def Cy:=bK<|top 44
def fF:=bK<|top 45
def Cz:=bK<|top 46
def sD:=bK<|top 47
def kM:=bK<|top 48
def wH:=bK<|top 49
def pH:=bK<|top 50
def bI:=bK<|top 51
def pI:=bK<|top 52
def bJ:=bK<|top 58
def wI:=bK<|top 59
def mX:=bK<|top 60
def jN:=bK<|top 61
def dX:=bK<|top 62
def u_:=bK<|top 63
def qk:=bK<|top 64
def mY:=bK<|top 66
def jb:=bK<|top 67
def gm:=bK<|top 68
def mZ:=bK<|top 69
def cE:=bK<|top 70
def kN:=bK<|top 71
def ue:=bK<|top 74
def CA:=bK<|top 75
def CB:=bK<|top 78
def wJ:=bK<|top 79
def lj:=bK<|top 80
def jc:=bK<|top 81
def wK:=bK<|top 82
def uf:=bK<|top 83
def ql:=bK<|top 84
def ug:=bK<|top 85
def uh:=bK<|top 86
def sE:=bK<|top 87
def b_:=bK<|top 88
def jO:=bK<|top 91
def wL:=bK<|top 95
def Gs:=bK<|top 96
def dY:=bK<|top 97
def dG:=bK<|top 98
def sF:=bK<|top 99
def Af:=bK<|top 100
def IZ:=bK<|top 101
def fG:=bK<|top 102
def df:=bK<|top 103
def ij:=bK<|top 104
def CC:=bK<|top 105
def L8:=bK<|top 106
def dm:=bK<|top 107
def gp:=bK<|top 108
def eI:=bK<|top 109
def jP:=bK<|top 110
def kz:=bK<|top 111
def fh:=bK<|top 112
def Gu:=bK<|top 113
def CD:=bK<|top 114
def bT:=bK<|top 115
def vd:=bK<|top 116
def dH:=bK<|top 117
def m6:=bK<|inClass bA 0
def wM:=bK<|inClass bA 1
def qm:=bK<|inClass bA 2
def uk:=bK<|inClass bA 3
def jl:=bK<|inClass bA 4
def ik:=bK<|inClass bA 5
def dM:=bK<|inClass bA 6
def jQ:=bK<|inClass bA 7
def wN:=bK<|inClass bA 8
def fH:=bK<|inClass bA 9
def eT:=bK<|inClass bA 10
def jm:=bK<|inClass bA 13
def l7:=bK<|inClass cR 0
def sG:=bK<|inClass cR 1
def wO:=bK<|inClass cR 3
def sH:=bK<|inClass cR 4
theorem sm(h:n<=1000):n<=sizeLine:=yK<|ke h
theorem Ag:0<=sizeLine:=sm<|by decide
theorem sI:1<=sizeLine:=sm<|by decide
theorem bC:2<=sizeLine:=sm<|by decide
theorem gJ:3<=sizeLine:=sm<|by decide
theorem qo:4<=sizeLine:=sm<|by decide
theorem ZH:6<=sizeLine:=sm<|by decide
theorem ZI:7<=sizeLine:=sm<|by decide
theorem ZJ:8<=sizeLine:=sm<|by decide
theorem Vc:10<=sizeLine:=sm<|by decide
abbrev FnD(P:Program)(w:World)(K:Frag)(mg:Str->Option Value)(base:Heap)(k:Nat)(f:Addr)(fd:FuncData)(ps:List Str)(sp:iJ):Prop:=bO P w K mg base (fk P w mg) k f fd ps<|qG K sp
def Gt(S:ay)(d:D):Prop:=(∃k,PF S d k)/\∀z,d=.str z->z.cps.size<=1000
noncomputable def isLet(c:Nat):Bool:=decide (97<=c)&&decide (c<=122)
noncomputable def En(c:Nat):Bool:=decide (48<=c)&&decide (c<=57)
noncomputable def I0(c:Nat):Bool:=decide (32<=c)&&decide (c<=126)
noncomputable def lq(z:Str):Bool:=decide (1<=z.cps.size)&&decide (z.cps.size<=8)&&z.cps.toList.all isLet
noncomputable def kO(z:Str):Bool:=decide (1<=z.cps.size)&&decide (z.cps.size<=12)&&(z.cps.toList.head?.any isLet)&&z.cps.toList.all λc=>isLet c||En c
noncomputable def ve(z:Str):Bool:=decide (z.cps.size<=40)&&z.cps.toList.all I0
noncomputable def ofStr(f:Str->Bool):D->Bool|.str z=>f z|_=>false
noncomputable def sJ:D->Bool|.int _=>true|_=>false
noncomputable def jR(kind:Str)(d:D):Bool:=ah d||if kind ="number" then sJ d else ofStr ve d
def L9(f:D->Bool):iJ:=λds S R _=>∃d,ds=[d]/\Gt S d/\R (.bl<|f d) S
def I9(f:Nat->Bool):iJ:=λds S R _=>∃c,ds=[.str ⟨#[c]⟩]/\R (.bl<|f c) S
theorem pJ:∀{xs ys:List D}{a b:D},Paired rel xs ys->rel a b->Paired rel (xs++[a]) (ys++[b])|_,_,_,_,.nil,r=>.cons r .nil|_,_,_,_,.cons q t,r=>.cons q<|pJ t r
theorem take_snoc{α:Type}{l:List α}{i:Nat}{d:α}(h:l[i]?=some d):l.take (i+1)=l.take i++[d]:=by rw[List.take_add_one,h];rfl
theorem fI{I:vW}{S1:ay}{g:BZ}{te:TD}{σ:SD}{src:List<|Option Nat}{R:KD}(rel:D->D->Prop)(aQ:I.ok S1)(hz:I.xs.length<=1000) (step:∀d,d∈I.xs->∀Q:KD,(∀v,rel d v->Q v S1)->g d (pq σ src) S1 λjj S3=>te jj S3 Q Zf) (fin:∀out,Paired rel I.xs out->∀p,S1 p=none->R (.ref p) (S1.set p<|.lst out)): DZ σ src g uT te R I S1:=by
 refine{λi out S=>S=S1/\Paired rel (I.xs.take i) out,{rfl,.nil},λi out S h=>by rw[h.1];exact aQ,?_,?_};rintro i d out S hd ⟨rfl,hp⟩;have hlen:=yG hp;rw[zV]at hlen;refine{ke<|by lia,?_};have e:(λ(jj:SD)(S3:ay)=>uT jj S3 (λb S4=>if b=true then te jj S4 (λv S5=>S5=S/\Paired rel (I.xs.take<|i+1) (out++[v])) Zf else S4=S/\Paired rel (I.xs.take<|i+1) out) Zf)=λjj S3=>te jj S3 (λv S5=>S5=S/\Paired rel (I.xs.take<|i+1) (out++[v])) Zf:=by funext jj S3;simp[uT]
 rw[e];exact step d (zK hd) _ λv hv=>{rfl,by rw[take_snoc hd];exact pJ hp hv};rintro out S2 ⟨rfl,hp⟩;rw[List.take_length]at hp;exact fin out hp
theorem sL:∀{xs out:List D},Paired (λd v=>v=f d) xs out->out=xs.map f|_,_,.nil=>rfl|_,_,.cons r t=>by rw[r,sL t];rfl
theorem comp_map(f:D->D)(aQ:I.ok S1)(hz:I.xs.length<=1000) (step:∀d,d∈I.xs->∀Q:KD,Q (f d) S1->g d (pq σ src) S1 λjj S3=>te jj S3 Q Zf) (fin:∀p,S1 p=none->R (.ref p) (S1.set p<|.lst<|I.xs.map f)): DZ σ src g uT te R I S1:=fI (λd v=>v=f d) aQ hz (λd hd Q h=>step d hd Q<|h _ rfl) λout hp p L_=>by rw[sL hp];exact fin p L_
theorem dq{I:vW}{S1:ay}{g:BZ}{tc:nM}{te:TD}{σ:SD}{src:List<|Option Nat}{R:KD}(keep:D->Bool)(f:D->D)(aQ:I.ok S1)(hz:I.xs.length<=1000) (step:∀d,d∈I.xs->∀(Q:KD)(Q':ay->Prop),(keep d=true->Q (f d) S1)->(keep d=false->Q' S1)->g d (pq σ src) S1 λjj S3=>tc jj S3 (λb S4=>if b=true then te jj S4 Q Zf else Q' S4) Zf) (fin:∀p,S1 p=none->R (.ref p) (S1.set p<|.lst<|(I.xs.filter keep).map f)): DZ σ src g tc te R I S1:=by refine{λi out S=>S=S1/\out=((I.xs.take i).filter keep).map f,⟨rfl,rfl⟩,λi out S h=>by rw[h.1];exact aQ,?_,?_};rintro i d out S hd ⟨rfl,rfl⟩;have hlen:((I.xs.take i).filter keep).length<=(I.xs.take i).length:=List.length_filter_le _ _;rw[zV]at hlen;refine{by rw[zb];exact ke<|by lia,?_};refine step d (zK hd) _ (λS4=>S4=S/\_=_) (λhk=>{rfl,?_}) λhk=>{rfl,?_};rw[take_snoc hd,List.filter_append,zJ,yp,if_pos hk];rfl;rw[take_snoc hd,List.filter_append,yp,if_neg<|by rw[hk];exact zd];simp;rintro out S2 ⟨rfl,rfl⟩;rw[List.take_length];exact fin
variable{P:Program}{w:World}{K:Frag}{mg:Str->Option Value}{base:Heap}{t:hW}
theorem jS(T:Txt w K mg t):Ok P w base T.jH 1 (L9 sJ):=by
 refine T.jH.F.ck Ab ?_;rintro _ _ _ _ _ _ _ S R Z hr ⟨d,e,⟨⟨k,hk⟩,hz⟩,q⟩;subst e;refine{_,(s1<|sr<|rO (cb bV T.ao ak<|ac (dv 0)<|ac (nN T.lg gC) an)<|HS<|PC<|cb bV T.ao ak<|ac (dv 0)<|ac (nN T.Cj vN) an),?_};refine !{_,_,_,_,rfl,La,hk,_,rfl,?_};have:(BD k=true/\((sJ d=true/\vP k=false)\/(sJ d=false/\vP k=true)))\/(BD k=false/\sJ d=false):=by cases d with|av=>(cases hk;exact .inr ⟨rfl,rfl⟩)|bl b=>(cases hk;exact .inl {rfl,.inr ⟨rfl,rfl⟩})|int b=>(cases hk;exact .inl {rfl,.inl ⟨rfl,rfl⟩})|str b=>(cases hk;exact .inr ⟨rfl,rfl⟩)|tup b=>(cases hk;exact .inr ⟨rfl,rfl⟩)|ref a=>(rcases hk with⟨rfl,_⟩|⟨rfl,_⟩<;>exact .inr ⟨rfl,rfl⟩)|_=>exact hk.elim
 rcases this with⟨h1,h2⟩|⟨h1,h2⟩;rw[h1];refine dP !{_,_,_,_,rfl,rH,hk,_,rfl,?_};rcases h2 with⟨h2,h3⟩|⟨h2,h3⟩<;>(rw[h3];rw[h2]at q;exact fo q);rw[h1];rw[h2]at q;exact br<|fo q
theorem iU(T:Txt w K mg t):Ok P w base T.ic 1 (I9 isLet):=by refine T.ic.F.ck wC ?_;rintro _ _ _ _ _ _ _ S R Z hr ⟨c,e,q⟩;subst e;refine{_,(s1<|sr<|cc jy jy hr.u ds (dv 0) ds),?_};refine !!⟨?_⟩;have e1:G1 "a" ⟨#[c]⟩=decide (97<=c):=kf 97 c;have e2:G1 ⟨#[c]⟩ "z"= decide (c<=122):=kf c 122;unfold isLet at q;refine bB (λh=>?_) λh=>?_;rw[e1.symm.trans h,ya,<-e2]at q;exact fo q;rw[e1.symm.trans h,zS]at q;exact fo q
theorem wQ(T:Txt w K mg t):Ok P w base T.ow 1 (I9 En):=by refine T.ow.F.ck wD ?_;rintro _ _ _ _ _ _ _ S R Z hr ⟨c,e,q⟩;subst e;refine{_,(s1<|sr<|cc jy jy hr.u ds (dv 0) ds),?_};refine !!⟨?_⟩;have e1:G1 "0" ⟨#[c]⟩=decide (48<=c):=kf 48 c;have e2:G1 ⟨#[c]⟩ "9"= decide (c<=57):=kf c 57;unfold En at q;refine bB (λh=>?_) λh=>?_;rw[e1.symm.trans h,ya,<-e2]at q;exact fo q;rw[e1.symm.trans h,zS]at q;exact fo q
theorem Gv(h:d∈fm z):∃c,c∈z.cps.toList/\d=.str ⟨#[c]⟩:=by unfold fm at h;obtain⟨c,hc,e⟩:=ze.mp h;exact⟨c,hc,e.symm⟩
noncomputable def Eo(f:Nat->Bool):D->D|.str z=>.bl (z.cps.toList.head?.any f)|_=>.av
theorem Gw:(fm z).map (Eo f)=(z.cps.toList.map f).map D.bl:=by unfold fm;rw[zt,zt];rfl
theorem all_map{α:Type}{l:List α}{f:α->Bool} : (l.map f).all id=l.all f:=by rw[List.all_map];rfl
theorem oF{z:Str}{f:Nat->Bool}{g:BZ}{te:TD}{σ:SD}{src:List<|Option Nat}{S:ay}{R:KD}{Z:KX}{i:Nat}(hv:σ[i]?=some (some<|.str z))(hz:z.cps.size<=1000) (step:∀c,c∈z.cps.toList->∀Q:KD,Q (.bl<|f c) S->g (.str ⟨#[c]⟩) (pq σ src) S λjj S3=>te jj S3 Q Zf) (q:R (.bl<|z.cps.toList.all f) S): Wh Ue (Ng (D0 (Nt<|TQ i) src g uT te) LB) σ S (λd S'=>Fo S'<|R d) Z:=by refine{_,hv,z,rfl,?_};refine My.comp_map (I:={fm z,λ_=>True}) (Eo f) trivial (by show(fm z).length<=1000;unfold fm;rw[zb,zT];exact hz) (λd hd Q hQ=>?_) λp hp=>?_;obtain⟨c,hc,rfl⟩:=Gv hd;exact step c hc Q (by simpa [Eo]using hQ);refine{.ref p,z.cps.toList.map f,rfl,?_,S,.new hp,?_};show(S.set p<|.lst<|(fm z).map<|Eo f) p=_;rw[aa,Gw];rw[all_map];exact q
theorem CF{S:ay}{d:D}{k:Kd}(hk:PF S d k):(∃z,d=.str z/\BE k=true)\/(BE k=false/\∀f,ofStr f d=false):=by cases d with|str b=>(cases hk;exact .inl ⟨b,rfl,rfl⟩)|av=>(cases hk;exact .inr {rfl,λ_=>rfl})|bl b=>(cases hk;exact .inr {rfl,λ_=>rfl})|int b=>(cases hk;exact .inr {rfl,λ_=>rfl})|tup b=>(cases hk;exact .inr {rfl,λ_=>rfl})|ref a=>(rcases hk with⟨rfl,_⟩|⟨rfl,_⟩<;>exact .inr {rfl,λ_=>rfl})|_=>exact hk.elim
theorem Qr{S:ay}{d:D}{k:Kd}(hk:PF S d k):(∃ds,d=.tup ds/\rG k=true)\/(rG k=false/\∀ds,d≠.tup ds):=by cases d with|tup b=>(cases hk;exact .inl ⟨b,rfl,rfl⟩)|av=>(cases hk;exact .inr {rfl,λ_=>nofun})|bl b=>(cases hk;exact .inr {rfl,λ_=>nofun})|int b=>(cases hk;exact .inr {rfl,λ_=>nofun})|str b=>(cases hk;exact .inr {rfl,λ_=>nofun})|ref a=>(rcases hk with⟨rfl,_⟩|⟨rfl,_⟩<;>exact .inr {rfl,λ_=>nofun})|_=>exact hk.elim
theorem sM(T:Txt w K mg t):Ok P w base T.qM 2 (L9<|ofStr lq):=by
 refine T.qM.F.ck Cu ?_;rintro _ _ _ _ _ _ _ S R Z hr ⟨d,e,⟨⟨k,hk⟩,hz⟩,q⟩;subst e;refine{_,(sc (si (twd<|twor (bZ<|tv<|cb bV T.ao ak<|ac (dv 0)<|ac (nN T.lh gD) an)<|tw1<|bZ<|Wf jy jy hr.u di (cb bb T.aX aG<|ac (dv 0) an)<|dg (v:=.int 8) T.lT {_,rfl} λ_=>aN _) (s1<|sr db) s0)<|s1<|sr<|cb k7 T.k_ gB<|ac (p_ (N:=["sign"]) (src:=[none]) (i6 (ae Ge) ["thing"] rfl rfl<|by trivial) (PY<|dv 0) (mm<|show(["sign"]:List Str).Nodup by trivial) (aO rfl) aP (λ_ _ _ _ _=>px) λ_ _ _ _ _=>(aJ T.ic (iU T) hr<|ac (dv 0) an)) an),?_};refine !{_,_,_,_,rfl,bX,hk,_,rfl,?_};rcases CF hk with⟨z,rfl,h0⟩|⟨h0,h1⟩;have hz:=hz z rfl;rw[h0];refine br ?_;refine !!⟨{sm hz,?_}⟩;refine{_,rfl,?_};have e1:decide ((1:Int)<=(z.length:Nat))=decide (1<=z.cps.size):=by rw[yI];show(1:Int)<=((z.cps.size:Nat):Int)↔_;omega
 have e2:decide (((z.length:Nat):Int)<=8)=decide (z.cps.size<=8):=by rw[yI];show((z.cps.size:Nat):Int)<=8↔_;omega
 unfold ofStr lq at q;dsimp only at q;refine bB (λh2=>?_) λh2=>?_;rw[e1.symm.trans h2,ya]at q;refine{_,rfl,?_};refine bB (λh3=>?_) λh3=>?_;rw[e2.symm.trans<|nt h3,zS]at q;exact fo q;rw[e2.symm.trans<|nf h3,ya]at q;exact oF rfl hz (λc hc Q hQ=>!⟨c,rfl,hQ⟩) q;rw[e1.symm.trans h2,zS,zS]at q;refine{_,rfl,?_};exact dP<|fo q;rw[h0];rw[h1]at q;exact dP<|dP<|fo q
def aw(c:Str×Str):D:=.tup [.str c.1,.str c.2]
def Gd(cs:List<|Str×Str):Prop:=cs.length<=8/\(cs.map Prod.fst).Nodup/\∀c∈cs,lq c.1=true/\(c.2 ="number"\/c.2 ="word")
noncomputable def m7(cs:List<|Str×Str):D->Bool|.tup ws=>decide (ws.length=cs.length)&&(List.zipWith (λc v=>jR c.2 v) cs ws).all id|_=>false
noncomputable def oG(cs:List<|Str×Str)(k v:D):Bool:=ofStr kO k&&m7 cs v
def RP(S:ay)(d:D):Prop:=Gt S d/\∀ws,d=.tup ws->ws.length<=1000/\∀v∈ws,Gt S v
theorem ip(T:Txt w K mg t):Ok P w base T.lX 2 (L9<|ofStr kO):=by
 refine T.lX.F.ck Gn ?_;rintro _ _ _ _ _ _ _ S R Z hr ⟨d,e,⟨⟨k,hk⟩,hz⟩,q⟩;subst e;refine{_,(sc (si (twd<|twor (bZ<|tv<|cb bV T.ao ak<|ac (dv 0)<|ac (nN T.lh gD) an)<|tw1<|bZ<|Wf jy jy hr.u di (cb bb T.aX aG<|ac (dv 0) an)<|dg (v:=.int 12) T.mR {_,rfl} λ_=>aN _) (s1<|sr db) s0)<|sc (si (bZ<|tv<|aJ T.ic (iU T) hr<|ac (ix hr.u (dv 0) di) an) (s1<|sr db) s0)<|s1<|sr<|cb k7 T.k_ gB<|ac (p_ (N:=["sign"]) (src:=[none]) (i6 (ae IM) ["thing"] rfl rfl<|by trivial) (PY<|dv 0) (mm<|show(["sign"]:List Str).Nodup by trivial) (aO rfl) aP (λ_ _ _ _ _=>px) λ_ _ _ _ _=>(eor (aJ T.ic (iU T) hr<|ac (dv 0) an)<|HS<|aJ T.ow (wQ T) hr<|ac (dv 0) an)) an),?_};refine !{_,_,_,_,rfl,bX,hk,_,rfl,?_};rcases CF hk with⟨z,rfl,h0⟩|⟨h0,h1⟩;have hz:=hz z rfl;rw[h0];refine br ?_;refine !!⟨{sm hz,?_}⟩;refine{_,rfl,?_};have e1:decide ((1:Int)<=(z.length:Nat))=decide (1<=z.cps.size):=by rw[yI];show(1:Int)<=((z.cps.size:Nat):Int)↔_;omega
 have e2:decide (((z.length:Nat):Int)<=12)=decide (z.cps.size<=12):=by rw[yI];show((z.cps.size:Nat):Int)<=12↔_;omega
 unfold ofStr kO at q;dsimp only at q;refine bB (λh2=>?_) λh2=>?_;have Ym:=e1.symm.trans h2;rw[Ym,ya]at q;refine{_,rfl,?_};refine bB (λh3=>?_) λh3=>?_;rw[e2.symm.trans<|nt h3,zS,zS]at q;exact fo q;rw[e2.symm.trans<|nf h3,ya]at q;obtain⟨c,r,ec⟩:=len_pos (z:=z)<|zB Ym;have eh:z.cps.toList.head?.any isLet=isLet c:=by rw[ec];rfl
 rw[eh]at q;refine !{c,sm hz,at0 ec,c,rfl,_,rfl,?_};refine bB (λh4=>?_) λh4=>?_;rw[nt h4,zS]at q;exact fo q;rw[nf h4,ya]at q;refine oF (f:=λc=>isLet c||En c) rfl hz (λc hc Q hQ=>?_) q;refine !{c,rfl,_,rfl,?_};refine bB (λh5=>?_) λh5=>?_;rw[h5,Bool.true_or]at hQ;exact hQ;rw[h5,yO]at hQ;exact{_,rfl,c,rfl,hQ};rw[e1.symm.trans h2,zS,zS,zS]at q;refine{_,rfl,?_};exact dP<|fo q;rw[h0];rw[h1]at q;exact dP<|dP<|fo q
theorem CG(T:Txt w K mg t):Ok P w base T.wk 2 (L9<|ofStr ve):=by
 refine T.wk.F.ck Cv ?_;rintro _ _ _ _ _ _ _ S R Z hr ⟨d,e,⟨⟨k,hk⟩,hz⟩,q⟩;subst e;refine{_,(sc (si (twd<|twor (bZ<|tv<|cb bV T.ao ak<|ac (dv 0)<|ac (nN T.lh gD) an)<|tw1<|bp n_ hr.u (cb bb T.aX aG<|ac (dv 0) an)<|dg (v:=.int 40) T.lU {_,rfl} λ_=>aN _) (s1<|sr db) s0)<|s1<|sr<|cb k7 T.k_ gB<|ac (p_ (N:=["sign"]) (src:=[none]) (i6 (ae Gf) ["thing"] rfl rfl<|by trivial) (PY<|dv 0) (mm<|show(["sign"]:List Str).Nodup by trivial) (aO rfl) aP (λ_ _ _ _ _=>px) λ_ _ _ _ _=>(cc jy jy hr.u ds (dv 0) ds)) an),?_};refine !{_,_,_,_,rfl,bX,hk,_,rfl,?_};rcases CF hk with⟨z,rfl,h0⟩|⟨h0,h1⟩;have hz:=hz z rfl;rw[h0];refine br ?_;refine !!⟨{sm hz,?_}⟩;refine{_,rfl,?_};have e2:decide ((40:Int)<((z.length:Nat):Int))=!decide (z.cps.size<=40):=by rw[yw];simp only[decide_eq_true_iff,Bool.not_eq_true',decide_eq_false_iff_not];show(40:Int)<((z.cps.size:Nat):Int)↔_;omega
 unfold ofStr ve at q;dsimp only at q;refine bB (λh3=>?_) λh3=>?_;rw[nt<|e2.symm.trans h3,zS]at q;exact fo q;rw[nf<|e2.symm.trans h3,ya]at q;refine oF (f:=I0) rfl hz (λc hc Q hQ=>?_) q;refine !!⟨?_⟩;have e3:G1 " " ⟨#[c]⟩=decide (32<=c):=kf 32 c;have e4:G1 ⟨#[c]⟩ "~"= decide (c<=126):=kf c 126;unfold I0 at hQ;refine bB (λh=>?_) λh=>?_;rw[e3.symm.trans h,ya,<-e4]at hQ;exact hQ;rw[e3.symm.trans h,zS]at hQ;exact hQ;rw[h0];rw[h1]at q;exact dP<|dP<|fo q
inductive sN (ds:List D) (S:ay) (R:KD) (Z:KX):Prop where
 |mk (kind d) (h0:ds=[.str kind,d]) (h1:Gt S d) (h2:R (.bl<|jR kind d) S):sN ds S R Z
theorem jT(T:Txt w K mg t):Ok P w base T.jI 3 sN:=by refine T.jI.F.ck Ac ?_;rintro _ _ _ _ _ _ _ S R Z hr ⟨kind,d,e,hd,q⟩;subst e;refine{_,(sc (si (bp fP hr.u (dv 1) dn) (s1<|sr db) s0)<|sc (si (bp aL hr.u (dv 0) ds) (s1<|sr<|aJ T.jH (jS T) hr<|ac (dv 1) an) s0)<|s1<|sr<|aJ T.wk (CG T) hr<|ac (dv 1) an),?_};refine !!⟨?_⟩;unfold jR at q;refine bB (λh=>?_) λh=>?_;rw[h,Bool.true_or]at q;exact fo q;rw[h,yO]at q;refine !!⟨?_⟩;refine bB (λh=>?_) λh=>?_;rw[if_pos<|zB h]at q;exact !{d,rfl,hd,fo q};rw[if_neg<|zO h]at q;exact !{d,rfl,hd,fo q}
theorem gt_str(h:z.cps.size<=1000):Gt S (.str z):={{.str,rfl},λy e=>by cases e;exact h}
theorem oH(h:lq z=true):z.cps.size<=1000:=by unfold lq at h;simp only[zL,yj]at h;lia
theorem Gx(h:∀c v,f (.tup [aw c,v])=.bl (jR c.2 v)):(bc (cs.map aw) ws).map f=(List.zipWith (λc v=>jR c.2 v) cs ws).map D.bl:=by unfold bc;induction cs generalizing ws with|nil=>(cases ws<;>rfl)|cons c cs ih=>cases ws with|nil=>rfl|cons v ws=>show f (.tup [aw c,v])::(List.zipWith _ (cs.map aw) ws).map f=.bl (jR c.2 v)::_;rw[h,ih]
noncomputable def pairF:D->D|.tup [.tup [_,.str k],v]=>.bl (jR k v)|_=>.av
inductive vf (ds:List D) (S:ay) (R:KD) (Z:KX):Prop where
 |mk (z) (h0:ds=[.str z]) (h1:(z ="number"\/z ="word")) (h2:R (.bl true) S):vf ds S R Z
theorem CH(T:Txt w K mg t):Ok P w base T.wm 1 vf:=by
 refine T.wm.F.ck Cw ?_;rintro _ _ _ _ _ _ _ S R Z hr ⟨z,e,hz,q⟩;subst e;refine{_,(s1<|sr<|rO (cb bV T.ao ak<|ac (dv 0)<|ac (nN T.lh gD) an)<|HS<|cm xS hr.u (dv 0)<|dg (v:=.ref t.v9) T.IS rfl T.IT),?_};refine !{_,_,_,_,rfl,bX,rfl,_,rfl,dP !{rfl,rfl,?_}};have e:vI (kI<|.str z) ([D.str "number",D.str "word"].map kI)=true:=by rcases hz with rfl|rfl<;>decide +kernel
 show Fo S (R<|.bl<|if false=true then _ else vI (kI<|.str z) ([D.str "number",D.str "word"].map kI));rw[if_neg zd,e];exact fo q
inductive pK (ds:List D) (S:ay) (R:KD) (Z:KX):Prop where
 |mk (c) (h0:ds=[aw c]) (h1:lq c.1=true) (h2:(c.2 ="number"\/c.2 ="word")) (h3:R (.bl true) S):pK ds S R Z
theorem wR(T:Txt w K mg t):Ok P w base T.ox 3 pK:=by refine T.ox.F.ck wF ?_;rintro _ _ _ _ _ _ _ S R Z hr ⟨c,e,h1,h2,q⟩;subst e;refine{_,(sc (si (twd<|twor (bZ<|tv<|cb bV T.ao ak<|ac (dv 0)<|ac (nN T.bu aW) an)<|tw1<|bp iI hr.u (cb bb T.aX aG<|ac (dv 0) an) di) (s1<|sr db) s0)<|s1<|sr<|rO (aJ T.qM (sM T) hr<|ac (ix hr.u (dv 0) di) an)<|HS<|aJ T.wm (CH T) hr<|ac (ix hr.u (dv 0) di) an),?_};refine !{_,_,_,_,rfl,aR,rfl,_,rfl,?_};refine br !!!⟨br ?_⟩;refine !!!{gt_str<|oH h1,_,rfl,?_};show if lq c.1=true then _ else _;rw[h1];exact dP !!!{h2,fo q}
inductive sO (ds:List D) (S:ay) (R:KD) (Z:KX):Prop where
 |mk (cs:List<|Str×Str) (h0:ds=[.tup<|cs.map aw]) (h1:cs.length<=8) (h2:∀p,S p=none->R (.ref p) (S.set p<|.lst<|(cs.map Prod.fst).map D.str)):sO ds S R Z
theorem pL(T:Txt w K mg t):Ok P w base T.mU 1 sO:=by
 refine T.mU.F.ck Ad ?_;rintro _ _ _ _ _ _ _ S R Z hr ⟨cs,e,hl,q⟩;subst e;refine{_,(s1<|sr<|p_ (N:=["name","kind"]) (src:=[none,none]) (i6 (ae Cb) ["columns"] rfl rfl<|by trivial) (FP<|dv 0) (Ws<|show(["name","kind"]:List Str).Nodup by trivial) (qE rfl rfl) qI (λ_ _ _ _ _=>px) λ_ _ _ _ _=>(dv 0)),?_};refine !{_,.inl rfl,?_};refine comp_map (λd=>match d with|.tup (x::_)=>x|_=>.av) trivial (by show(cs.map aw).length<=1000;rw[zb];lia) (λd hd Q hQ=>?_) λp hp=>?_;obtain⟨c,hc,rfl⟩:=ze.mp hd;exact !{rfl,_,_,rfl,_,_,rfl,rfl,_,rfl,hQ};have e:(cs.map aw).map (λd=>match d with|.tup (x::_)=>x|_=>.av)=(cs.map Prod.fst).map D.str:=by rw[zt,zt];rfl
 show Fo (S.set p<|.lst<|(cs.map aw).map _) (R<|.ref p);rw[e];exact fo<|q p hp
inductive jd (ds:List D) (S:ay) (R:KD) (Z:KX):Prop where
 |mk (cs) (h0:ds=[.tup<|cs.map aw]) (h1:Gd cs) (h2:R .av S):jd ds S R Z
theorem oI(T:Txt w K mg t):Ok P w base T.gH 4 jd:=by
 refine T.gH.F.ck oE ?_;rintro _ _ _ _ _ _ _ S R Z hr ⟨cs,e,⟨hl,hn,hg⟩,q⟩;subst e;refine{_,(sc (si (twd<|twor (bZ<|tv<|cb bV T.ao ak<|ac (dv 0)<|ac (nN T.bu aW) an)<|tw1<|bp n_ hr.u (cb bb T.aX aG<|ac (dv 0) an)<|dg (v:=.int 8) T.qh {_,rfl} λ_=>aN _) (s1<|p8 ⟨T.dA⟩ T.gG<|ac ds an) s0)<|sc (si (bZ<|tv<|cb k7 T.k_ gB<|ac (p_ (N:=["column"]) (src:=[none]) (i6 (ae qf) ["columns"] rfl rfl<|by trivial) (FP<|dv 0) (mm<|show(["column"]:List Str).Nodup by trivial) (aO rfl) aP (λ_ _ _ _ _=>px) λ_ _ _ _ _=>(aJ T.ox (wR T) hr<|ac (dv 0) an)) an) (s1<|p8 ⟨T.dA⟩ T.gG<|ac ds an) s0)<|s1<|si (bp iI hr.u (lse (aJ T.mU (pL T) hr<|ac (dv 0) an) T.aX T.NH)<|cb bb T.aX aG<|ac (dv 0) an) (s1<|p8 ⟨T.dA⟩ T.gG<|ac ds an) s0),?_};refine !{_,_,_,_,rfl,aR,rfl,_,rfl,?_};have e1:decide ((8:Int)<((cs.map aw).length:Nat))=false:=zu (by rw[zb];lia);refine br !!!⟨?_⟩;show if decide ((8:Int)<((cs.map aw).length:Nat))=true then _ else _;rw[e1];refine br ?_;refine !{_,.inl rfl,?_};refine comp_map (λ_=>.bl true) trivial (by show(cs.map aw).length<=1000;rw[zb];lia) (λd hd Q hQ=>?_) λp hp=>?_;obtain⟨c,hc,rfl⟩:=ze.mp hd;exact !{c,rfl,(hg c hc).1,(hg c hc).2,hQ};have e2:(cs.map aw).map (λ_=>D.bl true)=(cs.map λ_=>true).map D.bl:=by rw[zt,zt];rfl
 have e3:(cs.map λ_=>true).all id=true:=by rw[all_map];exact yc.mpr λ_ _=>rfl
 refine{.ref p,cs.map λ_=>true,rfl,?_,_,rfl,?_};show(S.set p<|.lst<|(cs.map aw).map _) p=_;rw[aa,e2];rw[e3];refine br ?_;refine !{cs,rfl,hl,λp2 gU=>?_};refine{cs.map Prod.fst,aa,by rw[zb];lia,_,rfl,_,rfl,_,rfl,?_};have e4:decide ((((i7<|cs.map Prod.fst).length:Nat):Int)=(((cs.map aw).length:Nat):Int))=true:=zw (by rw[(uQ _).mpr hn,zb,zb]);show if (if true=true then !decide ((((i7<|cs.map Prod.fst).length:Nat):Int)=(((cs.map aw).length:Nat):Int)) else _)=true then _ else _;rw[if_pos rfl,e4];exact br {S,(Sub.new hp).trans<|.new gU,q}
inductive m8 (ds:List D) (S:ay) (R:KD) (Z:KX):Prop where
 |mk (cs d) (h0:ds=[.tup<|cs.map aw,d]) (h1:cs.length<=8) (h2:RP S d) (h3:R (.bl<|m7 cs d) S):m8 ds S R Z
theorem um(T:Txt w K mg t):Ok P w base T.lY 4 m8:=by
 refine T.lY.F.ck ud ?_;rintro _ _ _ _ _ _ _ S R Z hr ⟨cs,d,e,hl,⟨⟨⟨k,hk⟩,hz⟩,hw⟩,q⟩;subst e;refine{_,(sc (si (twd<|twor (bZ<|tv<|cb bV T.ao ak<|ac (dv 1)<|ac (nN T.bu aW) an)<|tw1<|bp iI hr.u (cb bb T.aX aG<|ac (dv 1) an)<|cb bb T.aX aG<|ac (dv 0) an) (s1<|sr db) s0)<|s1<|sr<|cb k7 T.k_ gB<|ac (p_ (N:=["column","value"]) (src:=[none,none]) (i6 (ae v8) ["columns","thing"] rfl rfl<|by trivial) (WN T.y8<|ac (dv 0)<|ac (dv 1) an) (Ws<|show(["column","value"]:List Str).Nodup by trivial) (qE rfl rfl) qI (λ_ _ _ _ _=>px) λ_ _ _ _ _=>(aJ T.jI (jT T) hr<|ac (ix hr.u (dv 0) di)<|ac (dv 1) an)) an),?_};refine !{_,_,_,_,rfl,aR,hk,_,rfl,?_};rcases Qr hk with⟨ws,rfl,h0⟩|⟨h0,h1⟩;obtain⟨hw1,qH⟩:=hw ws rfl;rw[h0];refine br !!!!!⟨?_⟩;have e1:decide (((ws.length:Nat):Int)=(((cs.map aw).length:Nat):Int))=decide (ws.length=cs.length):=by rw[yI,zb];lia
 unfold m7 at q;dsimp only at q;show if (if true=true then !decide (((ws.length:Nat):Int)=(((cs.map aw).length:Nat):Int)) else _)=true then _ else _;rw[if_pos rfl,e1];refine bB (λh=>?_) λh=>?_;rw[nt h,zS]at q;exact fo q;have h:=nf h;rw[h,ya]at q;have h:=zB h;refine !!{cs.map aw,ws,rfl,by rw[zb];exact h.symm,?_};refine comp_map pairF trivial (by show(bc (cs.map aw) ws).length<=1000;unfold bc;rw[List.length_zipWith,zb];lia) (λd hd Q hQ=>?_) λp hp=>?_;unfold bc at hd;obtain⟨i,ei⟩:=List.getElem?_of_mem hd;obtain⟨x,y,e2,e3,e4⟩:=List.getElem?_zipWith_eq_some.mp ei;subst e4;rw[zp]at e2;cases e5:cs[i]? with|none=>(rw[e5]at e2;cases e2)|some c=>rw[e5]at e2;cases e2;exact !{rfl,_,_,rfl,_,_,rfl,rfl,_,rfl,_,rfl,_,rfl,c.2,y,rfl,qH y<|zK e3,hQ}
 refine{.ref p,List.zipWith (λc v=>jR c.2 v) cs ws,rfl,?_,S,.new hp,q};show(S.set p<|.lst<|(bc (cs.map aw) ws).map pairF) p=_;rw[aa,Gx λ_ _=>rfl];rw[h0];have e:m7 cs d=false:=by cases d with|tup ws=>exact absurd rfl (h1 ws)|_=>rfl
 rw[e]at q;exact dP<|dP<|fo q
inductive pM (t:hW) (ds:List D) (S:ay) (R:KD) (Z:KX):Prop where
 |mk (cs k v) (h0:ds=[.tup<|cs.map aw,.tup [k,v]]) (h1:cs.length<=8) (h2:Gt S k) (h3:RP S v) (h4:(oG cs k v=true->R .av S)) (h5:(oG cs k v=false->Z t.h_ S)):pM t ds S R Z
theorem m9(T:Txt w K mg t):Ok P w base T.ku 5 (pM t):=by refine T.ku.F.ck wG ?_;rintro _ _ _ _ _ _ _ S R Z hr ⟨cs,k,v,e,hl,hk,hv,q1,q2⟩;subst e;refine{_,(sc (si (twd<|twor (bZ<|tv<|cb bV T.ao ak<|ac (dv 1)<|ac (nN T.bu aW) an)<|tw1<|bp iI hr.u (cb bb T.aX aG<|ac (dv 1) an) di) (s1<|p8 ⟨T.ib⟩ T.ko<|ac ds an) s0)<|sc (si (bZ<|tv<|aJ T.lX (ip T) hr<|ac (ix hr.u (dv 1) di) an) (s1<|p8 ⟨T.ib⟩ T.ko<|ac ds an) s0)<|s1<|si (bZ<|tv<|aJ T.lY (um T) hr<|ac (dv 0)<|ac (ix hr.u (dv 1) di) an) (s1<|p8 ⟨T.ib⟩ T.ko<|ac ds an) s0),?_};refine !{_,_,_,_,rfl,aR,rfl,_,rfl,?_};refine br !!!⟨br ?_⟩;refine !!{k,rfl,hk,_,rfl,?_};unfold oG at q1 q2;refine bB (λh=>?_) λh=>?_;rw[nt h,zS]at q2;exact{sm<|by decide,fo<|q2 rfl};rw[nf h,ya]at q1 q2;refine !!!{cs,v,rfl,hl,hv,_,rfl,?_};refine bB (λh=>?_) λh=>?_;exact{sm<|by decide,fo<|q2<|nt h};exact fo<|q1<|nf h
theorem bg(h:n<=100000):n<sizeLine:=by rw[zX];lia
structure Std where
 b:Nat
 e:Option Nat
 ws:List D
def eD:Option Nat->D|none=>.av|some n=>.int (n:Nat)
def jU(s:Std):D:=.tup [.int (s.b:Nat),eD s.e,.tup s.ws]
noncomputable def I_:List Std->Int->D|[],_=>.av|s::r,m=>if (s.b:Int)<=m then (match s.e with|none=>.tup s.ws|some n=>if m<=(n:Int) then .tup s.ws else .av) else I_ r m
noncomputable def wt(l:List Std)(m:Int):D:=I_ l.reverse m
abbrev Ra:=List<|Str×Addr×List Std
abbrev uo:=List<|Str×List Std
def iq(ra:Ra):uo:=ra.map λr=>(r.1,r.2.2)
def dI(ra:Ra):List (Key×D):=ra.map λr=>(Sum.inr r.1,D.ref r.2.1)
noncomputable def lu(rs:uo)(k:Str):Option (List Std):=(rs.find? λr=>decide<|r.1=k).map (·.2)
noncomputable def tN(ra:Ra)(k:Str):Option (Addr×List Std):=(ra.find? λr=>decide<|r.1=k).map (·.2)
noncomputable def tO(ra:Ra)(k:Str)(s:List Std):Ra:=ra.map λr=>if r.1=k then (r.1,r.2.1,s) else r
noncomputable def CI(rs:uo)(k:Str)(s:List Std):uo:=if (lu rs k).isSome then rs.map λr=>if r.1=k then (r.1,s) else r else rs++[(k,s)]
theorem gL(ra:Ra)(k:Str):lu (iq ra) k=(tN ra k).map (·.2):=by unfold lu tN iq;induction ra with|nil=>rfl|cons r ra ih=>rw[zy,zW,zW];by_cases h:r.1=k;rw[zw h];rfl;rw[zu h];exact ih
theorem ir(ra:Ra)(k:Str):cn (dI ra) (.inr k)=(tN ra k).map λp=>D.ref p.1:=by unfold cn tN dI;induction ra with|nil=>rfl|cons r ra ih=>rw[zy,zW,zW];by_cases h:r.1=k;rw[zw h];have:decide ((Sum.inr r.1:Key)=.inr k)=true:=zw (by rw[h]);dsimp only;rw[this];rfl;rw[zu h];have:decide ((Sum.inr r.1:Key)=.inr k)=false:=zu λe=>h<|yJ e;dsimp only;rw[this];exact ih
theorem cW(h:tN ra k=some (l,s)):(k,l,s)∈ra:=by unfold tN at h;cases q:ra.find? λr=>decide (r.1=k) with|none=>(rw[q]at h;cases h)|some r=>rw[q]at h;have h1:=List.find?_some q;have h2:=List.mem_of_find?_eq_some q;obtain⟨k',l',s'⟩:=r;have e:k'=k:=zB h1;cases h;rw[<-e];exact h2
theorem m_(h:tN ra k=none):∀r∈ra,r.1≠k:=by unfold tN at h;intro r hr e;have:=List.find?_eq_none.mp (Option.map_eq_none_iff.mp h) r hr;simp[e]at this
theorem gq:∀{l:List α}{x y:α},(l.map f).Nodup->x∈l->y∈l->f x=f y->x=y|z::l,x,y,nd,hx,hy,e=>by rw[zy]at nd;obtain⟨n1,n2⟩:=yk.mp nd;rcases zj.mp hx with ex|Tx;rcases zj.mp hy with ey|SO;rw[ex,ey];exact absurd (ze.mpr {y,SO,by rw[<-e,ex]}) n1;rcases zj.mp hy with ey|SO;exact absurd (ze.mpr {x,Tx,by rw[e,ey]}) n1;exact gq n2 Tx SO e
structure CJ(C:Addr)(S:ay)(a ld lr:Addr)(cs:List (Str×Str))(dl:List D)(ra:Ra):Prop where
 ins:S a=some (.ins C [("columns",.tup<|cs.map aw),("deeds",.ref ld),("runs",.ref lr)])
 Ah:S ld=some (.lst dl)
 run:S lr=some (.cO<|dI ra)
 cell:∀r∈ra,S r.2.1=some (.lst<|r.2.2.map jU)
 kn:(ra.map (·.1)).Nodup
 an:(ld::ra.map (·.2.1)).Nodup
 sz:∀r∈ra,r.2.2.length<=dl.length
def fp(a ld lr:Addr)(ra:Ra):List Addr:=a::ld::lr::ra.map (·.2.1)
def cA(C:Addr)(S:ay)(a:Addr)(F:List Addr)(cs:List<|Str×Str)(dl:List D)(rs:uo):Prop:=∃ld lr ra,CJ C S a ld lr cs dl ra/\F=fp a ld lr ra/\rs=iq ra
def CK(F F':List Addr)(S S':ay):Prop:=∀b c,b∉F->S b=some c->b∉F'/\S' b=some c
theorem CK.trans(a:CK F F1 S S1)(b:CK F1 F2 S1 S2):CK F F2 S S2:=λp c h e=>by obtain⟨h1,e1⟩:=a p c h e;exact b p c h1 e1
section
variable{C a ld lr:Addr}{S:ay}{cs:List (Str×Str)}{dl:List D}{ra:Ra}
theorem CJ.CL(h:CJ C S a ld lr cs dl ra){l:Addr}{ds:List D}(e:S l=some (.lst ds)):l≠a/\l≠lr:=by constructor;rintro rfl;rw[h.ins]at e;cases e;rintro rfl;rw[h.run]at e;cases e
theorem CJ.put(h:CJ C S a ld lr cs dl ra)(hk:tN ra k=some (l,s))(hs:s'.length<=dl.length):CJ C (S.set l<|.lst<|s'.map jU) a ld lr cs dl (tO ra k s'):=by
 have hm:=cW hk;have hl:=h.cell _ hm;obtain⟨n1,n2⟩:=h.CL hl;obtain⟨ZK,nd2⟩:=yk.mp h.an;have n3:l≠ld:=λe=>ZK (by rw[<-e];exact ze.mpr {_,hm,rfl});have e1:(tO ra k s').map (·.1)=ra.map (·.1):=by unfold tO;rw[zt];exact z0 λr _=>by dsimp only[Function.comp];split<;>rfl
 have e2:(tO ra k s').map (·.2.1)=ra.map (·.2.1):=by unfold tO;rw[zt];exact z0 λr _=>by dsimp only[Function.comp];split<;>rfl
 have e3:dI (tO ra k s')=dI ra:=by unfold dI tO;rw[zt];exact z0 λr _=>by dsimp only[Function.comp];split<;>rfl
 refine{by rw[ag n1.symm];exact h.ins,by rw[ag n3.symm];exact h.Ah,by rw[ag n2.symm,e3];exact h.run,λr hr=>?_,by rw[e1];exact h.kn,by rw[e2];exact h.an,λr hr=>?_};unfold tO at hr;obtain⟨r0,xp,e⟩:=ze.mp hr;by_cases q:r0.1=k;rw[if_pos q]at e;have er:r0=(k,l,s):=gq h.kn xp hm q;subst er e;rw[aa];rw[if_neg q]at e;subst e;have:r0.2.1≠l:=λe=>q (by have:=gq nd2 xp hm e;rw[this]);rw[ag this];exact h.cell _ xp;unfold tO at hr;obtain⟨r0,xp,e⟩:=ze.mp hr;by_cases q:r0.1=k;rw[if_pos q]at e;subst e;exact hs;rw[if_neg q]at e;subst e;exact h.sz _ xp
theorem CJ.add(h:CJ C S a ld lr cs dl ra)(hk:tN ra k=none)(hl:S l=none)(hs:s.length<=dl.length)(e1:S' l=some (.lst<|s.map jU))(e2:S' lr=some (.cO<|dI<|ra++[(k,l,s)]))(e3:∀b,b≠l->b≠lr->S' b=S b):CJ C S' a ld lr cs dl (ra++[(k,l,s)]):=by
 have n1:a≠l:=fS h.ins hl;have n2:ld≠l:=fS h.Ah hl;have n3:a≠lr:=by rintro rfl;have:=h.run;rw[h.ins]at this;cases this
 have n4:ld≠lr:=by rintro rfl;have:=h.run;rw[h.Ah]at this;cases this
 refine{by rw[e3 _ n1 n3];exact h.ins,by rw[e3 _ n2 n4];exact h.Ah,e2,λr hr=>?_,?_,?_,λr hr=>?_};rcases zM.mp hr with hr|hr;have hc:=h.cell r hr;rw[e3 _ (fS hc hl) (h.CL hc).2];exact hc;rw[zE.mp hr];exact e1;rw[zJ];exact mB h.kn λm=>by obtain⟨r,hr,e⟩:=ze.mp m;exact m_ hk r hr e
 rw[zJ,<-List.cons_append];refine mB h.an λm=>?_;rcases zj.mp m with e|m;exact n2 e.symm;obtain⟨r,hr,e⟩:=ze.mp m;exact fS (h.cell r hr) hl e;rcases zM.mp hr with hr|hr;exact h.sz r hr;rw[zE.mp hr];exact hs
theorem CJ.CM(h:CJ C S a ld lr cs dl ra)(d:D):CJ C (S.set ld<|.lst<|dl++[d]) a ld lr cs (dl++[d]) ra:=by obtain⟨n1,n2⟩:=h.CL h.Ah;obtain⟨ZK,nd2⟩:=yk.mp h.an;refine{by rw[ag n1.symm];exact h.ins,aa,by rw[ag n2.symm];exact h.run,λr hr=>?_,h.kn,h.an,λr hr=>by rw[zH];exact zG (h.sz r hr)<|Nat.le_add_right _ _};rw[ag λe=>ZK<|by rw[<-e];exact ze.mpr ⟨r,hr,rfl⟩];exact h.cell r hr
end
def Vd(C:Addr):iJ:=λds S R _=>∃a F cs dl rs,ds=[.ref a]/\cA C S a F cs dl rs/\R (.int (dl.length:Nat)) S
theorem wU(T:Txt w K mg t):v7 P w mg base T.fg 1 (Vd t.au):=by refine T.fg.F.ck wN ?_;rintro _ _ _ _ _ _ _ S R Z hr ⟨a,F,cs,dl,rs,e,⟨ld,lr,ra,h,_⟩,q⟩;subst e;refine{_,(s1<|sr<|cb bb T.aX aG<|ac (fl T.aq T.cH<|dv 0) an),?_};exact !{a,_,_,rfl,h.ins,rfl,_,rfl,.inl {dl,h.Ah,fo q}}
inductive eY (t:hW) (ds:List D) (S:ay) (R:KD) (Z:KX):Prop where
 |mk (a F cs dl rs) (h0:ds=[.ref a]) (h1:cA t.au S a F cs dl rs) (h2:R (.tup<|cs.map aw) S):eY t ds S R Z
theorem cg(T:Txt w K mg t):v7 P w mg base T.ba 1 (eY t):=by refine T.ba.F.ck jQ ?_;rintro _ _ _ _ _ _ _ S R Z hr ⟨a,F,cs,dl,rs,e,⟨ld,lr,ra,h,_⟩,q⟩;subst e;refine{_,(s1<|sr<|fl T.aq T.cK<|dv 0),?_};exact !{a,_,_,rfl,h.ins,rfl,fo q}
noncomputable def uq(n:Nat):D->Option Int|.av=>some n|.int i=>(if 0<=i/\i<=(n:Int) then some i else none)|_=>none
def Ma(C N:Addr):iJ:=λds S R Z=>∃a F cs dl rs m,ds=[.ref a,m]/\cA C S a F cs dl rs/\Gt S m/\(∀i,uq dl.length m=some i->R (.int i) S)/\(uq dl.length m=none->Z N S)
theorem je(T:Txt w K mg t):v7 P w mg base T.cw 2 (Ma t.au t.fw):=by
 refine T.cw.F.ck jm ?_;rintro _ _ _ _ _ _ _ S R Z hr ⟨a,F,cs,dl,rs,m,e,hS,hm,q1,q2⟩;subst e;obtain⟨ld,lr,ra,h,hF,tL⟩:=id hS;refine{_,(sc (si (bp fP hr.u (dv 1) dn) (s1<|sr<|t5 (dv 0) T.aq T.fg (wU T) hr) s0)<|sc (si (twd<|twor (bZ<|tv<|aJ T.jH (jS T) hr<|ac (dv 1) an)<|tw1<|bZ<|Wf jy jy hr.u di (dv 1)<|t5 (dv 0) T.aq T.fg (wU T) hr) (s1<|p8 ⟨T.lW⟩ T.y_<|ac ds an) s0)<|s1<|sr<|dv 1),?_};refine !!⟨?_⟩;refine bB (λh1=>?_) λh1=>?_;have e:m=.av:=by cases m<;>first|rfl|cases h1
 subst e;exact !{a,_,rfl,h.ins,rfl,a,F,cs,dl,rs,rfl,hS,fo<|q1 _ rfl};refine !{m,rfl,hm,_,rfl,?_};refine bB (λh2=>?_) λh2=>?_;have h2:=nt h2;have e:uq dl.length m=none:=by cases m with|av=>(cases h1)|int i=>(cases h2)|_=>rfl
 exact dP {sm<|by decide,fo<|q2 e};have h2:=nf h2;obtain⟨i,rfl⟩:∃i,m=.int i:=by cases m<;>first|exact{_,rfl}|cases h2
 refine !!⟨?_⟩;refine bB (λh3=>?_) λh3=>?_;have h3:0<=i:=zB h3;refine !{a,_,rfl,h.ins,rfl,a,F,cs,dl,rs,rfl,hS,_,rfl,?_};refine bB (λh4=>?_) λh4=>?_;have h4:¬i<=((dl.length:Nat):Int):=zO<|nt h4;exact{sm<|by decide,fo<|q2<|if_neg λz=>h4 z.2};have h4:i<=((dl.length:Nat):Int):=zB<|nf h4;exact{_,rfl,fo<|q1 i<|if_pos ⟨h3,h4⟩};have h3:¬0<=i:=zO h3;exact{_,rfl,dP {sm<|by decide,fo<|q2<|if_neg λz=>h3 z.1}}
inductive lx (ds:List D) (S:ay) (R:KD) (Z:KX):Prop where
 |mk (l vg m) (h0:ds=[.ref l,.int m]) (h1:S l=some (.lst<|vg.map jU)) (h2:R (wt vg m) S):lx ds S R Z
theorem jV(T:Txt w K mg t):Ok P w base T.gf 1 lx:=by
 refine T.gf.F.ck jO ?_;rintro _ _ _ _ _ _ _ S R Z hr ⟨l,vg,m,e,hl,q⟩;subst e;refine{_,(sc (xW<|FR (irv T.so<|ac (dv 0) an) (gn (i:=2) jO.nd)<|s1<|si (bp jy hr.u (ix hr.u (dv 2) di)<|dv 1) (s1<|sr<|Rx (twd<|twor (bp fP hr.u (ix hr.u (dv 2) di) dn)<|tw1<|bp jy hr.u (dv 1)<|ix hr.u (dv 2) di) (ix hr.u (dv 2) di) dn) s0)<|s1<|sr dn),?_};refine{λaF S'=>S'=S/\wt vg m=.av,?_,?_};refine !{_,_,rfl,hl,?_};refine{λi aF S'=>(∃o,aF=[some<|.ref l,some<|.int m,o])/\S'=S/\wt vg m=I_ (vg.reverse.drop i) m,{⟨none,rfl⟩,rfl,by rw[List.drop_zero];rfl},λi aF S' h=>by rw[h.2.1];exact hl,?_,?_};rintro i d aF S' hd ⟨⟨o,rfl⟩,rfl,hw⟩;rw[<-List.map_reverse,zp]at hd;cases e1:vg.reverse[i]? with|none=>(rw[e1]at hd;cases hd)|some sd=>rw[e1]at hd;cases hd;have e2:vg.reverse.drop i=sd::vg.reverse.drop (i+1):=(by obtain⟨hi,e⟩:=zf.mp e1;rw[yd hi,e]);obtain⟨sb,se,sw⟩:=sd;rw[e2]at hw;refine !!!!⟨?_⟩;unfold I_ at hw;refine bB (λh=>?_) λh=>?_;rw[if_pos<|zB h]at hw;refine !!!⟨?_⟩;(cases se with|none=>refine dP<|dP !!⟨?_⟩;rw[hw]at q;exact fo q|some n=>refine br !!!!⟨?_⟩;dsimp only at hw;refine bB (λh=>?_) λh=>?_;rw[if_pos<|zB h]at hw;rw[hw]at q;exact !!⟨fo q⟩;rw[if_neg<|zO h]at hw;rw[hw]at q;exact fo q);rw[if_neg<|zO h]at hw;exact{{_,rfl},rfl,hw}
 rintro aF S' ⟨_,rfl,hw⟩;refine fo {rfl,?_};rw[hw,yA,zb,List.drop_eq_nil_of_le<|by rw[yA];exact zo _];rfl;rintro aF S' ⟨rfl,hw⟩;rw[hw]at q;exact fo q
noncomputable def A_(rs:uo)(k:D)(i:Int):D:=match k with|.str z=>(if kO z=true then wt ((lu rs z).getD []) i else .av)|_=>.av
def Ve(C N:Addr):iJ:=λds S R Z=>∃a F cs dl rs k m,ds=[.ref a,k,m]/\cA C S a F cs dl rs/\Gt S k/\Gt S m/\(∀i,uq dl.length m=some i->R (A_ rs k i) S)/\(uq dl.length m=none->Z N S)
theorem ng(T:Txt w K mg t):v7 P w mg base T.cT 3 (Ve t.au t.fw):=by
 refine T.cT.F.ck fH ?_;rintro _ _ _ _ _ _ _ S R Z hr ⟨a,F,cs,dl,rs,k,m,e,hS,hk,hm,q1,q2⟩;subst e;obtain⟨ld,lr,ra,h,hF,tL⟩:=id hS;refine{_,(sc (cC (i:=3) fH.nd<|tM (dv 0) T.aq T.cw (je T) hr<|ac (dv 2) an)<|sc (si (bZ<|tv<|aJ T.lX (ip T) hr<|ac (dv 1) an) (s1<|sr dn) s0)<|s1<|sr<|aJ T.gf (jV T) hr<|ac (mg2 hr.u (fl T.aq T.bS<|dv 0) (dv 1)<|cG an)<|ac (dv 3) an),?_};refine !{a,_,rfl,h.ins,rfl,_,rfl,a,F,cs,dl,rs,m,rfl,hS,hm,λi hi=>?_,λhn=>fo<|q2 hn};have q:=q1 i hi;refine !{k,rfl,hk,_,rfl,?_};refine bB (λh1=>?_) λh1=>?_;have e:A_ rs k i=.av:=by cases k with|str z=>exact if_neg (by rw[show kO z=false from nt h1];exact zd)|_=>rfl
 rw[e]at q;exact fo q;have h1:=nf h1;obtain⟨z,rfl⟩:∃z,k=.str z:=by cases k with|str z=>exact⟨z,rfl⟩|_=>cases h1
 have e:A_ rs (.str z) i=wt ((lu rs z).getD []) i:=if_pos h1;rw[e]at q;refine !{a,_,_,rfl,h.ins,rfl,lr,_,rfl,h.run,_,rfl,sm<|by decide,λp hp=>{dI ra,.inr z,?_,rfl,?_}};rw[ag<|fS h.run hp];exact h.run;rw[ir];refine{_,rfl,?_};cases e1:tN ra z with|none=>have e2:lu rs z=none:=(by rw[tL,gL,e1];rfl);rw[e2]at q;exact{p,[],i,rfl,aa,S,.new hp,q}|some ls=>obtain⟨l,vg⟩:=ls;have e2:lu rs z=some vg:=(by rw[tL,gL,e1];rfl);rw[e2]at q;have hc:=h.cell _<|cW e1;exact{l,vg,i,rfl,by rw[ag<|fS hc hp];exact hc,S,.new hp,q}
theorem NK(h:tN ra k=some (l,s)):CI (iq ra) k s'=iq (tO ra k s'):=by unfold CI;rw[gL,h,if_pos<|show(Option.map (λx:Addr×List Std=>x.2)<|some (l,s)).isSome=true from rfl];unfold iq tO;rw[zt,zt];exact z0 λr _=>by dsimp only[Function.comp];split<;>rfl
theorem Qt(h:tN ra k=none):CI (iq ra) k s=iq (ra++[(k,l,s)]):=by unfold CI;rw[gL,h,if_neg<|show ¬(Option.map (λx:Addr×List Std=>x.2) none).isSome=true from zd];unfold iq;rw[zJ];rfl
theorem Qu(h:tN ra k=none):dput (dI ra) (.inr k) (.ref l)=dI (ra++[(k,l,s)]):=by
 unfold dput;have e:((dI ra).any λkv=>decide<|kv.1=.inr k)=false:=by rw[List.any_eq_false];intro x hx;unfold dI at hx;obtain⟨r,hr,rfl⟩:=ze.mp hx;simp only[yj];exact λe=>m_ h r hr<|yJ e
 rw[e,if_neg zd];unfold dI;rw[zJ];rfl
theorem Ja:fp a ld lr (tO ra k s)=fp a ld lr ra:=by unfold fp tO;rw[zt];congr 3;exact z0 λr _=>by dsimp only[Function.comp];split<;>rfl
theorem sP(h:l∈F):CK F F S (S.set l c):=λb x hb e=>{hb,by rw[ag<|show b≠l from λz=>hb<|by rw[z];exact h];exact e}
theorem Jb(h:r∈ra):r.2.1∈fp a ld lr ra:=zg _<|zg _<|zg _<|ze.mpr ⟨r,h,rfl⟩
def Mb(C:Addr):iJ:=λds S R _=>∃a F cs dl rs z ws,ds=[.ref a,.str z,.tup ws]/\cA C S a F cs dl rs/\((lu rs z).getD []).length<dl.length/\dl.length<=9000/\rs.length<=9000/\∀S' F',cA C S' a F' cs dl (CI rs z<|(lu rs z).getD []++[Std.mk dl.length none ws])->CK F F' S S'->R .av S'
theorem Ai(T:Txt w K mg t):v7 P w mg base T.bP 2 (Mb t.au):=by
 refine T.bP.F.ck ik ?_;rintro _ _ _ _ _ _ _ S R Z hr ⟨a,F,cs,dl,rs,z,ws,e,⟨ld,lr,ra,h,hF,tL⟩,hl,hd,hn,q⟩;subst e hF tL;have JY:(dI ra).length<=9000:=by unfold iq at hn;unfold dI;rw[zb]at hn⊢;exact hn
 refine{_,(s1<|se<|bm zR yf yg du (ms2 (fl T.aq T.bS<|dv 0) (dv 1)<|cG an)<|ac (cy<|ac (t5 (dv 0) T.aq T.fg (wU T) hr)<|ac dn<|ac (dv 2) an) an),?_};refine !{a,_,_,rfl,h.ins,rfl,lr,dI ra,rfl,h.run,_,rfl,sm<|by decide,λp hp=>{dI ra,.inr z,?_,rfl,bg<|by lia,λd Bh=>?_,λhn=>?_}};rw[ag<|fS h.run hp];exact h.run;rw[ir]at Bh;cases e1:tN ra z with|none=>(rw[e1]at Bh;cases Bh)|some ls=>obtain⟨l,vg⟩:=ls;rw[e1]at Bh;cases Bh;have e2:lu (iq ra) z=some vg:=(by rw[gL,e1];rfl);rw[e2]at q hl;have hc:=h.cell _<|cW e1;have JZ:(S.set p<|.lst []) l=some (.lst<|vg.map jU):=(by rw[ag<|fS hc hp];exact hc);have hi':(S.set p<|.lst []) a=some (.ins t.au [("columns",.tup<|cs.map aw),("deeds",.ref ld),("runs",.ref lr)]):=(by rw[ag<|fS h.ins hp];exact h.ins);have nO:CJ t.au (S.set p<|.lst []) a ld lr cs dl ra:={hi',by rw[ag<|fS h.Ah hp];exact h.Ah,by rw[ag<|fS h.run hp];exact h.run,λr hr=>by rw[ag<|fS (h.cell r hr) hp];exact h.cell r hr,h.kn,h.an,h.sz};refine{{rfl,_,JZ},_,rfl,a,_,rfl,hi',rfl,a,_,cs,dl,_,rfl,⟨ld,lr,ra,nO,rfl,rfl⟩,_,rfl,gJ,?_};have hle:vg.length<dl.length:=hl;refine{l,vg.map jU,_,rfl,rfl,JZ,bg<|by rw[zb];lia,S.set l<|.lst<|(vg++[Std.mk dl.length none ws]).map jU,λb c hb=>?_,q _ _ {ld,lr,_,h.put e1<|by rw[zH];show vg.length+1<=_;lia,rfl,NK e1} ?_};by_cases ZL:b=l;subst ZL;rw[aa]at hb⊢;rw[zJ]at hb;exact hb;rw[ag ZL]at hb;rw[ag ZL,ag<|fS hb hp];exact hb;rw[Ja];exact sP<|Jb<|cW e1
 rw[ir]at hn;cases e1:tN ra z with|some ls=>(rw[e1]at hn;cases hn)|none=>have e2:lu (iq ra) z=none:=(by rw[gL,e1];rfl);rw[e2]at q hl;have npr:p≠lr:=(fS h.run hp).symm;generalize Ep:(S.set p<|.lst []).set lr _=S1;have ZM:S1 p=some (.lst []):=(by rw[<-Ep,ag npr,aa]);have s1r:S1 lr=some (.cO<|dI<|ra++[(z,p,[])]):=(by rw[<-Ep,aa,Qu e1]);have ZO:∀b,b≠p->b≠lr->S1 b=S b:=λb h1 h2=>(by rw[<-Ep,ag h2,ag h1]);have nO:CJ t.au S1 a ld lr cs dl (ra++[(z,p,[])]):=h.add e1 hp (zY _) ZM s1r ZO;refine{{rfl,_,ZM},_,rfl,a,_,rfl,nO.ins,rfl,a,_,cs,dl,_,rfl,{ld,lr,_,nO,rfl,rfl},_,rfl,gJ,?_};refine{p,[],_,rfl,rfl,ZM,bg<|by show 0<=_;lia,S1.set p<|.lst<|[Std.mk dl.length none ws].map jU,.refl _,q _ _ {ld,lr,ra++[(z,p,[Std.mk dl.length none ws])],h.add e1 hp (by show 1<=_;have:0<dl.length:=hl;lia) aa ?_ λb h1 h2=>by rw[ag h1];exact ZO b h1 h2,rfl,Qt e1} ?_};rw[ag npr.symm,s1r];unfold dI;rw[zJ,zJ];rfl;intro b c hb e;have h1:b≠p:=fS e hp;have h2:b≠lr:=λz=>hb (by rw[z];exact zg _<|zg _ zr);refine{λm=>?_,by rw[ag h1,ZO b h1 h2];exact e};unfold fp at m hb;rw[zJ]at m;rcases zj.mp m with m|m;exact hb<|m ▸ zr;rcases zj.mp m with m|m;exact hb<|m ▸ zg _ zr;rcases zj.mp m with m|m;exact h2 m;rcases zM.mp m with m|m;exact hb<|zg _<|zg _<|zg _ m;exact h1<|zE.mp m
noncomputable def iV(n:Nat)(l:List Std):List Std:=l.dropLast++(l.getLast?.map λs=>Std.mk s.b (some n) s.ws).toList
noncomputable def oJ(rs:uo)(z:Str)(n:Nat):uo:=CI rs z<|iV n<|(lu rs z).getD []
noncomputable def ur(rs:uo)(z:Str)(n:Nat)(ws:List D):uo:=CI rs z<|(lu rs z).getD []++[Std.mk n none ws]
theorem Jc(h:cA C S a F cs dl rs)(z:Str):((lu rs z).getD []).length<=dl.length:=by obtain⟨ld,lr,ra,h,_,rfl⟩:=h;rw[gL];cases e:tN ra z with|none=>exact zY _|some ls=>exact h.sz _<|cW (l:=ls.1) (s:=ls.2) e
theorem Mc(rs:uo)(z:Str)(s:List Std):(CI rs z s).length<=rs.length+1:=by unfold CI;split;rw[zb];lia;rw[zH];exact zo _
theorem fc:lu (r::rs) k=if r.1=k then some r.2 else lu rs k:=by unfold lu;rw[zW];by_cases h:r.1=k;rw[zw h,if_pos h];rfl;rw[zu h,if_neg h]
theorem jW:lu (CI rs z s) k=if k=z then some s else lu rs k:=by
 unfold CI;by_cases hs:(lu rs z).isSome=true;rw[if_pos hs];by_cases hk:k=z;subst hk;rw[if_pos rfl];induction rs with|nil=>(cases hs)|cons r rs ih=>rw[zy,fc];by_cases h:r.1=k;rw[if_pos h,if_pos h];rw[if_neg h,if_neg h];rw[fc,if_neg h]at hs;exact ih hs
 rw[if_neg hk];clear hs;induction rs with|nil=>rfl|cons r rs ih=>rw[zy,fc,fc,ih];by_cases h:r.1=z;rw[if_pos h,if_neg<|show ¬r.1=k from λe=>hk<|e.symm.trans h,if_neg<|show ¬r.1=k from λe=>hk<|e.symm.trans h];rw[if_neg h]
 rw[if_neg hs];have hn:lu rs z=none:=by cases e:lu rs z<;>simp_all
 clear hs;induction rs with|nil=>rw[List.nil_append,fc];by_cases hk:k=z;rw[if_pos hk,if_pos hk.symm];rw[if_neg hk,if_neg λe=>hk e.symm]|cons r rs ih=>rw[fc]at hn;by_cases h:r.1=z;rw[if_pos h]at hn;cases hn;rw[if_neg h]at hn;rw[List.cons_append,fc,fc,ih hn];by_cases h2:r.1=k;rw[if_pos h2,if_pos h2,if_neg<|show ¬k=z from λe=>h<|h2.trans e];rw[if_neg h2,if_neg h2]
def Vf(C:Addr):iJ:=λds S R _=>∃a F cs dl rs z,ds=[.ref a,.str z]/\cA C S a F cs dl rs/\(∃s,lu rs z=some s/\s≠[])/\dl.length<=9000/\∀S',cA C S' a F cs dl (oJ rs z dl.length)->CK F F S S'->R .av S'
theorem kB(h:l≠[]):∃r s,l=r++[s]:={l.dropLast,l.getLast h,(List.dropLast_concat_getLast h).symm}
theorem eJ(n:Nat)(r:List Std)(s:Std):iV n (r++[s])=r++[Std.mk s.b (some n) s.ws]:=by unfold iV;rw[List.dropLast_concat,List.getLast?_concat];rfl
theorem Jd(T:Txt w K mg t):v7 P w mg base T.cu 2 (Vf t.au):=by refine T.cu.F.ck dM ?_;rintro _ _ _ _ _ _ _ S R Z hr ⟨a,F,cs,dl,rs,z,e,⟨ld,lr,ra,h,hF,tL⟩,⟨s0,Rq,Ba⟩,hd,q⟩;subst e hF tL;rw[gL]at Rq;cases e1:tN ra z with|none=>(rw[e1]at Rq;cases Rq)|some ls=>obtain⟨l,vg⟩:=ls;rw[e1]at Rq;cases Rq;obtain⟨r,sd,rfl⟩:=kB Ba;have hlen:=h.sz _<|cW e1;dsimp only at hlen;rw[zH]at hlen;have hlen:r.length+1<=dl.length:=hlen;have hc:=h.cell _<|cW e1;dsimp only at hc;have ed:cn (dI ra) (.inr z)=some (.ref l):=(by rw[ir,e1];rfl);refine{_,(sc (cC (i:=2) dM.nd<|bm0 zR PySem.F.slot_list_pop PySem.F.type_list_pop T9<|ix hr.u (fl T.aq T.bS<|dv 0)<|dv 1)<|s1<|se<|bm zR yf yg du (ix hr.u (fl T.aq T.bS<|dv 0)<|dv 1)<|ac (cy<|ac (ix hr.u (dv 2) di)<|ac (t5 (dv 0) T.aq T.fg (wU T) hr)<|ac (ix hr.u (dv 2) di) an) an),?_};refine !{a,_,_,rfl,h.ins,rfl,_,rfl,dI ra,_,h.run,ed,{rfl,_,hc},l,_,jU sd,rfl,rfl,hc,?_,?_};rw[zJ,zH];show(r.map jU++[jU sd])[(r.map jU).length+1-1]?=_;simp;have e2:((r++[sd]).map jU).dropLast=r.map jU:=(by rw[zJ];exact List.dropLast_concat);rw[e2];have h1:CJ t.au (S.set l<|.lst<|r.map jU) a ld lr cs dl (tO ra z r):=h.put e1 (by lia);generalize Ep:S.set l _=S1 at h1;have ZP:tN (tO ra z r) z=some (l,r):=(by have hm:(z,l,r)∈tO ra z r:=(by unfold tO;exact ze.mpr {_,cW e1,if_pos rfl});cases e3:tN (tO ra z r) z with|none=>exact absurd rfl (m_ e3 _ hm)|some x=>exact congrArg some<|congrArg Prod.snd<|gq (f:=λr:Str×Addr×List Std=>r.1) h1.kn (cW (l:=x.1) (s:=x.2) e3) hm rfl);have ed':cn (dI<|tO ra z r) (.inr z)=some (.ref l):=(by rw[ir,ZP];rfl);have WO:=h1.cell _<|cW ZP;refine !{a,_,_,rfl,h1.ins,rfl,_,rfl,_,_,h1.run,ed',{rfl,_,WO},_,rfl,_,rfl,_,rfl,a,_,rfl,h1.ins,rfl,a,_,cs,dl,_,rfl,{ld,lr,_,h1,rfl,rfl},_,rfl,_,rfl,gJ,l,_,_,rfl,rfl,WO,bg<|by rw[zb];show r.length<=_;lia,?_};have h2:=h1.put (s':=r++[Std.mk sd.b (some dl.length) sd.ws]) ZP (by rw[zH];exact hlen);have e4:oJ (iq ra) z dl.length=iq (tO (tO ra z r) z<|r++[Std.mk sd.b (some dl.length) sd.ws]):=(by unfold oJ;rw[gL,e1];show CI (iq ra) z (iV dl.length<|r++[sd])=_;rw[eJ,NK e1];unfold iq tO;rw[zt,zt,zt];exact z0 λx _=>by dsimp only[Function.comp];by_cases hx:x.1=z<;>simp[hx]);refine{_,?_,q _ {ld,lr,_,h2,by rw[Ja,Ja],e4} ?_};show Sub (S1.set l<|.lst<|(r++[_]).map jU) (S1.set l<|.lst<|r.map jU++[_]);rw[zJ];exact .refl _;rw[<-Ep,dQ];exact sP<|Jb<|cW e1
theorem Er(h:ofStr kO d=true):∃z,d=.str z/\kO z=true:=by cases d with|str z=>exact⟨z,rfl,h⟩|_=>cases h
theorem Es(h:oG cs k v=true):∃z ws,k=.str z/\v=.tup ws/\kO z=true:=by unfold oG at h;rw[zL]at h;obtain⟨z,rfl,hz⟩:=Er h.1;cases v with|tup ws=>exact⟨z,ws,rfl,rfl,hz⟩|_=>exact absurd h.2 zd
theorem wV:Gt S .av:={{.av,rfl},λ_=>nofun}
theorem NL(h:ah (wt l m)=false):l≠[]:=by rintro rfl;cases h
theorem wW(hz:kO z=true)(i:Int):A_ rs (.str z) i=wt ((lu rs z).getD []) i:=if_pos hz
inductive eK (t:hW) (ds:List D) (S:ay) (R:KD) (Z:KX):Prop where
 |mk (a F cs dl rs k) (h0:ds=[.ref a,k]) (h1:cA t.au S a F cs dl rs) (h2:Gt S k) (h3:(ah (A_ rs k dl.length)=false->R .av S)) (h4:(ah (A_ rs k dl.length)=true->Z t.mM S)):eK t ds S R Z
theorem jf(T:Txt w K mg t):v7 P w mg base T.cq 4 (eK t):=by refine T.cq.F.ck jl ?_;rintro _ _ _ _ _ _ _ S R Z hr ⟨a,F,cs,dl,rs,k,e,hS,hk,q1,q2⟩;subst e;obtain⟨ld,lr,ra,h,_⟩:=id hS;refine{_,(s1<|si (bp fP hr.u (Ui (dv 0) T.aq T.cT.e ((ng T).mono<|by decide) hr T.eW d1<|ac (dv 1) an) dn) (s1<|p8 ⟨T.wj⟩ T.IV<|ac ds an) s0),?_};refine !{a,_,rfl,h.ins,rfl,_,rfl,a,F,cs,dl,rs,k,.av,rfl,hS,hk,wV,λi hi=>?_,λhn=>by cases hn};cases hi;refine{_,rfl,?_};refine bB (λh1=>?_) λh1=>?_;exact{sI,fo<|q2 h1};exact fo<|q1 h1
inductive jX (t:hW) (ds:List D) (S:ay) (R:KD) (Z:KX):Prop where
 |mk (a F cs dl rs k v) (h0:ds=[.ref a,k,v]) (h1:cA t.au S a F cs dl rs) (h2:cs.length<=8) (h3:Gt S k) (h4:RP S v) (h5:dl.length<=8000) (h6:rs.length<=8000) (h7:(oG cs k v=false->Z t.h_ S)) (h8:(oG cs k v=true->ah (A_ rs k dl.length)=false->Z t.r_ S)) (h9:(∀z ws,k=.str z->v=.tup ws->oG cs k v=true->ah (A_ rs k dl.length)=true->∀S' F',cA t.au S' a F' cs (dl++[.tup [.str "put",k,v]]) (ur rs z (dl.length+1) ws)->CK F F' S S'->R .av S')):jX t ds S R Z
theorem Qv(T:Txt w K mg t):v7 P w mg base T.fe 6 (jX t):=by refine T.fe.F.ck wM ?_;rintro _ _ _ _ _ _ _ S R Z hr ⟨a,F,cs,dl,rs,k,v,e,hS,hc,hk,hv,hd,hn,q1,q2,q3⟩;subst e;obtain⟨ld,lr,ra,h,hF,tL⟩:=id hS;refine{_,(sc (se<|aJ T.ku (m9 T) hr<|ac (fl T.aq T.cK<|dv 0)<|ac (cy<|ac (dv 1)<|ac (dv 2) an) an)<|sc (si (bp lM hr.u (Ui (dv 0) T.aq T.cT.e ((ng T).mono<|by decide) hr T.eW d1<|ac (dv 1) an) dn) (s1<|p8 ⟨T.su⟩ T.Gj<|ac ds an) s0)<|sc (se<|bm zR yf yg du (fl T.aq T.cH<|dv 0)<|ac (cy<|ac ds<|ac (dv 1)<|ac (dv 2) an) an)<|s1<|se<|tM (dv 0) T.aq T.bP (Ai T) hr<|ac (dv 1)<|ac (dv 2) an),?_};refine !{a,_,_,rfl,h.ins,rfl,_,rfl,_,rfl,bC,cs,k,v,rfl,hc,hk,hv,λvh=>?_,λxp=>fo<|q1 xp};refine !{a,_,rfl,h.ins,rfl,_,rfl,a,F,cs,dl,rs,k,.av,rfl,hS,hk,wV,λi hi=>?_,λhn=>by cases hn};cases hi;refine{_,rfl,?_};refine bB (λh1=>?_) λh1=>?_;exact{sI,fo<|q2 vh<|nt h1};obtain⟨z,ws,rfl,rfl,hz⟩:=Es vh;refine !{a,_,_,rfl,h.ins,rfl,{rfl,_,h.Ah},_,rfl,_,rfl,gJ,ld,dl,_,rfl,rfl,h.Ah,bg<|by lia,?_};have FD:=h.CM<|.tup [.str "put",.str z,.tup ws];have Ep:cA t.au (S.set ld<|.lst<|dl++[.tup [.str "put",.str z,.tup ws]]) a F cs (dl++[.tup [.str "put",.str z,.tup ws]]) rs:=⟨ld,lr,ra,FD,hF,tL⟩;have hl:=Jc hS z;refine !{a,_,rfl,FD.ins,rfl,_,rfl,_,rfl,a,F,cs,_,rs,z,ws,rfl,Ep,by rw[zH];exact Nat.lt_succ_of_le hl,by rw[zH];show dl.length+1<=_;lia,by lia,λS' F' nO hK=>fo<|q3 z ws rfl rfl vh (nf h1) S' F' ?_ ?_};have:(dl++[D.tup [.str "put",.str z,.tup ws]]).length=dl.length+1:=zH;rw[this]at nO;exact nO;refine CK.trans (sP ?_) hK;rw[hF];exact zg _ zr
inductive fJ (t:hW) (ds:List D) (S:ay) (R:KD) (Z:KX):Prop where
 |mk (a F cs dl rs k v) (h0:ds=[.ref a,k,v]) (h1:cA t.au S a F cs dl rs) (h2:cs.length<=8) (h3:Gt S k) (h4:RP S v) (h5:dl.length<=8000) (h6:rs.length<=8000) (h7:(oG cs k v=false->Z t.h_ S)) (h8:(oG cs k v=true->ah (A_ rs k dl.length)=true->Z t.mM S)) (h9:(∀z ws,k=.str z->v=.tup ws->oG cs k v=true->ah (A_ rs k dl.length)=false->∀S' F',cA t.au S' a F' cs (dl++[.tup [.str "change",k,v]]) (ur (oJ rs z dl.length) z (dl.length+1) ws)->CK F F' S S'->R .av S')):fJ t ds S R Z
theorem Gy(T:Txt w K mg t):v7 P w mg base T.cL 6 (fJ t):=by
 refine T.cL.F.ck qm ?_;rintro _ _ _ _ _ _ _ S R Z hr ⟨a,F,cs,dl,rs,k,v,e,hS,hc,hk,hv,hd,hn,q1,q2,q3⟩;subst e;obtain⟨ld,lr,ra,h,hF,tL⟩:=id hS;refine{_,(sc (se<|aJ T.ku (m9 T) hr<|ac (fl T.aq T.cK<|dv 0)<|ac (cy<|ac (dv 1)<|ac (dv 2) an) an)<|sc (se<|tM (dv 0) T.aq T.cq (jf T) hr<|ac (dv 1) an)<|sc (se<|tM (dv 0) T.aq T.cu (Jd T) hr<|ac (dv 1) an)<|sc (se<|bm zR yf yg du (fl T.aq T.cH<|dv 0)<|ac (cy<|ac ds<|ac (dv 1)<|ac (dv 2) an) an)<|s1<|se<|tM (dv 0) T.aq T.bP (Ai T) hr<|ac (dv 1)<|ac (dv 2) an),?_};refine !{a,_,_,rfl,h.ins,rfl,_,rfl,_,rfl,bC,cs,k,v,rfl,hc,hk,hv,λvh=>?_,λxp=>fo<|q1 xp};refine !{a,_,rfl,h.ins,rfl,_,rfl,a,F,cs,dl,rs,k,rfl,hS,hk,λh1=>?_,λh1=>fo<|q2 vh h1};obtain⟨z,ws,rfl,rfl,hz⟩:=Es vh;have Ba:∃s,lu rs z=some s/\s≠[]:=by rw[wW hz]at h1;have:=NL h1;cases e:lu rs z with|none=>rw[e]at this;exact absurd rfl this|some s=>rw[e]at this;exact⟨s,rfl,this⟩
 refine !{a,_,rfl,h.ins,rfl,_,rfl,a,F,cs,dl,rs,z,rfl,hS,Ba,by lia,λS1 Ep RQ=>?_};obtain⟨RS,ZQ,ZR,FD,Vh,Qw⟩:=id Ep;refine !{a,_,_,rfl,FD.ins,rfl,{rfl,_,FD.Ah},_,rfl,_,rfl,gJ,RS,dl,_,rfl,rfl,FD.Ah,bg<|by lia,?_};have h2:=FD.CM<|.tup [.str "change",.str z,.tup ws];have Et:cA t.au (S1.set RS<|.lst<|dl++[.tup [.str "change",.str z,.tup ws]]) a F cs (dl++[.tup [.str "change",.str z,.tup ws]]) (oJ rs z dl.length):=⟨RS,ZQ,ZR,h2,Vh,Qw⟩;have hl:=Jc Ep z;have uZ:(oJ rs z dl.length).length<=rs.length+1:=Mc _ _ _;refine !{a,_,rfl,h2.ins,rfl,_,rfl,_,rfl,a,F,cs,_,_,z,ws,rfl,Et,by rw[zH];exact Nat.lt_succ_of_le hl,by rw[zH];show dl.length+1<=_;lia,by lia,λS' F' nO hK=>fo<|q3 z ws rfl rfl vh h1 S' F' ?_ ?_};have:(dl++[D.tup [.str "change",.str z,.tup ws]]).length=dl.length+1:=zH;rw[this]at nO;exact nO;refine RQ.trans<|CK.trans (sP ?_) hK;rw[Vh];exact zg _ zr
inductive iW (t:hW) (ds:List D) (S:ay) (R:KD) (Z:KX):Prop where
 |mk (a F cs dl rs k) (h0:ds=[.ref a,k]) (h1:cA t.au S a F cs dl rs) (h2:Gt S k) (h3:dl.length<=8000) (h4:(ofStr kO k=false->Z t.h_ S)) (h5:(ofStr kO k=true->ah (A_ rs k dl.length)=true->Z t.mM S)) (h6:(∀z,k=.str z->kO z=true->ah (A_ rs k dl.length)=false->∀S',cA t.au S' a F cs (dl++[.tup [.str "take",k]]) (oJ rs z dl.length)->CK F F S S'->R .av S')):iW t ds S R Z
theorem Md(T:Txt w K mg t):v7 P w mg base T.dW 6 (iW t):=by
 refine T.dW.F.ck uk ?_;rintro _ _ _ _ _ _ _ S R Z hr ⟨a,F,cs,dl,rs,k,e,hS,hk,hd,q1,q2,q3⟩;subst e;obtain⟨ld,lr,ra,h,hF,tL⟩:=id hS;refine{_,(sc (si (bZ<|tv<|aJ T.lX (ip T) hr<|ac (dv 1) an) (s1<|p8 ⟨T.ib⟩ T.ko<|ac ds an) s0)<|sc (se<|tM (dv 0) T.aq T.cq (jf T) hr<|ac (dv 1) an)<|sc (se<|tM (dv 0) T.aq T.cu (Jd T) hr<|ac (dv 1) an)<|s1<|se<|bm zR yf yg du (fl T.aq T.cH<|dv 0)<|ac (cy<|ac ds<|ac (dv 1) an) an),?_};refine !{k,rfl,hk,_,rfl,?_};refine bB (λh0=>?_) λh0=>?_;exact{sI,fo<|q1<|nt h0};have h0:=nf h0;refine !{a,_,rfl,h.ins,rfl,_,rfl,a,F,cs,dl,rs,k,rfl,hS,hk,λh1=>?_,λh1=>fo<|q2 h0 h1};obtain⟨z,rfl,hz⟩:=Er h0;have Ba:∃s,lu rs z=some s/\s≠[]:=by rw[wW hz]at h1;have:=NL h1;cases e:lu rs z with|none=>rw[e]at this;exact absurd rfl this|some s=>rw[e]at this;exact⟨s,rfl,this⟩
 refine !{a,_,rfl,h.ins,rfl,_,rfl,a,F,cs,dl,rs,z,rfl,hS,Ba,by lia,λS1 Ep RQ=>?_};obtain⟨RS,ZQ,ZR,FD,Vh,Qw⟩:=id Ep;refine !{a,_,_,rfl,FD.ins,rfl,{rfl,_,FD.Ah},_,rfl,bC,RS,dl,_,rfl,rfl,FD.Ah,bg<|by lia,?_};refine fo<|q3 z rfl hz h1 _ {RS,ZQ,ZR,FD.CM _,Vh,Qw}<|RQ.trans<|sP ?_;rw[Vh];exact zg _ zr
inductive iu (t:hW) (ds:List D) (S:ay) (R:KD) (Z:KX):Prop where
 |mk (a cs) (h0:ds=[.ref a,.tup<|cs.map aw]) (h1:Gd cs) (h2:S a=some (.ins t.au [])) (h3:∀S' F,cA t.au S' a F cs [] []->CK [a] F S S'->R .av S'):iu t ds S R Z
theorem Me(T:Txt w K mg t):v7 P w mg base T.fE 5 (iu t):=by
 refine T.fE.F.ck m6 ?_;rintro _ _ _ _ _ _ _ S R Z hr ⟨a,cs,e,hg,ha,q⟩;subst e;refine{_,(sc (se<|aJ T.gH (oI T) hr<|ac (dv 1) an)<|sc (sf T.aq T.cK (dv 0)<|dv 1)<|sc (sf T.aq T.cH (dv 0)<|cG an)<|s1<|sf T.aq T.bS (dv 0) TV),?_};refine !{cs,rfl,hg,_,rfl,_,rfl,a,[],rfl,ha,(show 0<1000 by decide),?_};refine{Ag,λld RT=>!{a,[("columns",.tup<|cs.map aw)],rfl,?_,(show 1<1000 by decide),λlr uZ=>!{a,[("columns",.tup<|cs.map aw),("deeds",.ref ld)],rfl,?_,(show 2<1000 by decide),?_}}};have nl:a≠ld:=by rintro rfl;rw[aa]at RT;cases RT
 rw[ag nl,aa];rfl;have nl:a≠lr:=by rintro rfl;rw[aa]at uZ;cases uZ
 rw[ag nl,aa];rfl;have n1:a≠ld:=by rintro rfl;rw[aa]at RT;cases RT
 have n2:a≠lr:=by rintro rfl;rw[aa]at uZ;cases uZ
 have n3:ld≠lr:=by rintro rfl;rw[ag n1.symm,aa]at uZ;cases uZ
 rw[ag n1.symm]at RT;rw[ag n2.symm,ag n3.symm,ag n2.symm]at uZ;refine fo<|q _ (fp a ld lr []) {ld,lr,[],{aa,?_,?_,λr hr=>(nomatch hr),List.nodup_nil,(by simp),λr hr=>(nomatch hr)},rfl,rfl} λb c hb e=>?_;rw[ag n1.symm,ag n3,ag n1.symm,aa];rw[ag n2.symm,aa];rfl;have b1:b≠a:=λz=>hb (by rw[z];exact zr);have b2:b≠ld:=fS e RT;have b3:b≠lr:=fS e uZ;refine{λm=>?_,by rw[ag b1,ag b3,ag b1,ag b2,ag b1];exact e};unfold fp at m;simp only[List.map_nil,zj,zI,or_false]at m;rcases m with m|m|m;exact b1 m;exact b2 m;exact b3 m
noncomputable def wX(rs:uo)(i:Int)(z:Str):D:=.tup [.str z,wt ((lu rs z).getD []) i]
noncomputable def l8(rs:uo)(i:Int)(ss:List Str):List D:=(ss.filter λz=>!ah (wt ((lu rs z).getD []) i)).map<|wX rs i
noncomputable def wY:D->Bool|.tup [_,x]=>!ah x|_=>false
theorem Aj(ss:List Str):((ss.map<|wX rs i).filter wY).map id=l8 rs i ss:=by unfold l8;rw[List.map_id,List.filter_map];rfl
def Vi(C N:Addr):iJ:=λds S R Z=>∃a F cs dl rs m,ds=[.ref a,m]/\cA C S a F cs dl rs/\rs.length<64/\Gt S m/\(∀i ss,uq dl.length m=some i->ss.Perm (rs.map (·.1))->PyProof.Rows.sortedS ss=true->∀p,S p=none->R (.ref p) (S.set p<|.lst<|l8 rs i ss))/\(uq dl.length m=none->Z N S)
theorem Gz(T:Txt w K mg t):v7 P w mg base T.iN 3 (Vi t.au t.fw):=by
 refine T.iN.F.ck eT ?_;rintro _ _ _ _ _ _ _ S R Z hr ⟨a,F,cs,dl,rs,m,e,hS,hn,hm,q1,q2⟩;subst e;obtain⟨ld,lr,ra,h,hF,tL⟩:=id hS;have ek:(dI ra).map (·.1)=(rs.map (·.1)).map Sum.inr:=by rw[tL];unfold dI iq;rw[zt,zt,zt];rfl
 have el:(dI ra).length<64:=by rw[tL]at hn;unfold iq at hn;unfold dI;rw[zb]at hn⊢;exact hn
 refine{_,(sc (cC (i:=2) eT.nd<|tM (dv 0) T.aq T.cw (je T) hr<|ac (dv 1) an)<|sc (LH (i:=3) (N:=["key","then","self"]) (src:=[none,some 2,some 0]) eT.nd (i6 (ae<|inClass bA 10) ["self","moment","then","rows"] rfl rfl<|by trivial) (il<|cb mI T.eE dj<|ac (fl T.aq T.bS<|dv 0) an) (mm<|show(["key","then","self"]:List Str).Nodup by trivial) (aO rfl) aP (λ_ _ _ _ _=>px) λ_ _ _ _ _=>(cy<|ac (dv 0)<|ac (aJ T.gf (jV T) hr<|ac (ix hr.u (fl T.aq T.bS<|dv 2)<|dv 0)<|ac (dv 1) an) an))<|s1<|sr<|p_ (N:=["row"]) (src:=[none]) (i6 (ae<|inClass bA 10) ["self","moment","then","rows"] rfl rfl<|by trivial) (il<|dv 3) (mm<|show(["row"]:List Str).Nodup by trivial) (aO rfl) aP (λ_ _ _ _ _=>(if1<|bp lM hr.u (ix hr.u (dv 0) di) dn)) λ_ _ _ _ _=>(dv 0)),?_};refine !{a,_,rfl,h.ins,rfl,_,rfl,a,F,cs,dl,rs,m,rfl,hS,hm,λi hi=>?_,λhn=>fo<|q2 hn};refine !{a,_,_,rfl,h.ins,rfl,lr,dI ra,rs.map (·.1),rfl,h.run,ek,el,λss hp hs p l9=>?_};have hlen:ss.length<64:=by rw[hp.length_eq,zb];exact hn
 refine{_,aa,?_};refine comp_map (λd=>match d with|.str z=>wX rs i z|_=>.av) aa (by show(ss.map D.str).length<=1000;rw[zb];omega) (λd hd Q hQ=>?_) λp2 gU=>?_;obtain⟨z,hz,rfl⟩:=ze.mp hd;have Ys:z∈rs.map (·.1):=hp.mem_iff.mp hz;obtain⟨r,nQ,e⟩:=ze.mp Ys;rw[tL]at nQ;unfold iq at nQ;obtain⟨r0,xp,rfl⟩:=ze.mp nQ;have e1:tN ra z=some r0.2:=by cases e3:tN ra z with|none=>exact absurd e (m_ e3 _ xp)|some x=>exact congrArg some<|congrArg Prod.snd<|gq (f:=λr:Str×Addr×List Std=>r.1) h.kn (cW (l:=x.1) (s:=x.2) e3) xp e.symm
 have ed:cn (dI ra) (.inr z)=some (.ref r0.2.1):=by rw[ir,e1];rfl
 have hc:=h.cell _ xp;have eq:(lu rs z).getD []=r0.2.2:=by rw[tL,gL,e1];rfl
 have hQ:Q (.tup [.str z,wt ((lu rs z).getD []) i]) (S.set p<|.lst<|ss.map D.str):=hQ;rw[eq]at hQ;have hi1:(S.set p<|.lst<|ss.map D.str) a=_:=(ag<|fS h.ins l9).trans h.ins;have vh:(S.set p<|.lst<|ss.map D.str) lr=_:=(ag<|fS h.run l9).trans h.run;have WO:(S.set p<|.lst<|ss.map D.str) r0.2.1=_:=(ag<|fS hc l9).trans hc;exact !!{a,_,_,rfl,hi1,rfl,_,rfl,dI ra,_,vh,ed,_,rfl,_,_,i,rfl,WO,bC,hQ};have em:(ss.map D.str).map (λd=>match d with|.str z=>wX rs i z|_=>.av)=ss.map (wX rs i):=by rw[zt];rfl
 refine !{ss.map<|wX rs i,by show((S.set p _).set p2<|.lst<|(ss.map D.str).map _) p2=_;rw[aa,em],?_};refine dq wY id (by show((S.set p _).set p2<|.lst<|(ss.map D.str).map _) p2=_;rw[aa,em]) (by show(ss.map<|wX rs i).length<=1000;rw[zb];omega) (λd hd Q Q' hQ sQ=>?_) λp3 WQ=>?_;obtain⟨z,hz,rfl⟩:=ze.mp hd;refine !!!⟨?_⟩;exact bB (λh=>!⟨hQ h⟩) λh=>sQ h;have ZS:S p3=none:=by cases e:S p3 with|none=>rfl|some c=>exact absurd WQ<|by rw[ag (fS e<|by have:(S.set p<|.lst<|ss.map D.str) p2=none:=gU;cases e':S p2 with|none=>rfl|some c'=>rw[ag<|fS e' l9,e']at this;cases this),ag<|fS e l9,e];exact nofun
 refine{S.set p3<|.lst<|l8 rs i ss,λb c hb=>?_,q1 i ss hi hp hs p3 ZS};show((((S.set p<|.lst<|ss.map D.str).set p2 _).set p3<|.lst<|((ss.map<|wX rs i).filter wY).map id)) b=some c;rw[Aj];by_cases ZT:b=p3;subst ZT;rw[aa]at hb⊢;exact hb;rw[ag ZT]at hb;have ZU:S p2=none:=by cases e':S p2 with|none=>rfl|some c'=>have:(S.set p<|.lst<|ss.map D.str) p2=none:=gU;rw[ag<|fS e' l9,e']at this;cases this
 rw[ag ZT,ag<|fS hb ZU,ag<|fS hb l9];exact hb
theorem Mf{P:Program}{w:World}{K:Frag}{mg:Str->Option Value}{base:Heap}{k:Nat}{f:Addr}{fd:FuncData}{ps:List Str}{pre:List D->Prop} (F:FnD P w K mg base k f fd ps λds S R _=>pre ds/\∀l x y z,S l=none->R (.ref l) (S.set l<|.lst [.int x,.int y,.int z])):FnD P w K mg base k f fd ps (λds S R _=>pre ds/\∀l,S l=none->R (.ref l) (S.set l .well)):=by refine F.imp λvs H Q E ⟨ds,S,R,Z,v,hS,⟨hp,h⟩,hR,hZ⟩=>{ds,S,λd S2=>∃l x y z,S l=none/\d=.ref l/\S2=S.set l (.lst [.int x,.int y,.int z]),λ_ _=>False,v,hS,{hp,λl x y z hl=>⟨l,x,y,z,hl,rfl,rfl⟩},λd S2 u H' ⟨l,x,y,z,hl,e1,e2⟩ rv hs kp=>?_,λ_ _ _ q=>q.elim};subst e1 e2;refine hR _ _ u H' (h l hl) rv ?_ kp;refine uW (x:=x) (y:=y) (z:=z) aa ?_;rw[dQ];exact hs
def ZV(ds:List D)(l:Addr):Prop:=∃m:Int,ds=[.ref l,.int m]/\0<m/\m.natAbs.log2<9000
def Vj(ds:List D)(d:D):Prop:=∃(l:Addr)(m n:Int),ds=[.ref l,.int m]/\d=.int n/\0<=n/\n<m
inductive pN (ds:List D) (S:ay) (R:KD) (Z:KX):Prop where
 |mk (ns:List Int) (k:Nat) (h0:ds=[.iB<|ns.map D.int,.int k]) (h1:∀c:Int,R (.int c) S):pN ds S R Z
theorem dZ(T:Txt w K mg t):Ok P w base T.dk 1 pN:=by
 refine T.dk.F.ck wL ?_;rintro _ _ _ _ _ _ _ S R Z hr ⟨ns,k,e,q⟩;subst e;refine{_,(sc (si (bp mF hr.u (dv 1)<|cb bb T.aX aG<|ac (dv 0) an) (s1<|sr<|ix hr.u (dv 0)<|dv 1) s0)<|s1<|sr di),?_};refine !!!!⟨?_⟩;refine bB (λh=>?_) λh=>?_;have h:(k:Int)<(((ns.map D.int).length:Nat):Int):=zB h;have hk:k<ns.length:=by rw[zb]at h;lia
 exact !!{.int ns[k],d_<|by rw[zp];simp[hk],fo<|q _};exact fo<|q 0
theorem nh(T:Txt w K mg t):Ok P w base T.l6 1 (λds S R _=>(∃c:Int,ds=[.int c])/\∀l,S l=none->R (.ref l) (S.set l .well)):=by refine Mf ?_;refine T.l6.F.ok Gs (by rintro ds S R Z ⟨⟨_,e⟩,_⟩;rw[e];rfl) ?_;rintro _ _ _ _ _ _ _ S R Z hr ⟨⟨c,e⟩,q⟩;subst e;refine{_,(s1<|sr<|cG<|ac (bo kY hr.u (dv 0)<|ct mG T.lg gC<|ac (cm YG hr.u (dv 0)<|bo DV hr.u di di) an)<|ac (bo kZ hr.u (dv 0) di)<|ac di an),?_};refine !!⟨{by decide,by decide,by decide},.inr !⟨?_⟩⟩;refine{.inr {by split<;>decide,by split<;>decide},_,rfl,by decide,gJ,λl hl=>fo<|q l _ _ _ hl}
theorem Mg(T:Txt w K mg t):Ok P w base T.aY 1 (Ij ZV Vj):=by refine FU ?_;refine T.aY.F.ok dY (by rintro ds S R Z ⟨_,_,_,_,⟨_,e,_⟩,_⟩;rw[e];rfl) ?_;rintro _ _ _ _ _ _ _ S R Z hr ⟨l,x,y,z,⟨m,e,hm,hlg⟩,hl,q⟩;subst e;refine{_,(sc (si (bp n_ hr.u (ix hr.u (dv 0) di) di) (sc (cC (i:=2) dY.nd<|bo kZ hr.u (ix hr.u (dv 0) di)<|dv 1)<|sc (sls (dv 0) di<|bo vT hr.u (ix hr.u (dv 0) di)<|dv 1)<|s1<|sr<|dv 2) s0)<|sc (cC (i:=2) dY.nd di)<|sc (xW<|FR (PQ T.iO<|ac (bo bM hr.u di<|bo kY hr.u di<|ct mG T.lg gC<|ac (cm n_ hr.u (dv 1)<|bo DV hr.u di di) an) an) (gn (i:=3) dY.nd)<|sc (sls (dv 0) di<|bo bM hr.u (ix hr.u (dv 0) di) di)<|sc (cC (i:=4) dY.nd<|bo kZ hr.u (bo kY hr.u (bo bM hr.u (bo bM hr.u (ix hr.u (dv 0) di)<|bo kY hr.u di<|ix hr.u (dv 0) di) di) di) di)<|sc (cC (i:=4) dY.nd<|bo kZ hr.u (bo kY hr.u (dv 4)<|bo bM hr.u (bo vT hr.u (dv 4) di) di) di)<|s1<|cC (i:=2) dY.nd<|bo bM hr.u (bo kY hr.u (dv 2) di)<|bo kZ hr.u (bo kY hr.u (dv 4)<|bo bM hr.u (bo vT hr.u (dv 4) di) di) di)<|s1<|sr<|bo kZ hr.u (dv 2)<|dv 1),?_};refine !{_,_,hl,rfl,_,rfl,?_};refine bB (λh=>?_) λh=>?_;refine !{_,_,hl,rfl,_,rfl,hm,?_};refine !{_,_,hl,rfl,_,rfl,⟨hm,hlg⟩,_,rfl,l,_,0,0,rfl,rfl,hl,rfl,?_};exact{_,rfl,fo<|q _ _ _ _ {l,m,_,rfl,rfl,Int.emod_nonneg _<|by lia,Int.emod_lt_of_pos _ hm}};refine{λaF S'=>∃(f:Int)(o1 o2:Option D)(x y z:Int),aF=[some<|.ref l,some<|.int m,some<|.int f,o1,o2]/\S'=S.set l (.lst [.int x,.int y,.int z]),?_,?_};refine{_,rfl,{by decide,by decide,by decide},.inr !{.inl {by decide,by decide},_,rfl,?_,?_,?_}};split<;>decide;split<;>decide;refine{λi aF S'=>∃(f:Int)(o1 o2:Option D)(x y z:Int),aF=[some<|.ref l,some<|.int m,some<|.int f,o1,o2]/\S'=S.set l (.lst [.int x,.int y,.int z]),{0,none,none,x,y,z,rfl,?_},λ_ _ _ _=>trivial,?_,λaF S' h=>fo h};funext b;unfold ay.set;split;rename_i h;rw[h];exact hl;rfl;rintro i d aF S' hd ⟨f,o1,o2,x,y,z,rfl,rfl⟩;have Je:(S.set l<|.lst [.int x,.int y,.int z]) l=some (.lst [.int x,.int y,.int z]):=aa;refine !{_,_,Je,rfl,_,rfl,l,_,2,2,rfl,rfl,Je,rfl,?_};rw[dQ,show([D.int x,D.int y,D.int z].set 2<|D.int<|z+1)=[D.int x,D.int y,D.int<|z+1] from rfl];have vJ:(S.set l<|.lst [.int x,.int y,.int<|z+1]) l=some (.lst [.int x,.int y,.int<|z+1]):=aa;refine !{_,_,vJ,rfl,_,rfl,_,_,vJ,rfl,.inl {by decide,by decide},.inr {by decide,by decide},(show(0:Int)<2147483647 by decide),?_};have nb:∀z:Int,0<=z%2147483647/\z%2147483647<2147483647:=λz=>{Int.emod_nonneg z<|by decide,Int.emod_lt_of_pos z<|by decide};have n1:=nb<|(y+7919*(z+1)+1)*48271;generalize (y+7919*(z+1)+1)*48271%2147483647=u at *;refine !!⟨{by decide,by trivial},.inl {by lia,by lia},(show(0:Int)<2147483647 by decide),?_⟩;have n2:=nb<|u*(u/1009+69621);generalize u*(u/1009+69621)%2147483647=v at *;exact !{.inr {by decide,by decide},_,rfl,_,rfl,{by decide,by trivial},.inl {by lia,by lia},(show(0:Int)<2147483399 by decide),_,_,_,_,_,_,rfl,rfl};rintro aF S' ⟨f,o1,o2,x,y,z,rfl,rfl⟩;exact !!{hm,fo<|q _ _ _ _ {l,m,_,rfl,rfl,Int.emod_nonneg _<|by lia,Int.emod_lt_of_pos _ hm}}
inductive Jf (ds:List D) (S:ay) (R:KD) (Z:KX):Prop where
 |mk (l:Addr) (m:Int) (h0:ds=[.ref l,.int m]) (h1:0<m) (h2:m.natAbs.log2<9000) (h3:S l=some .well) (h4:∀n:Int,0<=n->n<m->R (.int n) S):Jf ds S R Z
theorem bL{P:Program}{w:World}{K:Frag}{mg:Str->Option Value}{base:Heap}{t:hW}(T:Txt w K mg t):Ok P w base T.aY 1 Jf:=(Mg T).Ux <| by rintro ds S R Z ⟨l,m,e,h0,h1,hw,q⟩;exact{l,⟨m,e,h0,h1⟩,hw,by rintro d ⟨l',m',n,e1,e2,a,b⟩;exact by rw[e]at e1;cases e1;subst e2;exact q n a b}
theorem wl{S:ay}{l p:Addr}{c:Ce}(hw:S l=some .well)(hp:S p=none):(S.set p c) l=some .well:=(ag<|fS hw hp).trans hw
theorem cF{L:List D}{S:ay}{p:Addr}{n:Int}{R:KD}(h0:0<=n)(h1:n<(L.length:Int))(hp:S p=none)(q:∀d,d∈L->R d S):YH p n (S.set p<|.lst L) λd S'=>Fo S' (R d):=by obtain⟨v,e1,e2⟩:=DM (l:=L) h0 h1;exact{L,v,aa,e1,S,.new hp,q v<|zK e2}
theorem wZ{m:Int}(h0:0<m)(h1:m<=8000):m.natAbs.log2<9000:=by
 have h2:m.natAbs<=8000:=by omega
 have h3:m.natAbs.log2<=m.natAbs:=Nat.log2_le_self _;omega
noncomputable abbrev KT:List Str:=["a","ab","b","abc","a1","key","z","ba","b2","abcdefghijkl"]
noncomputable abbrev ZW:List Str:=List.append ["k0","k1","k2","k3","k4","k5","k6","k7","k8","k9","k10","k11","k12","k13","k14","k15","k16","k17","k18","k19"] ["k20","k21","k22","k23","k24","k25","k26","k27","k28","k29","k30","k31","k32","k33","k34","k35","k36","k37","k38","k39"]
noncomputable abbrev KS:List Str:=KT++ZW
theorem Al(h:z∈KT):z∈KS:=ye _ h
theorem gM:∀z∈KS,kO z=true/\z.cps.size<=12/\PyData.strOk z=true:=by trivial
noncomputable abbrev Bb:List Str:=["key","up","a","at","ab","mark","every","now"]
theorem Jg:∀z∈Bb,lq z=true/\PyData.strOk z=true:=by trivial
noncomputable def dh:D->Bool|.av=>true|.int _=>true|.str z=>decide (z.cps.size<=40)&&PyData.strOk z|_=>false
def Vg(kind:Str)(d:D):Prop:=jR kind d=true/\dh d=true
noncomputable abbrev STS:List Str:=["","a","ab","b","A b","#"]
noncomputable abbrev SUF:List Str:=["","a","\""]
theorem Jh:∀a∈("~~~~~~~~~~~~~~~~~~~~~~~~~~~~~~~~~~~~~~~": Str)::STS,∀b∈SUF,ve (a++b)=true/\(a++b).cps.size<=40/\PyData.strOk (a++b)=true/\a.length+b.length<=1000:=by trivial
theorem Qx:PySem.Txt.mul "~" 39 ="~~~~~~~~~~~~~~~~~~~~~~~~~~~~~~~~~~~~~~~":=by trivial
theorem Qy:MulOk "~" 39:={by decide,by decide,by trivial}
def Vk(pre:List D->Prop)(post:List D->D->Prop):iJ:=λds S R _=>∃l r,ds=.ref l::r/\pre r/\S l=some .well/\∀d,post r d->R d S
theorem CO(T:Txt w K mg t):Ok P w base T.z_ 2 (Vk (·=[]) λ_ d=>∃z∈KT,d=.str z):=by refine T.z_.F.ok IZ (by rintro ds S R Z ⟨_,_,e,e2,_⟩;rw[e,e2];rfl) ?_;rintro _ _ _ _ _ _ _ S R Z hr ⟨l,r,e,e2,hw,q⟩;subst e e2;refine{_,(s1<|sr<|uX<|ix hr.u (cG<|ac ds<|ac ds<|ac ds<|ac ds<|ac ds<|ac ds<|ac ds<|ac ds<|ac ds<|ac ds an)<|aJ T.aY (bL T) hr<|ac (dv 0)<|ac di an),?_};refine{Vc,λp hp=>!{l,_,rfl,(by decide),(by decide),wl hw hp,λn h0 h1=>cF h0 h1 hp λd hd=>?_}};have hd:d∈KT.map D.str:=hd;obtain⟨z,hz,rfl⟩:=ze.mp hd;exact fo<|q _ ⟨z,hz,rfl⟩
theorem sR(T:Txt w K mg t):Ok P w base T.mV 2 (Vk (λr=>r=[.str "number"]\/r=[.str "word"]) λr d=>∃k,r=[.str k]/\Vg k d):=by
 refine T.mV.F.ok sF (λds S R Z ⟨_,_,e,e2,_⟩=>by rw[e];rcases e2 with e2|e2<;>rw[e2]<;>rfl) λeP A outer s H E ds S R Z hr ⟨l,r,e,e2,hw,q⟩=>?_;subst e;obtain⟨k,rfl,hk⟩:∃k,r=[.str k]/\(k ="number"\/k ="word"):=by rcases e2 with e|e;exact{_,e,.inl rfl};exact{_,e,.inr rfl}
 have q:∀d,Vg k d->R d S:=λd hd=>q d ⟨k,rfl,hd⟩;have hint:k ="number"->∀i:Int,R (.int i) S:=λe i=>q _ {by rw[e];rfl,rfl};refine{_,(sc (si (bp aL hr.u (aJ T.aY (bL T) hr<|ac (dv 0)<|ac di an) di) (s1<|sr dn) s0)<|sc (si (twd<|twand (bp aL hr.u (dv 1) ds)<|tw1<|bp aL hr.u (aJ T.aY (bL T) hr<|ac (dv 0)<|ac di an) di) (s1<|sr<|bo g7 hr.u (aJ T.aY (bL T) hr<|ac (dv 0)<|ac (bo kY hr.u di<|bo DV hr.u di di) an)<|bo DV hr.u di di) s0)<|sc (si (bp aL hr.u (dv 1) ds) (s1<|sr<|bo g7 hr.u (aJ T.aY (bL T) hr<|ac (dv 0)<|ac di an) di) s0)<|sc (cC (i:=2) sF.nd<|uX<|ix hr.u (cG<|ac ds<|ac ds<|ac ds<|ac ds<|ac ds<|ac ds<|ac (bo kY hr.u ds di) an)<|aJ T.aY (bL T) hr<|ac (dv 0)<|ac di an)<|s1<|sr<|bo bM hr.u (dv 2)<|uX<|ix hr.u (cG<|ac ds<|ac ds<|ac ds<|ac ds an)<|aJ T.aY (bL T) hr<|ac (dv 0)<|ac di an),?_};refine !{l,_,rfl,(by decide),(by decide),hw,λn h0 h1=>!⟨?_⟩};refine bB (λh=>?_) λh=>?_;exact fo<|q .av ⟨rfl,rfl⟩;refine !!⟨?_⟩;refine bB (λh2=>?_) λh2=>?_;have ek:k ="number":=zB h2;refine !{l,_,rfl,(by decide),(by decide),hw,λn1 h01 h11=>!⟨?_⟩};refine bB (λh3=>?_) λh3=>?_;refine{_,rfl,{by decide,by decide,by decide},.inl {by decide,by decide},l,_,rfl,(by trivial),(by trivial),hw,λn2 ZX WR=>{{by decide,by decide,by decide},fo<|hint ek _}};refine !!⟨?_⟩;show if decide (k ="number")=true then _ else _;rw[zw ek];exact dP !{l,_,rfl,(by decide),(by decide),hw,λn2 ZX WR=>fo<|hint ek _};have ek:¬k ="number":=zO h2;have ek':k ="word":=hk.resolve_left ek;refine !!⟨?_⟩;show if decide (k ="number")=true then _ else _;rw[zu ek];refine br ?_;refine{Qy,ZI,λp hp=>!{l,_,rfl,(by decide),(by decide),wl hw hp,λn1 h01 h11=>cF h01 h11 hp λd hd=>?_}};rw[Qx]at hd;have hd:d∈[D.str "",.str "a",.str "ab",.str "b",.str "A b",.str "#",.str "~~~~~~~~~~~~~~~~~~~~~~~~~~~~~~~~~~~~~~~"]:=hd;obtain⟨a,ha,rfl⟩:∃a∈("~~~~~~~~~~~~~~~~~~~~~~~~~~~~~~~~~~~~~~~": Str)::STS,d=.str a:=by simp only[zj,zI,or_false]at hd;rcases hd with h|h|h|h|h|h|h<;>exact{_,by simp,h}
 refine !{qo,λp2 gU=>!{l,_,rfl,(by decide),(by decide),wl hw gU,λn2 ZX WR=>cF ZX WR gU λd hd=>?_}};have hd:d∈[D.str "",.str "",.str "a",.str "\""]:=hd;obtain⟨b,hb,rfl⟩:∃b∈SUF,d=.str b:=by simp only[zj,zI,or_false]at hd;rcases hd with h|h|h|h<;>exact{_,by simp,h}
 obtain⟨w1,w2,w3,w4⟩:=Jh a ha b hb;refine{sm w4,fo<|q _ {?_,?_}};rw[ek'];show(false||if ("word": Str) ="number" then _ else ve (a++b))=true;rw[if_neg<|by decide,w1];rfl;show(decide ((a++b).cps.size<=40)&&PyData.strOk (a++b))=true;rw[zw w2,w3];rfl
def Wg(cs:List<|Str×Str)(ws:List D):Prop:=Paired (λ(c:Str×Str) v=>Vg c.2 v) cs ws
theorem sS{rel:(Str×Str)->D->Prop} : ∀{cs:List (Str×Str)}{out:List D},Paired (λd v=>∃c,d=aw c/\rel c v) (cs.map aw) out->Paired (λc v=>rel c v) cs out
 |[],_,.nil=>.nil
 |c::cs,_,.cons ⟨c',e,r⟩ t=>by
  have:c=c':=by unfold aw at e;injection e with e;injection e with e1 e2;injection e1 with e1;injection e2 with e2 _;injection e2 with e2;exact Prod.ext e1 e2
  subst this;exact .cons r<|sS t
noncomputable def Am(tr j:Nat):Str:=Bb.getD ((j+tr)%8) ""
theorem Ji:∀tr<8,∀i<9,((List.range i).map<|Am tr).Nodup:=by trivial
theorem Qz(tr j:Nat):Am tr j∈Bb:=by have:(j+tr)%8<8:=Nat.mod_lt _ (by decide);unfold Am;rw[zD,zh<|show(j+tr)%8<Bb.length from this];exact List.getElem_mem _
inductive sT (ds:List D) (S:ay) (R:KD) (Z:KX):Prop where
 |mk (l cs) (h0:ds=[.ref l,.tup<|cs.map aw]) (h1:Gd cs) (h2:S l=some .well) (h3:∀ws,Wg cs ws->R (.tup ws) S):sT ds S R Z
theorem kC(T:Txt w K mg t):Ok P w base T.ie 3 sT:=by refine T.ie.F.ck Af ?_;rintro _ _ _ _ _ _ _ S R Z hr ⟨l,cs,e,hg,hw,q⟩;subst e;refine{_,(s1<|sr<|ct fU T.bu aW<|ac (p_ (N:=["_law_column","_law_well_here"]) (src:=[none,some 0]) (i6 (ae Cd) ["_law_well_here","_law_columns_here"] rfl rfl<|by trivial) (FP<|dv 1) (mm<|show(["_law_column","_law_well_here"]:List Str).Nodup by trivial) (aO rfl) aP (λ_ _ _ _ _=>px) λ_ _ _ _ _=>(aJ T.mV (sR T) hr<|ac (dv 1)<|ac (ix hr.u (dv 0) di) an)) an),?_};refine !{_,.inl rfl,?_};refine fI (λd v=>∃c:Str×Str,d=aw c/\Vg c.2 v) trivial (by show(cs.map aw).length<=1000;rw[zb];have:=hg.1;lia) (λd hd Q hQ=>?_) λout hp p l9=>?_;obtain⟨c,hc,rfl⟩:=ze.mp hd;refine !!{.str c.2,rfl,l,_,rfl,?_,hw,λv ⟨k,e,hv⟩=>hQ v {c,rfl,?_}};rcases (hg.2.2 c hc).2 with e|e<;>rw[e];exact .inl rfl;exact .inr rfl;cases e;exact hv;exact{_,out,rfl,.inl aa,S,.new l9,q out<|sS hp}
inductive pO (ds:List D) (S:ay) (R:KD) (Z:KX):Prop where
 |mk (l) (h0:ds=[.ref l]) (h1:S l=some .well) (h2:∀cs,Gd cs->(∀c∈cs,c.1∈Bb)->R (.tup<|cs.map aw) S):pO ds S R Z
theorem CP(T:Txt w K mg t):Ok P w base T.oB 2 pO:=by
 refine T.oB.F.ck dG ?_;rintro _ _ _ _ _ _ _ S R Z hr ⟨l,e,hw,q⟩;subst e;refine{_,(sc (cC (i:=1) dG.nd<|cG<|ac ds<|ac ds<|ac ds<|ac ds<|ac ds<|ac ds<|ac ds<|ac ds an)<|sc (cC (i:=2) dG.nd<|aJ T.aY (bL T) hr<|ac (dv 0)<|ac di an)<|sc (cC (i:=3) dG.nd<|cG an)<|sc (xW<|FR (PQ T.iO<|ac (uX<|ix hr.u (cG<|ac di<|ac di<|ac di<|ac (aJ T.aY (bL T) hr<|ac (dv 0)<|ac di an) an)<|aJ T.aY (bL T) hr<|ac (dv 0)<|ac di an) an) (gn (i:=4) dG.nd)<|s1<|se<|bm zR yf yg du (dv 3)<|ac (cy<|ac (ix hr.u (dv 1)<|bo kZ hr.u (bo bM hr.u (dv 4)<|dv 2) di)<|ac (uX<|ix hr.u (cG<|ac ds<|ac ds an)<|aJ T.aY (bL T) hr<|ac (dv 0)<|ac di an) an) an)<|s1<|sr<|ct fU T.bu aW<|ac (dv 3) an),?_};refine{ZJ,λln RB=>!{l,_,rfl,(by decide),(by decide),wl hw RB,λtr ht0 ht1=>{Ag,λlf Jj=>?_}}};obtain⟨tn,rfl⟩:∃n:Nat,tr=(n:Int):={tr.toNat,by lia};have htn:tn<8:=by lia
 have nfl:lf≠ln:=by rintro rfl;rw[aa]at Jj;cases Jj
 have Vl:S lf=none:=by rw[ag nfl]at Jj;exact Jj
 refine{λaF S'=>∃(o:Option D)(cs:List (Str×Str)),aF=[some<|.ref l,some<|.ref ln,some<|.int tn,some<|.ref lf,o]/\Gd cs/\(∀c∈cs,c.1∈Bb)/\S'=S.set lf (.lst<|cs.map aw),?_,?_};have qH:=wl (c:=.lst []) (wl (c:=.lst [.str "key",.str "up",.str "a",.str "at",.str "ab",.str "mark",.str "every",.str "now"]) hw RB) Jj;refine !{l,_,rfl,(by decide),(by decide),qH,λn9 h90 h91=>{qo,λp hp=>!{l,_,rfl,(by decide),(by decide),wl qH hp,λn4 WS ZY=>cF WS ZY hp λd hd=>?_}}};obtain⟨m,rfl,hm⟩:∃m:Nat,d=.int m/\m<=8:=by have hd:d∈[D.int 1,.int 2,.int 3,.int n9]:=hd;simp only[zj,zI,or_false]at hd;rcases hd with h|h|h|h;exact{1,h,by decide};exact{2,h,by decide};exact{3,h,by decide};exact{n9.toNat,by rw[h];congr 1;lia,by lia}
 refine{m,rfl,by lia,by lia,?_};refine{λi aF S'=>∃(o:Option D)(cs:List (Str×Str)),aF=[some<|.ref l,some<|.ref ln,some<|.int tn,some<|.ref lf,o]/\cs.map Prod.fst=(List.range i).map (Am tn)/\(∀c∈cs,c.2 ="number"\/c.2 ="word")/\S'=(S.set ln<|.lst<|Bb.map D.str).set lf (.lst<|cs.map aw),{none,[],rfl,rfl,λ_ h=>(nomatch h),rfl},λ_ _ _ _=>trivial,?_,?_};rintro i d aF S' hd ⟨o,cs,rfl,hn,hk,rfl⟩;obtain⟨hi,rfl⟩:=g_ hd;have hi:i<m:=by simpa using hi
 have Fy:cs.length=i:=by have:=congrArg List.length hn;simpa using this
 generalize Et:(S.set ln<|.lst<|Bb.map D.str).set lf (.lst<|cs.map aw)=S2;have ef:S2 lf=some (.lst<|cs.map aw):=by rw[<-Et,aa]
 have en:S2 ln=some (.lst<|Bb.map D.str):=by rw[<-Et,ag nfl.symm,aa]
 have ew:S2 l=some .well:=by rw[<-Et,ag<|fS hw Vl,ag<|fS hw RB];exact hw
 have enm:rl (Bb.map D.str) (((0:Int)+(i:Nat)+(tn:Nat))%8)=some (.str<|Am tn i):=by have e:((0:Int)+(i:Nat)+(tn:Nat))%8=(((i+tn)%8:Nat):Int):=(by lia);have eN:(i+tn)%8<8:=Nat.mod_lt _ (by decide);rw[e];refine d_ ?_;rw[zp];unfold Am;rw[zD,zh<|show(i+tn)%8<Bb.length from eN];rfl
 refine{_,rfl,{rfl,_,ef},_,rfl,_,rfl,_,rfl,(show(0:Int)<8 by decide),_,_,en,enm,bC,λp hp=>!{l,_,rfl,(by decide),(by decide),wl ew hp,λn2 QA Jl=>cF QA Jl hp λd hd=>?_}};obtain⟨kd,rfl,J5⟩:∃kd:Str,d=.str kd/\(kd ="number"\/kd ="word"):=by have hd:d∈[D.str "number",.str "word"]:=hd;simp only[zj,zI,or_false]at hd;rcases hd with h|h;exact{_,h,.inl rfl};exact{_,h,.inr rfl}
 refine{bC,lf,_,_,rfl,rfl,ef,bg<|by rw[zb];lia,_,cs++[(Am tn i,kd)],rfl,?_,?_,?_};rw[zJ,hn,List.range_succ,zJ];rfl;intro c hc;rcases zM.mp hc with h|h;exact hk c h;rw[zE.mp h];exact J5;rw[<-Et,dQ,zJ];rfl;rintro aF S' ⟨o,cs,rfl,hn,hk,rfl⟩;rw[dy]at hn;have hn:cs.map Prod.fst=(List.range m).map (Am tn):=by simpa using hn
 have Fy:cs.length=m:=by have:=congrArg List.length hn;simpa using this
 have Na:∀c∈cs,c.1∈Bb:=λc hc=>by have:c.1∈cs.map Prod.fst:=ze.mpr ⟨c,hc,rfl⟩;rw[hn]at this;obtain⟨j,_,e⟩:=ze.mp this;rw[<-e];exact Qz tn j
 refine{S.set lf<|.lst<|cs.map aw,λb c hb=>?_,o,cs,rfl,{by lia,by rw[hn];exact Ji tn htn m<|by lia,λc hc=>{(Jg _<|Na c hc).1,hk c hc}},Na,rfl};by_cases ZZ:b=lf;subst ZZ;rw[aa]at hb⊢;exact hb;rw[ag ZZ]at hb;rw[ag ZZ,ag<|fS hb RB];exact hb;rintro aF S' ⟨o,cs,rfl,hg,Na,rfl⟩;exact !{_,cs.map aw,rfl,.inl aa,S,.new Vl,q cs hg Na}
abbrev Kn:=List<|Str×List D
noncomputable def fQ(kn:Kn):List (Key×D):=kn.map λr=>(Sum.inr r.1,D.tup r.2)
noncomputable def gr(kn:Kn)(z:Str):Option (List D):=(kn.find? λr=>decide<|r.1=z).map (·.2)
structure KI(cs:List (Str×Str))(kn:Kn):Prop where
 nd:(kn.map (·.1)).Nodup
 ok:∀r∈kn,r.1∈KS/\Wg cs r.2
theorem bQ:gr (r::kn) k=if r.1=k then some r.2 else gr kn k:=by unfold gr;rw[zW];by_cases h:r.1=k;rw[zw h,if_pos h];rfl;rw[zu h,if_neg h]
theorem nj(kn:Kn)(k:Str):cn (fQ kn) (.inr k)=(gr kn k).map D.tup:=by induction kn with|nil=>rfl|cons r kn ih=>rw[bQ];unfold cn fQ at *;rw[zy,zW];by_cases h:r.1=k;have:decide ((Sum.inr r.1:Key)=.inr k)=true:=zw (by rw[h]);dsimp only;rw[this,if_pos h];rfl;have:decide ((Sum.inr r.1:Key)=.inr k)=false:=zu λe=>h<|yJ e;dsimp only;rw[this,if_neg h];exact ih
theorem kD(h:gr kn k=some ws):(k,ws)∈kn:=by induction kn with|nil=>(cases h)|cons r kn ih=>rw[bQ]at h;by_cases hk:r.1=k;rw[if_pos hk]at h;cases h;rw[<-hk];exact zr;rw[if_neg hk]at h;exact zg _<|ih h
theorem jY(h:k∈kn.map (·.1)):∃ws,gr kn k=some ws:=by induction kn with|nil=>(cases h)|cons r kn ih=>rw[bQ];by_cases hk:r.1=k;exact{r.2,if_pos hk};rw[if_neg hk];rw[zy]at h;rcases zj.mp h with e|h;exact absurd e.symm hk;exact ih h
theorem sub_len[DecidableEq α]:∀{l m:List α},l.Nodup->(∀x∈l,x∈m)->l.length<=m.length|[],m,_,_=>zY _|a::l,m,nd,h=>by obtain⟨n1,n2⟩:=yk.mp nd;have h1:=sub_len (m:=m.erase a) n2 λx hx=>(List.mem_erase_of_ne λe=>n1<|by rw[<-e];exact hx).mpr<|h x<|zg _ hx;have h2:=List.length_erase_of_mem<|h a zr;have h3:0<m.length:=List.length_pos_of_mem<|h a zr;rw[zN];omega
theorem KI.len(h:KI cs kn):kn.length<=50:=by
 have:=sub_len h.nd (m:=KS) λx hx=>by obtain⟨r,hr,rfl⟩:=ze.mp hx;exact(h.ok r hr).1
 rw[zb]at this;exact this
noncomputable def nq(kn:Kn)(z:Str)(ws:List D):Kn:=if (gr kn z).isSome then kn.map λr=>if r.1=z then (r.1,ws) else r else kn++[(z,ws)]
noncomputable def uu(kn:Kn)(z:Str):Kn:=kn.filter λr=>decide<|r.1≠z
theorem QB(kn:Kn)(z:Str)(ws:List D):dput (fQ kn) (.inr z) (.tup ws)=fQ (nq kn z ws):=by
 unfold dput nq;have e:((fQ kn).any λkv=>decide<|kv.1=.inr z)=(gr kn z).isSome:=by induction kn with|nil=>rfl|cons r kn ih=>unfold fQ at *;rw[zy,yN,ih,bQ];by_cases h:r.1=z;rw[if_pos h,zw<|by rw[h],Bool.true_or];rfl;rw[if_neg h,zu λe=>h<|yJ e,yO]
 rw[e];split;unfold fQ;rw[zt,zt];refine z0 λr _=>?_;dsimp only[Function.comp];by_cases h:r.1=z;rw[if_pos h,if_pos<|by rw[h]];rw[if_neg h,if_neg λe=>h<|yJ e];unfold fQ;rw[zJ];rfl
theorem QC(kn:Kn)(z:Str):xR (fQ kn) (.inr z)=fQ (uu kn z):=by unfold xR uu fQ;rw[List.filter_map];congr 1;refine List.filter_congr λr _=>?_;dsimp only[Function.comp];rw[yI];exact{λh e=>h<|by rw[e],λh e=>h<|yJ e}
theorem Mh:gr (nq kn z ws) k=if k=z then some ws else gr kn k:=by
 unfold nq;by_cases hs:(gr kn z).isSome=true;rw[if_pos hs];by_cases hk:k=z;subst hk;rw[if_pos rfl];induction kn with|nil=>(cases hs)|cons r rs ih=>rw[zy,bQ];by_cases h:r.1=k;rw[if_pos h,if_pos h];rw[if_neg h,if_neg h];rw[bQ,if_neg h]at hs;exact ih hs
 rw[if_neg hk];clear hs;induction kn with|nil=>rfl|cons r rs ih=>rw[zy,bQ,bQ,ih];by_cases h:r.1=z;rw[if_pos h,if_neg<|show ¬r.1=k from λe=>hk<|e.symm.trans h,if_neg<|show ¬r.1=k from λe=>hk<|e.symm.trans h];rw[if_neg h]
 rw[if_neg hs];have hn:gr kn z=none:=by cases e:gr kn z<;>simp_all
 clear hs;induction kn with|nil=>rw[List.nil_append,bQ];by_cases hk:k=z;rw[if_pos hk,if_pos hk.symm];rw[if_neg hk,if_neg λe=>hk e.symm]|cons r rs ih=>rw[bQ]at hn;by_cases h:r.1=z;rw[if_pos h]at hn;cases hn;rw[if_neg h]at hn;rw[List.cons_append,bQ,bQ,ih hn];by_cases h2:r.1=k;rw[if_pos h2,if_pos h2,if_neg<|show ¬k=z from λe=>h<|h2.trans e];rw[if_neg h2,if_neg h2]
theorem Mi:gr (uu kn z) k=if k=z then none else gr kn k:=by unfold uu;induction kn with|nil=>(split<;>rfl)|cons r kn ih=>rw[yp,bQ];by_cases h:r.1=z;rw[if_neg<|by simp[h],ih];by_cases hk:k=z;rw[if_pos hk,if_pos hk];rw[if_neg hk,if_neg hk,if_neg<|show ¬r.1=k from λe=>hk<|e.symm.trans h];rw[if_pos<|by simp[h],bQ,ih];by_cases hk:k=z;rw[if_pos hk,if_pos hk,if_neg<|show ¬r.1=k from λe=>h<|e.trans hk];rw[if_neg hk,if_neg hk]
theorem KI.put(h:KI cs kn)(hz:z∈KS)(hw:Wg cs ws):KI cs (nq kn z ws):=by
 unfold nq;split;refine{?_,λr hr=>?_};have:(kn.map λr=>if r.1=z then (r.1,ws) else r).map (·.1)=kn.map (·.1):=by rw[zt];exact z0 λr _=>by dsimp only[Function.comp];split<;>rfl
 rw[this];exact h.nd;obtain⟨r0,xp,e⟩:=ze.mp hr;by_cases q:r0.1=z;rw[if_pos q]at e;subst e;exact{(h.ok r0 xp).1,hw};rw[if_neg q]at e;subst e;exact h.ok r0 xp;rename_i hs;refine{?_,λr hr=>?_};rw[zJ];refine mB h.nd λm=>hs ?_;obtain⟨NM,e⟩:=jY m;show(gr kn z).isSome=true;rw[show gr kn z=some NM from e];rfl;rcases zM.mp hr with hr|hr;exact h.ok r hr;rw[zE.mp hr];exact⟨hz,hw⟩
theorem KI.del(h:KI cs kn)(z:Str):KI cs (uu kn z):={(List.Sublist.map _ yq).nodup h.nd,λr hr=>h.ok r (yn.mp hr).1}
def GD(ks:List Str)(cs:List<|Str×Str)(kn:Kn)(d:D):Prop:=(∃z ws,z∈ks/\Wg cs ws/\gr kn z=none/\d=.tup [.str "put",.str z,.tup ws])\/(∃z ws,z∈KS/\Wg cs ws/\(gr kn z).isSome=true/\d=.tup [.str "change",.str z,.tup ws])\/∃z,z∈KS/\(gr kn z).isSome=true/\d=.tup [.str "take",.str z]
def Ly(S:ay)(n:Nat)(d:D):Prop:=∃p,Dp S d p/\p.canLay0=true/\p.depth<=n
theorem Ly.all:∀{ds:List D},(∀d∈ds,Ly S n d)->∃ps:List PyData,DpAll S ds ps/\PyData.canLayAll0 ps=true/\PyData.depthAll ps<=n/\ps.length=ds.length|[],_=>{[],by simp only[DpAll],rfl,zY _,rfl}|d::ds,h=>by obtain⟨p,h1,h2,h3⟩:=h d zr;obtain⟨ps,k1,k2,k3,k4⟩:=Ly.all λx hx=>h x<|zg _ hx;refine{p::ps,by simp only[DpAll];exact⟨p,ps,rfl,h1,k1⟩,by simp only[PyData.canLayAll0,h2,k2,Bool.and_self],by simp only[PyData.depthAll];lia,by rw[zN,zN,k4]}
theorem Ly.tup{S:ay}{n:Nat}{ds:List D}(h:∀d∈ds,Ly S n d):Ly S (n+1) (.tup ds):=by obtain⟨ps,k1,k2,k3,_⟩:=Ly.all h;exact{.tuple ps,by simp only[Dp];exact⟨ps,rfl,k1⟩,by simp only[PyData.canLay0];exact k2,by simp only[PyData.depth];lia}
theorem Ly.str{S:ay}{z:Str}(h:PyData.strOk z=true):Ly S 0 (.str z):={.str z,by simp only[Dp],by simp only[PyData.canLay0];exact h,by simp only[PyData.depth];lia}
theorem Ly.le(h:Ly S n d)(l:n<=m):Ly S m d:=by obtain⟨p,a,b,c⟩:=h;exact{p,a,b,zG c l}
theorem Ly.av:Ly S 0 .av:={.none,by simp only[Dp],by simp only[PyData.canLay0],by simp only[PyData.depth];lia}
theorem Ly.plain(h:dh d=true):Ly S 0 d:=by cases d with|av=>exact Ly.av|int i=>exact{.int i,by simp only[Dp],by simp only[PyData.canLay0],by simp only[PyData.depth];lia}|str z=>have h:(decide (z.cps.size<=40)&&PyData.strOk z)=true:=h;rw[zL]at h;exact Ly.str h.2|_=>cases h
theorem Ly.dl(h:Ly S n d):∃p,Dl S d p/\p.canLay0=true/\p.depth<=n:=by obtain⟨p,a,b,c⟩:=h;refine{p,?_,b,c};cases d with|ref x=>simp only[Dp]at a|_=>exact a
theorem Ao(ps:List PyData):PyData.eqv (.list ps) (.list [])=ps.isEmpty:=by cases ps<;>simp[PyData.eqv,PyData.eqvAll]
theorem Jm(ps:List PyData):PyData.eqv (.tuple ps) (.tuple [])=ps.isEmpty:=by cases ps<;>simp[PyData.eqv,PyData.eqvAll]
theorem eq_nil{S:ay}{a b:Addr}{ds:List D}{R:KD}(e1:S a=some (.lst ds))(e2:S b=some (.lst []))(h:∀d∈ds,Ly S 60 d)(q:R (.bl ds.isEmpty) S):HW false (.ref a) (.ref b) S R:=by obtain⟨ps,k1,k2,k3,k4⟩:=Ly.all h;refine{.list ps,.list [],⟨ds,ps,e1,rfl,k1⟩,{[],[],e2,rfl,by simp only[DpAll]},by simp only[PyData.canLay0];exact k2,by simp only[PyData.canLay0,PyData.canLayAll0],.inl<|by simp only[PyData.depth];lia,?_};rw[if_neg zd,Ao,show ps.isEmpty=ds.isEmpty by cases ps<;>cases ds<;>first|rfl|cases k4];exact q
theorem Mj{S:ay}{ds:List D}{R:KD}(h:∀d∈ds,Ly S 60 d)(q:R (.bl ds.isEmpty) S):HW false (.tup ds) (.tup []) S R:=by obtain⟨ps,k1,k2,k3,k4⟩:=Ly.all h;refine{.tuple ps,.tuple [],by simp only[Dl,Dp];exact⟨ps,rfl,k1⟩,by simp only[Dl,Dp];exact{[],rfl,by simp only[DpAll]},by simp only[PyData.canLay0];exact k2,by simp only[PyData.canLay0,PyData.canLayAll0],.inl<|by simp only[PyData.depth];lia,?_};rw[if_neg zd,Jm,show ps.isEmpty=ds.isEmpty by cases ps<;>cases ds<;>first|rfl|cases k4];exact q
theorem Wg.all(h:Wg cs ws):∀d∈ws,dh d=true:=by unfold Wg at h;induction h with|nil=>exact λ_ h=>(nomatch h)|cons r t ih=>intro d hd;rcases zj.mp hd with e|hd;rw[e];exact r.2;exact ih d hd
theorem Wg.ly{cs:List<|Str×Str}{ws:List D}(h:Wg cs ws){S:ay} : Ly S 1 (.tup ws):=Ly.tup λd hd=>Ly.plain<|h.all d hd
theorem KI.ly{cs:List<|Str×Str}{kn:Kn}(hI:KI cs kn){ss:List Str}(hp:ss.Perm (kn.map (·.1))){S:ay} : ∀d∈ss.map D.str,Ly S 60 d:=λd hd=>by obtain⟨z,hz,rfl⟩:=ze.mp hd;obtain⟨r,hr,e⟩:=ze.mp<|hp.mem_iff.mp hz;rw[<-e];exact(Ly.str (gM _ (hI.ok r hr).1).2.2).le<|zY _
inductive Jn (ds:List D) (S:ay) (R:KD) (Z:KX):Prop where
 |mk (l cs lk kn) (h0:ds=[.ref l,.tup<|cs.map aw,.ref lk]) (h1:Gd cs) (h2:S l=some .well) (h3:S lk=some (.cO<|fQ kn)) (h4:KI cs kn) (h5:∀d,GD KT cs kn d->R d S):Jn ds S R Z
theorem Ml(T:Txt w K mg t):Ok P w base T.Cp 4 Jn:=by
 refine T.Cp.F.ck ij ?_;rintro _ _ _ _ _ _ _ S R Z hr ⟨l,cs,lk,kn,e,hg,hw,hk,hI,q⟩;subst e;have hlen:=hI.len;refine{_,(sc (cC (i:=3) ij.nd<|aJ T.aY (bL T) hr<|ac (dv 0)<|ac di an)<|sc (cC (i:=4) ij.nd<|cb mI T.eE dj<|ac (dv 2) an)<|sc (si (twd<|twor (bp aL hr.u (dv 4)<|cG an)<|tw1<|bp mF hr.u (dv 3) di) (sc (cC (i:=5) ij.nd<|aJ T.z_ (CO T) hr<|ac (dv 0) an)<|sc (si (bp xS hr.u (dv 5)<|dv 2) (s1<|sr<|cy<|ac ds<|ac (dv 5)<|ac (aJ T.ie (kC T) hr<|ac (dv 0)<|ac (dv 1) an) an) s0)<|s1<|sr<|cy<|ac ds<|ac (dv 5)<|ac (aJ T.ie (kC T) hr<|ac (dv 0)<|ac (dv 1) an) an) s0)<|sc (cC (i:=5) ij.nd<|ix hr.u (dv 4)<|aJ T.aY (bL T) hr<|ac (dv 0)<|ac (cb bb T.aX aG<|ac (dv 4) an) an)<|sc (si (bp aL hr.u (dv 3) di) (s1<|sr<|cy<|ac ds<|ac (dv 5) an) s0)<|sc (si (bp aL hr.u (dv 3) di) (s1<|sr<|cy<|ac ds<|ac (dv 5)<|ac (ix hr.u (dv 2)<|dv 5) an) s0)<|s1<|sr<|cy<|ac ds<|ac (dv 5)<|ac (aJ T.ie (kC T) hr<|ac (dv 0)<|ac (dv 1) an) an),?_};have ek:(fQ kn).map (·.1)=(kn.map (·.1)).map Sum.inr:=by unfold fQ;rw[zt,zt];rfl
 have el:(fQ kn).length<64:=by unfold fQ;rw[zb];lia
 refine !{l,_,rfl,(by decide),(by decide),hw,λway h0 h1=>!{lk,fQ kn,kn.map (·.1),rfl,hk,ek,el,λss hp hs p l9=>?_}};refine !{Ag,λp2 gU=>?_};generalize Et:(S.set p<|.lst<|ss.map D.str).set p2 (.lst [])=S2;have sub:Sub S S2:=by rw[<-Et];exact(Sub.new l9).trans<|.new gU
 have qH:=sub _ _ hw;have eC:=sub _ _ hk;have CQ:S2 p=some (.lst<|ss.map D.str):=by rw[<-Et,ag (show p≠p2 by rintro rfl;rw[aa]at gU;cases gU),aa]
 have Z1:S2 p2=some (.lst []):=by rw[<-Et,aa]
 have fin:∀d,GD KT cs kn d->Fo S2 (R d):=λd hd=>{S,sub,q d hd};have ed:∀z,cn (fQ kn) (.inr z)=(gr kn z).map D.tup:=nj kn;have QD:∀z,(cn (fQ kn)<|.inr z).isSome=(gr kn z).isSome:=λz=>by rw[ed];cases gr kn z<;>rfl
 refine eq_nil CQ Z1 (hI.ly hp) !⟨?_⟩;refine bB (λh=>?_) λh=>!!⟨bB (λh3=>?_) λh3=>?_⟩;refine !{l,[],rfl,rfl,qH,λd ⟨z,hz,e⟩=>?_};subst e;refine !!⟨.inr {fQ kn,.inr z,eC,rfl,_,rfl,?_}⟩;refine bB (λh5=>?_) λh5=>?_;exact !!!{l,cs,rfl,hg,qH,λws kP=>{gJ,fin _<|.inr<|.inl {z,ws,Al hz,kP,(QD z).symm.trans h5,rfl}}};have h6:gr kn z=none:=by have:=(QD z).symm.trans h5;cases e:gr kn z with|none=>rfl|some _=>rw[e]at this;cases this
 exact !!!{l,cs,rfl,hg,qH,λws kP=>{gJ,fin _<|.inl ⟨z,ws,hz,kP,h6,rfl⟩}};refine !{l,[],rfl,rfl,qH,λd ⟨z,hz,e⟩=>?_};subst e;refine !!⟨.inr {fQ kn,.inr z,eC,rfl,_,rfl,?_}⟩;refine bB (λh5=>?_) λh5=>?_;exact !!!{l,cs,rfl,hg,qH,λws kP=>{gJ,fin _<|.inr<|.inl {z,ws,Al hz,kP,(QD z).symm.trans h5,rfl}}};have h6:gr kn z=none:=by have:=(QD z).symm.trans h5;cases e:gr kn z with|none=>rfl|some _=>rw[e]at this;cases this
 exact !!!{l,cs,rfl,hg,qH,λws kP=>{gJ,fin _<|.inl ⟨z,ws,hz,kP,h6,rfl⟩}};have xK:0<(ss.map D.str).length:=by have h:(ss.map D.str).isEmpty=false:=h;cases ss with|nil=>(cases h)|cons a ss=>exact Nat.succ_pos _
 have hle:(ss.map D.str).length<=50:=by rw[zb,hp.length_eq,zb];exact hlen
 refine !!!!⟨.inl {_,CQ,l,_,rfl,(by lia),wZ (by lia)<|by lia,qH,λn hn0 LL=>?_}⟩;obtain⟨v,a1,a2⟩:=DM (l:=ss.map D.str) hn0 LL;obtain⟨z,hz,rfl⟩:=ze.mp<|zK a2;obtain⟨ws,kP⟩:=jY<|hp.mem_iff.mp hz;obtain⟨Z2,hwg⟩:=hI.ok _<|kD kP;have Z3:(gr kn z).isSome=true:=by rw[kP];rfl
 refine{_,_,CQ,a1,_,rfl,_,rfl,?_};refine bB (λh4=>?_) λh4=>?_;exact !{bC,fin _<|.inr<|.inr ⟨z,Z2,Z3,rfl⟩};refine !!⟨?_⟩;refine bB (λh4=>?_) λh4=>?_;exact !!!{fQ kn,.tup ws,eC,by rw[ed,kP];rfl,gJ,fin _<|.inr<|.inl ⟨z,ws,Z2,hwg,Z3,rfl⟩};exact !!!{l,cs,rfl,hg,qH,λNM Z4=>{gJ,fin _<|.inr<|.inl ⟨z,NM,Z2,Z4,Z3,rfl⟩}}
theorem aV{p:Bool}{A B:Prop}(h:p=false)(q:B):if p=true then A else B:=by rw[h];exact br q
theorem kQ{p:Bool}{A B:Prop}(h:p=true)(q:A):if p=true then A else B:=by rw[h];exact dP q
def Mo(sp:iJ):iJ:=λds S R Z=>∃R0 Z0,sp ds S R0 Z0/\(∀d S',R0 d S'->R d S')/\∀C S',Z0 C S'->Z C S'
theorem Mm{P:Program}{w:World}{K:Frag}{mg:Str->Option Value}{base:Heap}{k:Nat}{f:Addr}{fd:FuncData}{ps:List Str}{sp:iJ}(F:bO P w K mg base (fk P w mg) k f fd ps<|qG K sp):bO P w K mg base (fk P w mg) k f fd ps (qG K<|Mo sp):=F.imp <| by rintro vs H Q E ⟨ds,S,R,Z,v,hS,⟨R0,Z0,h,h1,h2⟩,hR,hZ⟩;exact{ds,S,R0,Z0,v,hS,h,λd S' u H' r=>hR d S' u H'<|h1 _ _ r,λC S' H' z=>hZ C S' H'<|h2 _ _ z}
abbrev NN:=jX
abbrev Ap:=fJ
abbrev Jo:=iW
def QE(kn:Kn)(d:D)(fi:Kn):Prop:=(∃(n:Str) (z:Str) (ws:List D),(n ="put"\/n ="change")/\d=.tup [.str n,.str z,.tup ws]/\fi=nq kn z ws)\/∃z,(gr kn z).isSome=true/\d=.tup [.str "take",.str z]/\fi=uu kn z
inductive CT (t:hW) (ds:List D) (S:ay) (R:KD) (Z:KX):Prop where
 |mk (a fs) (h0:S a=some (.ins t.au fs)) (h1:fs.map Prod.fst=(["columns","deeds","runs"]:List Str)) (h2:((∃k v,ds=[.ref a,.tup [.str "put",k,v]]/\NN t [.ref a,k,v] S R Z)\/(∃k v,ds=[.ref a,.tup [.str "change",k,v]]/\Ap t [.ref a,k,v] S R Z)\/∃k,ds=[.ref a,.tup [.str "take",k]]/\Jo t [.ref a,k] S R Z)):CT t ds S R Z
theorem lk0:∀{fs:List (Str×D)},m∉fs.map Prod.fst->fs.lookup m=none|[],_=>rfl| (a,b)::fs,h=>by rw[zy,zj]at h;rw[yb,show(m==a)=false from beq_false_of_ne λe=>h<|.inl e];exact lk0 λq=>h<|.inr q
theorem Z5{fs:List<|Str×D}(h:fs.map Prod.fst=(["columns","deeds","runs"]:List Str)){m:Str}(hm:m∉(["columns","deeds","runs"]:List Str)):fs.lookup m=none:=lk0<|by rw[h];exact hm
inductive vi (ds:List D) (S:ay) (R:KD) (Z:KX):Prop where
 |mk (lk kn d fi) (h0:ds=[.ref lk,d]) (h1:S lk=some (.cO<|fQ kn)) (h2:kn.length<=100) (h3:QE kn d fi) (h4:R .av<|S.set lk<|.cO<|fQ fi):vi ds S R Z
theorem Aq(T:Txt w K mg t):Ok P w base T.qO 1 vi:=by refine T.qO.F.ck CC ?_;rintro _ _ _ _ _ _ _ S R Z hr ⟨lk,kn,d,fi,e,hk,hn,hd,q⟩;subst e;refine{_,(s1<|si (bp aL hr.u (ix hr.u (dv 1) di) ds) (s1<|se<|mp1 (dv 0)<|ix hr.u (dv 1) di)<|s1<|sd hr.u (dv 0) (ix hr.u (dv 1) di)<|ix hr.u (dv 1) di),?_};have hl:(fQ kn).length<sizeLine:=bg (by unfold fQ;rw[zb];lia);rcases hd with⟨n,z,ws,JY,rfl,rfl⟩|⟨z,hz,rfl,rfl⟩;refine !!!⟨?_⟩;refine bB (λh=>?_) λh=>?_;have h:n ="take":=zB h;rcases JY with e|e<;>rw[e]at h<;>exact absurd h (by decide);refine !!!!!{lk,fQ kn,.inr z,rfl,hk,rfl,hl,?_};rw[QB];exact fo q;refine !!!⟨?_⟩;refine bB (λh=>?_) λh=>absurd h (by decide);obtain⟨ws,kP⟩:=Option.isSome_iff_exists.mp hz;refine !{lk,fQ kn,rfl,hk,_,rfl,_,rfl,fQ kn,.inr z,.tup ws,hk,rfl,by rw[nj,kP];rfl,?_};rw[QC];exact fo q
def Dd3(d:D):Prop:=(∃k v,d=.tup [.str "put",k,v])\/(∃k v,d=.tup [.str "change",k,v])\/∃k,d=.tup [.str "take",k]
inductive nr (ds:List D) (S:ay) (R:KD) (Z:KX):Prop where
 |mk (d) (h0:ds=[d]) (h1:Dd3 d) (h2:R .av S):nr ds S R Z
theorem gN(T:Txt w K mg t):Ok P w base T.fC 1 nr:=by refine T.fC.F.ck ue ?_;rintro _ _ _ _ _ _ _ S R Z hr ⟨d,e,hd,q⟩;subst e;refine{_,(sc (si (twd<|twor (bZ<|tv<|cb bV T.ao ak<|ac (dv 0)<|ac (nN T.bu aW) an)<|twor (bp aL hr.u (cb bb T.aX aG<|ac (dv 0) an) di)<|tw1<|bZ<|tv<|cb bV T.ao ak<|ac (ix hr.u (dv 0) di)<|ac (nN T.lh gD) an) (s1<|p8 ⟨T.kr⟩ T.sv<|ac ds an) s0)<|s1<|si (bp iI hr.u (mgk T.qj (by decide) (gK T.ot)<|ix hr.u (dv 0) di)<|cb bb T.aX aG<|ac (dv 0) an) (s1<|p8 ⟨T.kr⟩ T.sv<|ac ds an) s0),?_};rcases hd with⟨k,v,rfl⟩|⟨k,v,rfl⟩|⟨k,rfl⟩;exact !{_,_,_,_,rfl,aR,rfl,_,rfl,br !!!⟨aV rfl !!{_,_,_,_,rfl,bX,rfl,_,rfl,br !!!!!!⟨aV rfl<|fo q⟩}⟩};exact !{_,_,_,_,rfl,aR,rfl,_,rfl,br !!!⟨aV rfl !!{_,_,_,_,rfl,bX,rfl,_,rfl,br !!!!!!⟨aV rfl<|fo q⟩}⟩};exact !{_,_,_,_,rfl,aR,rfl,_,rfl,br !!!⟨aV rfl !!{_,_,_,_,rfl,bX,rfl,_,rfl,br !!!!!!⟨aV rfl<|fo q⟩}⟩}
def NO(t:hW):iJ:=λds S R Z=>CT t ds S (λ_=>R .av) Z
theorem Mn(T:Txt w K mg t):Ok P w base T.qN 7 (NO t):=by have jZ:v7 P w mg base T.fe 6 (Mo<|NN t):=Mm<|Qv T;have fK:v7 P w mg base T.cL 6 (Mo<|Ap t):=Mm<|Gy T;have iX:v7 P w mg base T.dW 6 (Mo<|Jo t):=Mm<|Md T;refine T.qN.F.ok CA (by rintro ds S R Z ⟨_,_,_,_,h⟩;rcases h with⟨_,_,e,_⟩|⟨_,_,e,_⟩|⟨_,e,_⟩<;>rw[e]<;>rfl) ?_;rintro eP A outer s H E ds S R Z hr ⟨a,fs,ha,hf,h⟩;rcases h with⟨k,v,e,h⟩|⟨k,v,e,h⟩|⟨k,e,h⟩;subst e;refine{_,(sc (se<|aJ T.fC (gN T) hr<|ac (dv 1) an)<|s1<|si (bp aL hr.u (ix hr.u (dv 1) di) ds) (s1<|se<|tM (dv 0) T.aq T.fe jZ hr<|ac (ix hr.u (dv 1) di)<|ac (ix hr.u (dv 1) di) an)<|s1<|si (bp aL hr.u (ix hr.u (dv 1) di) ds) (s1<|se<|tM (dv 0) T.aq T.cL fK hr<|ac (ix hr.u (dv 1) di)<|ac (ix hr.u (dv 1) di) an)<|s1<|se<|tM (dv 0) T.aq T.dW iX hr<|ac (ix hr.u (dv 1) di) an),?_};refine !!{.inl ⟨k,v,rfl⟩,?_};refine !!!⟨?_⟩;refine bB (λ_=>?_) λh=>absurd h (by decide);exact !{a,_,rfl,ha,Z5 hf<|by decide,_,rfl,_,rfl,_,rfl,_,rfl,λ_=>R .av,Z,h,λd S' r=>fo r,λC S' z=>fo z};subst e;refine{_,(sc (se<|aJ T.fC (gN T) hr<|ac (dv 1) an)<|s1<|si (bp aL hr.u (ix hr.u (dv 1) di) ds) (s1<|se<|tM (dv 0) T.aq T.fe jZ hr<|ac (ix hr.u (dv 1) di)<|ac (ix hr.u (dv 1) di) an)<|s1<|si (bp aL hr.u (ix hr.u (dv 1) di) ds) (s1<|se<|tM (dv 0) T.aq T.cL fK hr<|ac (ix hr.u (dv 1) di)<|ac (ix hr.u (dv 1) di) an)<|s1<|se<|tM (dv 0) T.aq T.dW iX hr<|ac (ix hr.u (dv 1) di) an),?_};refine !!{.inr<|.inl ⟨k,v,rfl⟩,?_};refine !!!⟨?_⟩;refine bB (λh=>absurd h<|by decide) λ_=>?_;refine !!!⟨?_⟩;refine bB (λ_=>?_) λh=>absurd h (by decide);exact !{a,_,rfl,ha,Z5 hf<|by decide,_,rfl,_,rfl,_,rfl,_,rfl,λ_=>R .av,Z,h,λd S' r=>fo r,λC S' z=>fo z};subst e;refine{_,(sc (se<|aJ T.fC (gN T) hr<|ac (dv 1) an)<|s1<|si (bp aL hr.u (ix hr.u (dv 1) di) ds) (s1<|se<|tM (dv 0) T.aq T.fe jZ hr<|ac (ix hr.u (dv 1) di)<|ac (ix hr.u (dv 1) di) an)<|s1<|si (bp aL hr.u (ix hr.u (dv 1) di) ds) (s1<|se<|tM (dv 0) T.aq T.cL fK hr<|ac (ix hr.u (dv 1) di)<|ac (ix hr.u (dv 1) di) an)<|s1<|se<|tM (dv 0) T.aq T.dW iX hr<|ac (ix hr.u (dv 1) di) an),?_};refine !!{.inr<|.inr ⟨k,rfl⟩,?_};refine !!!⟨?_⟩;refine bB (λh=>absurd h<|by decide) λ_=>?_;refine !!!⟨?_⟩;refine bB (λh=>absurd h<|by decide) λ_=>?_;exact !{a,_,rfl,ha,Z5 hf<|by decide,_,rfl,_,rfl,λ_=>R .av,Z,h,λd S' r=>fo r,λC S' z=>fo z}
noncomputable def p3(p:Str×Str×Str):D:=.tup [.str p.1,.str p.2.1,.str p.2.2]
noncomputable def l_(z:Str):Bool:=decide (z ="up")||decide (z ="down")
noncomputable def CU(z:Str):Bool:=decide (z ="first")||decide (z ="last")
theorem Jp(z a b:Str)(x y:V):(([(a,x),(b,y)]:List (Str×V)).lookup z).isSome=(decide (z=a)||decide (z=b)):=by rw[yb,yb];by_cases h:z=a;rw[show(z==a)=true by simp[h],zw h];rfl;rw[show(z==a)=false by simp[h],zu h];by_cases h2:z=b;rw[show(z==b)=true by simp[h2],zw h2];rfl;rw[show(z==b)=false by simp[h2],zu h2];rfl
noncomputable def gs(cs:List<|Str×Str)(p:Str×Str×Str):Bool:=decide (p.1∈cs.map Prod.fst)&&(l_ p.2.1&&CU p.2.2)
noncomputable def CV(cs:List<|Str×Str)(ps:List<|Str×Str×Str)(wy:Str):Bool:=decide (ps.length<=8)&&(ps.all (gs cs)&&(decide ((ps.map Prod.fst).Nodup)&&l_ wy))
theorem nu(l:List<|Str×D)(z:Str)(h:cn (gF l) (.inr z)=some d):∃p∈l,p.1=z/\d=p.2:=by
 have all:∀(l:List (Str×D))(c:List (Key×D)),cn (l.foldl (λc p=>dput c (.inr p.1) p.2) c) (.inr z)=some d->(∃p∈l,p.1=z/\d=p.2)\/cn c (.inr z)=some d:=by intro l;induction l with|nil=>intro c h;exact .inr h|cons p l ih=>intro c h;rcases ih _ h with⟨q,hq,e⟩|h;exact .inl {q,zg _ hq,e};rw[xX]at h;by_cases e:(.inr z:Key)=.inr p.1;rw[if_pos e]at h;exact .inl {p,zr,(yJ e).symm,(zP h).symm};rw[if_neg e]at h;exact .inr h
 rcases all l [] h with h|h;exact h;cases h
def Z6(p:Str×Str×Str):Prop:=p.1.cps.size<=1000/\p.2.1.cps.size<=1000/\p.2.2.cps.size<=1000
inductive Ar (ds:List D) (S:ay) (R:KD) (Z:KX):Prop where
 |mk (z) (h0:ds=[.str z]) (h1:R (.bl<|l_ z) S):Ar ds S R Z
theorem vj(T:Txt w K mg t):Ok P w base T.wo 1 Ar:=by refine T.wo.F.ck Gq ?_;rintro _ _ _ _ _ _ _ S R Z hr ⟨z,e,q⟩;subst e;refine{_,(s1<|sr<|rO (cb bV T.ao ak<|ac (dv 0)<|ac (nN T.lh gD) an)<|HS<|Y_ T.y6 (dv 0)<|dg (v:=.ref t.jC) T.wd rfl λ_=>iD _),?_};refine !{_,_,_,_,rfl,bX,rfl,_,rfl,dP !{z,rfl,rfl,?_}};rw[Jp];exact fo q
inductive As (ds:List D) (S:ay) (R:KD) (Z:KX):Prop where
 |mk (z) (h0:ds=[.str z]) (h1:R (.bl<|CU z) S):As ds S R Z
theorem GA(T:Txt w K mg t):Ok P w base T.Co 1 As:=by refine T.Co.F.ck Gr ?_;rintro _ _ _ _ _ _ _ S R Z hr ⟨z,e,q⟩;subst e;refine{_,(s1<|sr<|rO (cb bV T.ao ak<|ac (dv 0)<|ac (nN T.lh gD) an)<|HS<|Y_ T.y7 (dv 0)<|dg (v:=.ref t.jD) T.we rfl λ_=>iD _),?_};refine !{_,_,_,_,rfl,bX,rfl,_,rfl,dP !{z,rfl,rfl,?_}};rw[Jp];exact fo q
inductive nv (ds:List D) (S:ay) (R:KD) (Z:KX):Prop where
 |mk (cs z) (h0:ds=[.tup<|cs.map aw,.str z]) (h1:Gd cs) (h2:z.cps.size<=1000) (h3:(∀k,(z,k)∈cs->R (.str k) S)) (h4:(z∉cs.map Prod.fst->R .av S)):nv ds S R Z
theorem gO(T:Txt w K mg t):Ok P w base T.dS 3 nv:=by
 refine T.dS.F.ck uc ?_;rintro _ _ _ _ _ _ _ S R Z hr ⟨cs,z,e,hg,hz,q1,q2⟩;subst e;refine{_,(sc (si (bZ<|tv<|aJ T.qM (sM T) hr<|ac (dv 1) an) (s1<|sr dn) s0)<|s1<|sr<|mg1 hr.u (ct Il T.IU DL<|ac (dv 0) an)<|dv 1),?_};refine !{.str z,rfl,gt_str hz,_,rfl,?_};refine bB (λh=>?_) λh=>?_;have h:lq z=false:=nt h;refine fo<|q2 λm=>?_;obtain⟨c,hc,rfl⟩:=ze.mp m;rw[(hg.2.2 c hc).1]at h;cases h;have ek:cs.map aw=(cs.map λc=>(c.1,D.str c.2)).map D_:=by rw[zt];rfl
 refine !{(cs.map λc=>(c.1,D.str c.2)),by rw[ek],λp hp=>{p,_,rfl,aa,_,rfl,_,.inr z,aa,rfl,S,.new hp,?_}};have h1:=uY (cs.map λc=>(c.1,D.str c.2)) z;cases q3:cn (gF<|cs.map λc=>(c.1,D.str c.2)) (.inr z) with|none=>(rw[q3]at h1;refine q2 λm=>?_;obtain⟨c,hc,e⟩:=ze.mp m;have:(cs.map λc=>(c.1,D.str c.2)).any (λp=>decide<|p.1=z)=true:=List.any_eq_true.mpr {_,ze.mpr ⟨c,hc,rfl⟩,zw e};rw[this]at h1;cases h1)|some d=>obtain⟨p,hp,e1,rfl⟩:=nu _ _ q3;obtain⟨c,hc,rfl⟩:=ze.mp hp;have e1:c.1=z:=e1;exact q1 c.2<|by rw[<-e1];exact hc
inductive vk (ds:List D) (S:ay) (R:KD) (Z:KX):Prop where
 |mk (cs p) (h0:ds=[.tup<|cs.map aw,p3 p]) (h1:Gd cs) (h2:Z6 p) (h3:R (.bl<|gs cs p) S):vk ds S R Z
theorem CW(T:Txt w K mg t):Ok P w base T.wu 4 vk:=by
 have w5:Ok P w base T.dS 3 (λds S R _=>∃cs z,ds=[.tup<|cs.map aw,.str z]/\Gd cs/\z.cps.size<=1000/\∀d,ah d=!decide (z∈cs.map Prod.fst)->R d S):=(gO T).Ux <| by rintro ds S R Z ⟨cs,z,e,hg,hz,q⟩;exact{cs,z,e,hg,hz,λk hk=>q _<|by rw[zw<|ze.mpr {_,hk,rfl}];rfl,λhn=>q _<|by rw[zu hn];rfl}
 refine T.wu.F.ck Cz ?_;rintro _ _ _ _ _ _ _ S R Z hr ⟨cs,p,e,hg,hp,q⟩;subst e;refine{_,(sc (si (twd<|twor (bZ<|tv<|cb bV T.ao ak<|ac (dv 1)<|ac (nN T.bu aW) an)<|tw1<|bp iI hr.u (cb bb T.aX aG<|ac (dv 1) an) di) (s1<|sr db) s0)<|s1<|sr<|rO (cm lM hr.u (aJ T.dS w5 hr<|ac (dv 0)<|ac (ix hr.u (dv 1) di) an) dn)<|rO (aJ T.wo (vj T) hr<|ac (ix hr.u (dv 1) di) an)<|HS<|aJ T.Co (GA T) hr<|ac (ix hr.u (dv 1) di) an),?_};refine !{_,_,_,_,rfl,aR,rfl,_,rfl,br !!!⟨br ?_⟩};refine !!!{cs,p.1,rfl,hg,hp.1,λd hd=>!⟨?_⟩};unfold gs at q;refine bB (λh=>?_) λh=>?_;have h:(!ah d)=true:=h;rw[hd,Bool.not_not]at h;rw[h,ya]at q;refine !!{p.2.1,rfl,_,rfl,?_};refine bB (λh2=>?_) λh2=>?_;rw[h2,ya]at q;exact !!{p.2.2,rfl,fo q};rw[h2,zS]at q;exact fo q;have h:(!ah d)=false:=h;rw[hd,Bool.not_not]at h;rw[h,zS]at q;exact fo q
inductive lA (t:hW) (ds:List D) (S:ay) (R:KD) (Z:KX):Prop where
 |mk (cs ps wy) (h0:ds=[.tup<|cs.map aw,.tup [.tup<|ps.map p3,.str wy]]) (h1:Gd cs) (h2:(∀p∈ps,Z6 p)) (h3:(CV cs ps wy=true->R .av S)) (h4:(CV cs ps wy=false->Z t.lS S)):lA t ds S R Z
theorem j5(T:Txt w K mg t):Ok P w base T.f_ 5 (lA t):=by
 refine T.f_.F.ck fF ?_;rintro _ _ _ _ _ _ _ S R Z hr ⟨cs,ps,wy,e,hg,hp,q1,q2⟩;subst e;have Vm:(ps.map p3).length=ps.length:=zb _;refine{_,(sc (si (twd<|twor (bZ<|tv<|cb bV T.ao ak<|ac (dv 1)<|ac (nN T.bu aW) an)<|tw1<|bp iI hr.u (cb bb T.aX aG<|ac (dv 1) an) di) (s1<|p8 ⟨T.cY⟩ T.eF<|ac ds an) s0)<|sc (cC (i:=2) fF.nd<|ix hr.u (dv 1) di)<|sc (si (twd<|twor (bZ<|tv<|cb bV T.ao ak<|ac (dv 2)<|ac (nN T.bu aW) an)<|tw1<|bp n_ hr.u (cb bb T.aX aG<|ac (dv 2) an)<|dg (v:=.int 8) T.jF {_,rfl} λ_=>aN _) (s1<|p8 ⟨T.cY⟩ T.eF<|ac ds an) s0)<|sc (si (bZ<|tv<|cb k7 T.k_ gB<|ac (p_ (N:=["part","columns"]) (src:=[none,some 0]) (i6 (ae k8) ["columns","order","parts","names"] rfl rfl<|by trivial) (FP<|dv 2) (mm<|show(["part","columns"]:List Str).Nodup by trivial) (aO rfl) aP (λ_ _ _ _ _=>px) λ_ _ _ _ _=>(aJ T.wu (CW T) hr<|ac (dv 1)<|ac (dv 0) an)) an) (s1<|p8 ⟨T.cY⟩ T.eF<|ac ds an) s0)<|sc (LH (i:=3) (N:=["part"]) (src:=[none]) fF.nd (i6 (ae k8) ["columns","order","parts","names"] rfl rfl<|by trivial) (FP<|dv 2) (mm<|show(["part"]:List Str).Nodup by trivial) (aO rfl) aP (λ_ _ _ _ _=>px) λ_ _ _ _ _=>(ix hr.u (dv 0) di))<|sc (si (bp iI hr.u (lse (dv 3) T.aX T.NH)<|cb bb T.aX aG<|ac (dv 3) an) (s1<|p8 ⟨T.cY⟩ T.eF<|ac ds an) s0)<|s1<|si (bZ<|tv<|aJ T.wo (vj T) hr<|ac (ix hr.u (dv 1) di) an) (s1<|p8 ⟨T.cY⟩ T.eF<|ac ds an) s0),?_};refine !{_,_,_,_,rfl,aR,rfl,_,rfl,br !!!⟨br ?_⟩};refine !!!{_,_,_,_,rfl,aR,rfl,_,rfl,br !!!⟨?_⟩};refine bB (λh=>?_) λh=>?_;have h:(8:Int)<(((ps.map p3).length:Nat):Int):=zB h;rw[Vm]at h;exact{sI,fo<|q2<|by unfold CV;rw[zu<|by omega];rfl};have h:¬(8:Int)<(((ps.map p3).length:Nat):Int):=zO h;rw[Vm]at h;have h8:ps.length<=8:=by omega
 unfold CV at q1 q2;rw[zw h8,ya]at q1 q2;refine !{_,.inl rfl,?_};refine fI (λd v=>∃p,d=p3 p/\v=.bl (gs cs p)) trivial (by show(ps.map p3).length<=_;omega) (λd hd Q hQ=>?_) λout ho p l9=>?_;obtain⟨p,WT,rfl⟩:=ze.mp hd;exact !!{cs,p,rfl,hg,hp p WT,hQ _ ⟨p,rfl,rfl⟩};have eo:out=(ps.map<|gs cs).map D.bl:=by have:∀{ps:List (Str×Str×Str)}{out:List D},Paired (λd v=>∃p,d=p3 p/\v=.bl (gs cs p)) (ps.map p3) out->out=(ps.map<|gs cs).map D.bl:=(by intro ps;induction ps with|nil=>(intro out h;cases h;rfl)|cons x ps ih=>intro out h;cases h with|cons r t=>obtain⟨p,e1,e2⟩:=r;have:x=p:=(by obtain⟨a,b,c⟩:=x;obtain⟨a',b',c'⟩:=p;unfold p3 at e1;injection e1 with e1;injection e1 with h1 e1;injection e1 with h2 e1;injection e1 with h3 _;injection h1 with h1;injection h2 with h2;injection h3 with h3;rw[show a=a' from h1,show b=b' from h2,show c=c' from h3]);rw[e2,ih t,<-this];rfl);exact this ho
 subst eo;refine{.ref p,ps.map<|gs cs,rfl,aa,_,rfl,?_};rw[show(ps.map<|gs cs).all id=ps.all (gs cs) from all_map];refine bB (λha=>?_) λha=>?_;have ha:=nt ha;exact{sI,S,.new l9,q2<|by rw[ha];rfl};have ha:=nf ha;rw[ha,ya]at q1 q2;refine !{_,.inl rfl,?_};refine comp_map (λd=>match d with|.tup (x::_)=>x|_=>.av) trivial (by show(ps.map p3).length<=_;omega) (λd hd Q hQ=>?_) λp2 gU=>?_;obtain⟨p,WT,rfl⟩:=ze.mp hd;exact !!⟨hQ⟩;have e3:(ps.map p3).map (λd=>match d with|.tup (x::_)=>x|_=>.av)=(ps.map Prod.fst).map D.str:=by rw[zt,zt];rfl
 rw[show({ps.map p3,λ_=>True}:vW).xs=ps.map p3 from rfl,e3];have sb:Sub S ((S.set p<|.lst<|(ps.map<|gs cs).map D.bl).set p2<|.lst<|(ps.map Prod.fst).map D.str):=(Sub.new l9).trans<|.new gU;have Et:((S.set p<|.lst<|(ps.map<|gs cs).map D.bl).set p2<|.lst<|(ps.map Prod.fst).map D.str) p2=some (.lst<|(ps.map Prod.fst).map D.str):=aa;generalize (S.set p<|.lst<|(ps.map<|gs cs).map D.bl).set p2 (.lst<|(ps.map Prod.fst).map D.str)=S2 at sb Et⊢;refine !{ps.map Prod.fst,Et,by rw[zb];omega,_,rfl,_,rfl,.inl {_,Et,_,rfl,?_}};have e4:decide ((((i7<|ps.map Prod.fst).length:Nat):Int)=((((ps.map Prod.fst).map D.str).length:Nat):Int))=decide ((ps.map Prod.fst).Nodup):=by rw[yI,<-uQ,zb];omega
 refine bB (λhn=>?_) λhn=>?_;have hn:(!decide ((((i7<|ps.map Prod.fst).length:Nat):Int)=((((ps.map Prod.fst).map D.str).length:Nat):Int)))=true:=hn;rw[e4]at hn;exact{sI,S,sb,q2<|by rw[nt hn];rfl};have hn:(!decide ((((i7<|ps.map Prod.fst).length:Nat):Int)=((((ps.map Prod.fst).map D.str).length:Nat):Int)))=false:=hn;rw[e4]at hn;rw[nf hn,ya]at q1 q2;refine !!{wy,rfl,_,rfl,?_};refine bB (λhw=>?_) λhw=>?_;exact{sI,S,sb,q2<|nt hw};exact{S,sb,q1<|nf hw}
def CY(o:Str)(c:Str×Str)(v:D):Prop:=o ="is"\/(v≠.av/\(o ="below"\/o ="above"\/(o ="begins"/\c.2 ="word")))
def Lf(cs:List<|Str×Str)(d:D):Prop:=d=.tup [.str "every"]\/(∃ks:List Str,d=.tup [.str "key",.tup<|ks.map .str]/\ks.length<=8/\∀k∈ks,k∈KS)\/∃(o:Str) (c:Str×Str) (v:D),c∈cs/\Vg c.2 v/\CY o c v/\d=.tup [.str o,.str c.1,v]
def Sg(cs:List<|Str×Str):Nat->D->Prop|0,_=>False|n+1,d=>Lf cs d\/(∃e,d=.tup [.str "not",e]/\Sg cs n e)\/∃(o:Str) (ds:List D),(o ="and"\/o ="or")/\d=.tup [.str o,.tup ds]/\ds.length<=2/\∀e∈ds,Sg cs n e
theorem Eu(h:Vg k v):Gt S v:=by have h:=h.2;cases v with|av=>(exact{{_,rfl},λz e=>by cases e})|int i=>(exact{{_,rfl},λz e=>by cases e})|str z=>unfold dh at h;simp only[zL,yj]at h;exact gt_str (by lia)|_=>cases h
inductive iw (ds:List D) (S:ay) (R:KD) (Z:KX):Prop where
 |mk (es) (h0:ds=[.tup es]) (h1:es.length<=8) (h2:R (.bl true) S):iw ds S R Z
theorem pP(T:Txt w K mg t):Ok P w base T.dE 1 iw:=by refine T.dE.F.ck mX ?_;rintro _ _ _ _ _ _ _ S R Z hr ⟨es,e,hl,q⟩;subst e;refine{_,(s1<|sr<|rO (cb bV T.ao ak<|ac (dv 0)<|ac (nN T.bu aW) an)<|HS<|cm jy hr.u (cb bb T.aX aG<|ac (dv 0) an)<|dg (v:=.int 8) T.lV {_,rfl} λ_=>aN _),?_};refine !{_,_,_,_,rfl,aR,rfl,_,rfl,dP !!⟨?_⟩};have e1:decide (((es.length:Nat):Int)<=8)=true:=zw (by lia);show Fo S (R<|.bl<|decide<|((es.length:Nat):Int)<=8);rw[e1];exact fo q
inductive gQ (ds:List D) (S:ay) (R:KD) (Z:KX):Prop where
 |mk (cs o c v) (h0:ds=[.tup<|cs.map aw,.tup [.str o,.str c.1,v]]) (h1:Gd cs) (h2:c∈cs) (h3:Vg c.2 v) (h4:CY o c v) (h5:R (.bl true) S):gQ ds S R Z
theorem sU(T:Txt w K mg t):Ok P w base T.jL 4 gQ:=by
 refine T.jL.F.ck jN ?_;rintro _ _ _ _ _ _ _ S R Z hr ⟨cs,o,c,v,e,hg,hc,hv,ho,q⟩;subst e;have hn:∀k,(c.1,k)∈cs->k=c.2:=λk hk=>by have:=gq hg.2.1 hk hc rfl;rw[<-this]
 refine{_,(sc (cC (i:=2) jN.nd<|aJ T.dS (gO T) hr<|ac (dv 0)<|ac (ix hr.u (dv 1) di) an)<|sc (si (twd<|twor (bp fP hr.u (dv 2) dn)<|tw1<|bZ<|tv<|aJ T.jI (jT T) hr<|ac (dv 2)<|ac (ix hr.u (dv 1) di) an) (s1<|sr db) s0)<|sc (si (bp aL hr.u (ix hr.u (dv 1) di) ds) (s1<|sr db) s0)<|sc (si (twd<|twand (bp aL hr.u (ix hr.u (dv 1) di) ds)<|tw1<|bp iI hr.u (dv 2) ds) (s1<|sr db) s0)<|s1<|sr<|cm lM hr.u (ix hr.u (dv 1) di) dn),?_};refine !!!{cs,c.1,rfl,hg,oH (hg.2.2 c hc).1,λk hk=>?_,λhk=>absurd (ze.mpr ⟨c,hc,rfl⟩) hk};cases hn k hk;refine !!⟨br !!!{c.2,v,rfl,Eu hv,_,rfl,?_}⟩;rw[hv.1];refine br !!!⟨?_⟩;rcases ho with rfl|⟨WU,ho⟩;exact kQ (by trivial)<|fo q;have UK:ah v=false:=by cases v<;>first|rfl|exact absurd rfl WU
 have e9:(!ah v)=true:=by rw[UK];rfl
 have fin:Fo S (R<|.bl<|!ah v):=by rw[e9];exact fo q
 rcases ho with rfl|rfl|⟨rfl,hw⟩;refine aV (by trivial) !!!⟨aV (by trivial) !!⟨fin⟩⟩;refine aV (by trivial) !!!⟨aV (by trivial) !!⟨fin⟩⟩;refine aV (by trivial) !!!⟨kQ (by trivial) !!⟨?_⟩⟩;rw[hw];exact aV (by trivial) !!⟨fin⟩
theorem Mp(h:z∈KS):z.cps.size<=1000:=zG (gM z h).2.1<|by decide
inductive pQ (ds:List D) (S:ay) (R:KD) (Z:KX):Prop where
 |mk (cs n d) (h0:ds=[.tup<|cs.map aw,d]) (h1:Gd cs) (h2:Sg cs n d) (h3:R (.bl true) S):pQ ds S R Z
theorem w6(T:Txt w K mg t):Ok P w base T.oz 5 pQ:=by
 refine T.oz.F.ck wI ?_;rintro _ _ _ _ _ _ _ S R Z hr ⟨cs,n,d,e,hg,hs,q⟩;subst e;refine{_,(sc (si (twd<|twor (bZ<|tv<|cb bV T.ao ak<|ac (dv 1)<|ac (nN T.bu aW) an)<|twor (bp aL hr.u (cb bb T.aX aG<|ac (dv 1) an) di)<|tw1<|bZ<|tv<|cb bV T.ao ak<|ac (ix hr.u (dv 1) di)<|ac (nN T.lh gD) an) (s1<|sr db) s0)<|sc (si (bp iI hr.u (mgk T.oq (by decide) (gK T.mS)<|ix hr.u (dv 1) di)<|cb bb T.aX aG<|ac (dv 1) an) (s1<|sr db) s0)<|sc (si (bp xS hr.u (ix hr.u (dv 1) di)<|cy<|ac ds<|ac ds<|ac ds<|ac ds an) (s1<|sr<|aJ T.jL (sU T) hr<|ac (dv 0)<|ac (dv 1) an) s0)<|sc (si (bp aL hr.u (ix hr.u (dv 1) di) ds) (s1<|sr<|rO (aJ T.dE (pP T) hr<|ac (ix hr.u (dv 1) di) an)<|HS<|cb k7 T.k_ gB<|ac (p_ (N:=["key"]) (src:=[none]) (i6 (ae yV) ["columns","thing"] rfl rfl<|by trivial) (FP<|ix hr.u (dv 1) di) (mm<|show(["key"]:List Str).Nodup by trivial) (aO rfl) aP (λ_ _ _ _ _=>px) λ_ _ _ _ _=>(aJ T.lX (ip T) hr<|ac (dv 0) an)) an) s0)<|sc (si (bp xS hr.u (ix hr.u (dv 1) di)<|cy<|ac ds<|ac ds an) (s1<|sr<|aJ T.dE (pP T) hr<|ac (ix hr.u (dv 1) di) an) s0)<|s1<|sr db),?_};cases n with|zero=>exact hs.elim|succ n =>
 rcases hs with (rfl|⟨ks,rfl,Z7,A9⟩|⟨o,c,v,hc,hv,ho,rfl⟩)|⟨e,rfl,he⟩|⟨o,es,ho,rfl,NP,_⟩;refine !{_,_,_,_,rfl,aR,rfl,_,rfl,br !!!⟨aV rfl !!{_,_,_,_,rfl,bX,rfl,_,rfl,br ?_}⟩};refine !!!!!!⟨aV rfl ?_⟩;exact !!{qo,rfl,rfl,_,rfl,aV (by trivial) !!!⟨aV (by trivial) !!{bC,rfl,rfl,_,rfl,aV (by trivial)<|fo q}⟩};refine !{_,_,_,_,rfl,aR,rfl,_,rfl,br !!!⟨aV rfl !!{_,_,_,_,rfl,bX,rfl,_,rfl,br ?_}⟩};refine !!!!!!⟨aV rfl ?_⟩;refine !!{qo,rfl,rfl,_,rfl,aV (by trivial) !!!⟨kQ (by trivial) ?_⟩};refine !!!{by rw[zb];exact Z7,_,rfl,dP !!{_,.inl rfl,?_}};refine comp_map (λ_=>.bl true) trivial (by show(ks.map D.str).length<=1000;rw[zb];lia) (λd hd Q hQ=>?_) λp hp=>?_;obtain⟨k,hk,rfl⟩:=ze.mp hd;refine !{.str k,rfl,gt_str<|Mp<|A9 k hk,?_};show Q (.bl<|kO k) S;rw[(gM k<|A9 k hk).1];exact hQ;have e2:(ks.map D.str).map (λ_=>D.bl true)=(ks.map λ_=>true).map D.bl:=by rw[zt,zt];rfl
 have e3:(ks.map λ_=>true).all id=true:=by rw[all_map];exact yc.mpr λ_ _=>rfl
 refine{.ref p,ks.map λ_=>true,rfl,?_,S,.new hp,?_};show(S.set p<|.lst<|(ks.map D.str).map _) p=_;rw[aa,e2];rw[e3];exact q;have h4:o ="is"\/o ="below"\/o ="above"\/o ="begins":=by rcases ho with h|⟨_,h|h|⟨h,_⟩⟩;exact .inl h;exact .inr<|.inl h;exact .inr<|.inr<|.inl h;exact .inr<|.inr<|.inr h
 refine !{_,_,_,_,rfl,aR,rfl,_,rfl,br !!!⟨aV rfl !!{_,_,_,_,rfl,bX,rfl,_,rfl,br ?_}⟩};have fin:∀Zq:KX,gQ [D.tup<|cs.map aw,.tup [.str o,.str c.1,v]] S (λd S'=>Fo S'<|R d) Zq:=λ_=>{cs,o,c,v,rfl,hg,hc,hv,ho,fo q};rcases h4 with rfl|rfl|rfl|rfl;exact !!!!!!⟨aV rfl !!{qo,rfl,rfl,_,rfl,kQ (by trivial) !!⟨(fin _)⟩}⟩;exact !!!!!!⟨aV rfl !!{qo,rfl,rfl,_,rfl,kQ (by trivial) !!⟨(fin _)⟩}⟩;exact !!!!!!⟨aV rfl !!{qo,rfl,rfl,_,rfl,kQ (by trivial) !!⟨(fin _)⟩}⟩;exact !!!!!!⟨aV rfl !!{qo,rfl,rfl,_,rfl,kQ (by trivial) !!⟨(fin _)⟩}⟩;refine !{_,_,_,_,rfl,aR,rfl,_,rfl,br !!!⟨aV rfl !!{_,_,_,_,rfl,bX,rfl,_,rfl,br ?_}⟩};refine !!!!!!⟨aV rfl ?_⟩;exact !!{qo,rfl,rfl,_,rfl,aV (by trivial) !!!⟨aV (by trivial) !!{bC,rfl,rfl,_,rfl,aV (by trivial)<|fo q}⟩};have h8:es.length<=8:=by lia
 rcases ho with rfl|rfl;refine !{_,_,_,_,rfl,aR,rfl,_,rfl,br !!!⟨aV rfl !!{_,_,_,_,rfl,bX,rfl,_,rfl,br ?_}⟩};refine !!!!!!⟨aV rfl ?_⟩;exact !!{qo,rfl,rfl,_,rfl,aV (by trivial) !!!⟨aV (by trivial) !!{bC,rfl,rfl,_,rfl,kQ (by trivial) !!!{h8,fo q}}⟩};refine !{_,_,_,_,rfl,aR,rfl,_,rfl,br !!!⟨aV rfl !!{_,_,_,_,rfl,bX,rfl,_,rfl,br ?_}⟩};refine !!!!!!⟨aV rfl ?_⟩;exact !!{qo,rfl,rfl,_,rfl,aV (by trivial) !!!⟨aV (by trivial) !!{bC,rfl,rfl,_,rfl,kQ (by trivial) !!!{h8,fo q}}⟩}
inductive jg (ds:List D) (S:ay) (R:KD) (Z:KX):Prop where
 |mk (l es cs m) (h0:ds=[.ref l]) (h1:S l=some (.lst es)) (h2:es.length<=16) (h3:(∀e∈es,Sg cs (m+1) e)) (h4:∀p fs,fs.length<=2*es.length->(∀f∈fs,Sg cs m f)->S p=none->R (.ref p) (S.set p<|.lst fs)):jg ds S R Z
theorem oK(T:Txt w K mg t):Ok P w base T.gI 1 jg:=by
 refine T.gI.F.ck dX ?_;rintro _ _ _ _ _ _ _ S R Z hr ⟨l,es,cs,m,e,hl,h8,NP,q⟩;subst e;refine{_,(sc (cC (i:=1) dX.nd<|cG an)<|sc (xW<|FR (il<|dv 0) (gn (i:=2) dX.nd)<|sc (xW<|si (bp aL hr.u (ix hr.u (dv 2) di) ds) (s1<|se<|bm zR yf yg du (dv 1)<|ac (ix hr.u (dv 2) di) an) s0)<|s1<|si (bp xS hr.u (ix hr.u (dv 2) di)<|cy<|ac ds<|ac ds an) (s1<|se<|bm zR PySem.F.slot_list_extend PySem.F.type_list_extend FV (dv 1)<|ac (ix hr.u (dv 2) di) an) s0)<|s1<|sr<|dv 1),?_};refine{Ag,λf hf=>?_};have Jj:l≠f:=fS hl hf;refine{λaF S'=>∃o fs,aF=[some<|.ref l,some<|.ref f,o]/\S'=S.set f (.lst fs)/\fs.length<=2*es.length/\∀x∈fs,Sg cs m x,?_,?_};refine !{es,(ag Jj).trans hl,?_};refine{λi aF S'=>∃o fs,aF=[some<|.ref l,some<|.ref f,o]/\S'=S.set f (.lst fs)/\fs.length<=2*i/\∀x∈fs,Sg cs m x,{none,[],rfl,rfl,zo _,λ_ h=>(nomatch h)},?_,?_,?_};rintro i aF S' ⟨o,fs,rfl,rfl,_⟩;exact(ag Jj).trans hl;rintro i e aF S' he ⟨o,fs,rfl,rfl,BG,RU⟩;have he:es[i]?=some e:=he;have hem:=NP e<|zK he;have hi:i<es.length:=(zf.mp he).1;have J6:(S.set f<|.lst fs) f=some (.lst fs):=aa;have keep:∀e:D,∃o GY,[some<|D.ref l,some<|D.ref f,some e]=[some<|.ref l,some<|.ref f,o]/\S.set f (.lst fs)=S.set f (.lst GY)/\GY.length<=2*(i+1)/\∀x∈GY,Sg cs m x:=λe=>{_,fs,rfl,rfl,by lia,RU};have more:∀(e:D)(ds:List D),ds.length<=2->(∀x∈ds,Sg cs m x)->∃o GY,[some<|D.ref l,some<|D.ref f,some e]=[some<|.ref l,some<|.ref f,o]/\(S.set f<|.lst fs).set f (.lst<|fs++ds)=S.set f (.lst GY)/\GY.length<=2*(i+1)/\∀x∈GY,Sg cs m x:=λe ds h1 h2=>{_,fs++ds,rfl,dQ,by rw[zH];lia,λx hx=>(zM.mp hx).elim (RU x)<|h2 x};have adE:fs.length+2<=1000:=by lia
 rcases hem with (rfl|⟨ks,rfl,_,_⟩|⟨o,c,v,_,_,ho,rfl⟩)|⟨e',rfl,YZ⟩|⟨o,ds,ho,rfl,OW,hd⟩;refine{λqz S2=>qz=_/\S2=S.set f (.lst fs),!!!⟨aV (by trivial)<|fo ⟨rfl,rfl⟩⟩,?_};rintro _ _ ⟨rfl,rfl⟩;exact !!{bC,rfl,rfl,_,rfl,aV (by trivial)<|keep _};refine{λqz S2=>qz=_/\S2=S.set f (.lst fs),!!!⟨aV (by trivial)<|fo ⟨rfl,rfl⟩⟩,?_};rintro _ _ ⟨rfl,rfl⟩;exact !!{bC,rfl,rfl,_,rfl,aV (by trivial)<|keep _};rcases ho with rfl|⟨_,rfl|rfl|⟨rfl,_⟩⟩;refine{λqz S2=>qz=_/\S2=S.set f (.lst fs),!!!⟨aV (by trivial)<|fo ⟨rfl,rfl⟩⟩,?_};rintro _ _ ⟨rfl,rfl⟩;exact !!{bC,rfl,rfl,_,rfl,aV (by trivial)<|keep _};refine{λqz S2=>qz=_/\S2=S.set f (.lst fs),!!!⟨aV (by trivial)<|fo ⟨rfl,rfl⟩⟩,?_};rintro _ _ ⟨rfl,rfl⟩;exact !!{bC,rfl,rfl,_,rfl,aV (by trivial)<|keep _};refine{λqz S2=>qz=_/\S2=S.set f (.lst fs),!!!⟨aV (by trivial)<|fo ⟨rfl,rfl⟩⟩,?_};rintro _ _ ⟨rfl,rfl⟩;exact !!{bC,rfl,rfl,_,rfl,aV (by trivial)<|keep _};refine{λqz S2=>qz=_/\S2=S.set f (.lst fs),!!!⟨aV (by trivial)<|fo ⟨rfl,rfl⟩⟩,?_};rintro _ _ ⟨rfl,rfl⟩;exact !!{bC,rfl,rfl,_,rfl,aV (by trivial)<|keep _};refine{λqz S2=>qz=_/\S2=(S.set f<|.lst fs).set f (.lst<|fs++[e']),!!!⟨kQ (by trivial) !⟨{rfl,_,J6},_,rfl,_,rfl,f,_,_,rfl,rfl,J6,bg<|by lia,fo ⟨rfl,rfl⟩⟩⟩,?_};rintro _ _ ⟨rfl,rfl⟩;exact !!{bC,rfl,rfl,_,rfl,aV (by trivial)<|more _ [e'] (by simp) λx hx=>by rw[zE.mp hx];exact YZ};rcases ho with rfl|rfl;refine{λqz S2=>qz=_/\S2=S.set f (.lst fs),!!!⟨aV (by trivial)<|fo ⟨rfl,rfl⟩⟩,?_};rintro _ _ ⟨rfl,rfl⟩;exact !!{bC,rfl,rfl,_,rfl,kQ (by trivial) !⟨{rfl,_,J6},_,rfl,_,rfl,f,_,_,rfl,rfl,J6,sm<|by lia,more _ ds OW hd⟩};refine{λqz S2=>qz=_/\S2=S.set f (.lst fs),!!!⟨aV (by trivial)<|fo ⟨rfl,rfl⟩⟩,?_};rintro _ _ ⟨rfl,rfl⟩;exact !!{bC,rfl,rfl,_,rfl,kQ (by trivial) !⟨{rfl,_,J6},_,rfl,_,rfl,f,_,_,rfl,rfl,J6,sm<|by lia,more _ ds OW hd⟩};rintro aF S' ⟨o,fs,rfl,rfl,BG,RU⟩;exact fo ⟨o,fs,rfl,rfl,BG,RU⟩;rintro aF S' ⟨o,fs,rfl,rfl,BG,RU⟩;exact{_,rfl,fo<|q f fs BG RU hf}
inductive lB (ds:List D) (S:ay) (R:KD) (Z:KX):Prop where
 |mk (cs d) (h0:ds=[.tup<|cs.map aw,d]) (h1:Gd cs) (h2:Sg cs 4 d) (h3:R .av S):lB ds S R Z
theorem sV(T:Txt w K mg t):Ok P w base T.jK 6 lB:=by
 refine T.jK.F.ck bJ ?_;rintro _ _ _ _ _ _ _ S R Z hr ⟨cs,d,e,hg,hd,q⟩;subst e;refine{_,(sc (cC (i:=2) bJ.nd<|cG<|ac (dv 1) an)<|sc (cC (i:=3) bJ.nd di)<|sc (cC (i:=4) bJ.nd di)<|s1<|swh (bp n_ hr.u (cb bb T.aX aG<|ac (dv 2) an) di)<|sc (sau (i:=3) bJ.nd di)<|sc (sau (i:=4) bJ.nd<|cb bb T.aX aG<|ac (dv 2) an)<|sc (si (twd<|twor (bp n_ hr.u (dv 3)<|dg (v:=.int 8) T.wb {_,rfl} λ_=>aN _)<|tw1<|bp n_ hr.u (dv 4)<|dg (v:=.int 200) T.jG {_,rfl} λ_=>aN _) (s1<|p8 ⟨T.iP⟩ T.pF<|ac ds an) s0)<|sc (si (bZ<|tv<|cb k7 T.k_ gB<|ac (p_ (N:=["thing","columns"]) (src:=[none,some 0]) (i6 (ae t6) ["columns","sieve","level","deep","parts"] rfl rfl<|by trivial) (il<|dv 2) (mm<|show(["thing","columns"]:List Str).Nodup by trivial) (aO rfl) aP (λ_ _ _ _ _=>px) λ_ _ _ _ _=>(aJ T.oz (w6 T) hr<|ac (dv 1)<|ac (dv 0) an)) an) (s1<|p8 ⟨T.iP⟩ T.pF<|ac ds an) s0)<|s1<|cC (i:=2) bJ.nd<|aJ T.gI (oK T) hr<|ac (dv 2) an),?_};refine !{sI,λl0 WK=>?_};refine{λm aF S'=>∃(l:Addr) (es:List D) (dp p:Nat),aF=[some<|.tup<|cs.map aw,some d,some<|.ref l,some<|.int dp,some<|.int p]/\S' l=some (.lst es)/\Sub S S'/\(∀e∈es,Sg cs m e)/\dp+m=4/\p<=16*dp/\es.length*2^m<=16,{4,l0,[d],0,0,rfl,aa,.new WK,λe he=>by rw[zE.mp he];exact hd,rfl,zo _,zo 16},?_};rintro m aF S' ⟨l,es,dp,p,rfl,hl,sb,NP,hdp,hp,h8⟩;refine !!⟨.inl {_,hl,_,rfl,?_}⟩;refine bB (λh1=>?_) λh1=>?_;have xK:0<es.length:=by have h1:(0:Int)<((es.length:Nat):Int):=zB h1;lia
 obtain⟨e0,he0⟩:=List.exists_mem_of_length_pos xK;obtain⟨n,rfl⟩:∃n,m=n+1:=by cases m with|zero=>exact(NP e0 he0).elim|succ n=>exact⟨n,rfl⟩
 have hle:es.length<=16:=zG (Nat.le_mul_of_pos_right _<|Nat.two_pow_pos _) h8;refine !!!!!⟨.inl {_,hl,_,rfl,?_}⟩;refine !!⟨aV (zu<|by lia) !!⟨aV (zu<|by lia) ?_⟩⟩;refine !{es,hl,?_};refine comp_map (λ_=>.bl true) hl (by show es.length<=1000;lia) (λe he Q hQ=>?_) λp1 CQ=>?_;exact !!{cs,_,e,rfl,hg,NP e he,hQ};have e2:es.map (λ_=>D.bl true)=(es.map λ_=>true).map D.bl:=by rw[zt];rfl
 have e3:(es.map λ_=>true).all id=true:=by rw[all_map];exact yc.mpr λ_ _=>rfl
 refine{.ref p1,es.map λ_=>true,rfl,?_,_,rfl,?_};show(S'.set p1<|.lst<|es.map _) p1=_;rw[aa,e2];rw[e3];refine br ?_;have s1:=sb.trans<|.new (c:=.lst<|es.map λ_=>D.bl true) CQ;have Je:(S'.set p1<|.lst<|es.map λ_=>D.bl true) l=some (.lst es):=(ag<|fS hl CQ).trans hl;refine !{l,es,cs,n,rfl,Je,hle,NP,λp2 fs h1 h2 h3=>?_};refine{n,yH n,p2,fs,dp+1,p+es.length,?_,aa,s1.trans<|.new h3,h2,by lia,by lia,?_};show[_,_,_,some<|D.int<|((dp:Nat):Int)+1,some<|D.int<|((p:Nat):Int)+((es.length:Nat):Int)]=_;rw[show(((dp:Nat):Int)+1)=((dp+1:Nat):Int) by lia,show(((p:Nat):Int)+((es.length:Nat):Int))=((p+es.length:Nat):Int) by lia];rw[Nat.pow_succ]at h8;exact zG (Nat.mul_le_mul_right _ h1) (by rw[Nat.mul_comm 2,Nat.mul_assoc,Nat.mul_comm 2];exact h8);exact⟨S,sb,q⟩
noncomputable def Mq(cs:List<|Str×Str)(z:Str):Nat:=(cs.map Prod.fst).idxOf z
noncomputable def ai(cs:List<|Str×Str)(ws:List D)(z:Str):D:=(ws[Mq cs z]?).getD .av
noncomputable def aj(r:Str×List D):D:=.tup [.str r.1,.tup r.2]
theorem sW:∀{l:List α}{m:List β},Paired rel l m->∀{i:Nat}{a:α},l[i]?=some a->∃b,m[i]?=some b/\rel a b|_,_,.nil,_,_,h=>by simp at h|_,_,.cons r t,0,a,h=>(by rw[List.getElem?_cons_zero]at h⊢;cases h;exact{_,rfl,r})|_,_,.cons r t,i+1,a,h=>by rw[List.getElem?_cons_succ]at h⊢;exact sW t h
theorem sX(hg:Gd cs)(h:c∈cs):cs[Mq cs c.1]?=some c/\(cs.map Prod.fst)[Mq cs c.1]?=some c.1:=by
 have hm:c.1∈cs.map Prod.fst:=ze.mpr ⟨c,h,rfl⟩;have hi:(cs.map Prod.fst).idxOf c.1<(cs.map Prod.fst).length:=List.idxOf_lt_length_of_mem hm;have e1:(cs.map Prod.fst)[(cs.map Prod.fst).idxOf c.1]?=some c.1:=by rw[zh hi,List.getElem_idxOf]
 refine{?_,e1};obtain⟨j,ej⟩:=List.getElem?_of_mem h;have ej1:(cs.map Prod.fst)[j]?=some c.1:=by rw[zp,ej];rfl
 obtain⟨b1,c1⟩:=zf.mp e1;obtain⟨b2,c2⟩:=zf.mp ej1;have:=(List.getElem_inj hg.2.1 (h₀:=b1) (h₁:=b2)).mp<|c1.trans c2.symm;unfold Mq;rw[this];exact ej
theorem iY(hg:Gd cs)(hw:Wg cs ws)(h:c∈cs):ws[Mq cs c.1]?=some (ai cs ws c.1)/\Vg c.2 (ai cs ws c.1):=by obtain⟨v,e,r⟩:=sW hw (sX hg h).1;unfold ai;rw[e];exact⟨rfl,r⟩
noncomputable def ma:D->D->Bool|.av,.av=>true|.int i,.int j=>decide (i=j)|.str i,.str j=>decide (i=j)|_,_=>false
theorem bh(ha:dh a=true)(hb:dh b=true):ma a b=true↔a=b:=by cases a<;>cases b<;>first|(cases ha;done)|(cases hb;done)|simp[ma]
theorem j6(ha:dh a=true)(hb:dh b=true)(q:R (.bl<|if neg then !ma a b else ma a b) S):HW neg a b S R:=by
 have mix:∀{a b:D},dh a=true->dh b=true->(∀p q,Dp S a p->Dp S b q->PyData.eqv p q=ma a b)->(∀i j,a=.int i->b≠.int j)->(∀i j,a=.str i->b≠.str j)->R (.bl<|if neg then !ma a b else ma a b) S->HW neg a b S R:=by intro a b ha hb h h1 h2 q;obtain⟨p,p1,p2,p3⟩:=Ly.plain (S:=S) ha;obtain⟨r,r1,r2,r3⟩:=Ly.plain (S:=S) hb;have e:=h p r p1 r1;obtain⟨p',p1',p2',p3'⟩:=Ly.dl<|Ly.plain (S:=S) ha;cases a<;>cases b<;>first|(cases ha;done)|(cases hb;done)|exact absurd rfl (h1 _ _ rfl)|exact absurd rfl (h2 _ _ rfl)|exact{p,r,p1,r1,p2,r2,.inl<|by lia,by rw[e];exact q}
 cases a with|av=>(cases b with|av=>exact mix ha hb (λp q h1 h2=>by simp only[Dp]at h1 h2;subst h1 h2;rfl) nofun nofun q|int j=>exact mix ha hb (λp q h1 h2=>by simp only[Dp]at h1 h2;subst h1 h2;rfl) nofun nofun q|str j=>exact mix ha hb (λp q h1 h2=>by simp only[Dp]at h1 h2;subst h1 h2;rfl) nofun nofun q|_=>cases hb)|int i=>(cases b with|av=>exact mix ha hb (λp q h1 h2=>by simp only[Dp]at h1 h2;subst h1 h2;rfl) nofun nofun q|int j=>exact q|str j=>exact mix ha hb (λp q h1 h2=>by simp only[Dp]at h1 h2;subst h1 h2;rfl) nofun nofun q|_=>cases hb)|str i=>(cases b with|av=>exact mix ha hb (λp q h1 h2=>by simp only[Dp]at h1 h2;subst h1 h2;rfl) nofun nofun q|int j=>exact mix ha hb (λp q h1 h2=>by simp only[Dp]at h1 h2;subst h1 h2;rfl) nofun nofun q|str j=>exact q|_=>cases hb)|_=>cases ha
noncomputable def uv:D->D->Bool|.int i,.int j=>decide (i<j)|.str i,.str j=>ph i j|_,_=>false
noncomputable def stP:D->D->Bool|.str i,.str j=>PySem.Txt.startswith i j|_,_=>false
noncomputable def Au(o:Str)(a b:D):Bool:=if o ="is" then ma a b else if ah a then false else if o ="below" then uv a b else if o ="above" then uv b a else stP a b
noncomputable def GB:D->List D|.tup ds=>ds|_=>[]
noncomputable def Vn(cs:List<|Str×Str)(r:Str×List D)(f:D->Bool):D->Bool|.tup [.str _]=>true|.tup [.str o,e]=>(if o ="not" then !f e else if o ="key" then vI (kI<|.str r.1) ((GB e).map kI) else if o ="and" then (GB e).all f else (GB e).any f)|.tup [.str o,.str z,v]=>Au o (ai cs r.2 z) v|_=>false
noncomputable def bf(cs:List<|Str×Str)(r:Str×List D):Nat->D->Bool|0,_=>false|n+1,d=>Vn cs r (bf cs r n) d
theorem Ew(cs:List<|Str×Str)(r:Str×List D)(n:Nat)(o:Str)(e:D):bf cs r (n+1) (.tup [.str o,e])=if o ="not" then !bf cs r n e else if o ="key" then vI (kI<|.str r.1) ((GB e).map kI) else if o ="and" then (GB e).all (bf cs r n) else (GB e).any (bf cs r n):=rfl
theorem NQ(cs:List<|Str×Str)(r:Str×List D)(n:Nat)(o z:Str)(v:D):bf cs r (n+1) (.tup [.str o,.str z,v])=Au o (ai cs r.2 z) v:=rfl
theorem Av(cs:List<|Str×Str)(r:Str×List D)(n:Nat)(ks:List D):bf cs r (n+1) (.tup [.str "key",.tup ks])=vI (kI<|.str r.1) (ks.map kI):=by rw[Ew,if_neg<|by trivial,if_pos rfl];rfl
theorem Aw(cs:List<|Str×Str)(r:Str×List D)(n:Nat)(e:D):bf cs r (n+1) (.tup [.str "not",e])=!bf cs r n e:=by rw[Ew,if_pos rfl]
theorem Ax(cs:List<|Str×Str)(r:Str×List D)(n:Nat)(es:List D):bf cs r (n+1) (.tup [.str "and",.tup es])=es.all (bf cs r n):=by rw[Ew,if_neg<|by trivial,if_neg<|by trivial,if_pos rfl];rfl
theorem Ex(cs:List<|Str×Str)(r:Str×List D)(n:Nat)(es:List D):bf cs r (n+1) (.tup [.str "or",.tup es])=es.any (bf cs r n):=by rw[Ew,if_neg<|by trivial,if_neg<|by trivial,if_neg<|by trivial];rfl
theorem j7{k:Str}(ha:Vg k a)(hb:Vg k b)(na:a≠.av)(nb:b≠.av):(∃i j,a=.int i/\b=.int j)\/∃i j,a=.str i/\b=.str j:=by obtain⟨a1,a2⟩:=ha;obtain⟨b1,b2⟩:=hb;cases a with|av=>exact absurd rfl na|int i=>(cases b with|av=>exact absurd rfl nb|int j=>exact .inl ⟨i,j,rfl,rfl⟩|str j=>(exfalso;unfold jR at a1 b1;simp only[ah,yO]at a1 b1;by_cases e:k ="number";rw[if_pos e]at b1;cases b1;rw[if_neg e]at a1;cases a1)|_=>cases b2)|str i=>(cases b with|av=>exact absurd rfl nb|str j=>exact .inr ⟨i,j,rfl,rfl⟩|int j=>(exfalso;unfold jR at a1 b1;simp only[ah,yO]at a1 b1;by_cases e:k ="number";rw[if_pos e]at a1;cases a1;rw[if_neg e]at b1;cases b1)|_=>cases b2)|_=>cases a2
theorem qR(h:Vg "word" a)(n:a≠.av):∃z,a=.str z:=by obtain⟨h1,h2⟩:=h;cases a with|av=>exact absurd rfl n|str z=>exact⟨z,rfl⟩|int i=>(unfold jR at h1;rw[if_neg<|by trivial]at h1;cases h1)|_=>cases h2
theorem bt(h:ah a=false):a≠.av:=by rintro rfl;cases h
inductive me (ds:List D) (S:ay) (R:KD) (Z:KX):Prop where
 |mk (cs r c) (h0:ds=[.tup<|cs.map aw,aj r,.str c.1]) (h1:Gd cs) (h2:Wg cs r.2) (h3:c∈cs) (h4:R (ai cs r.2 c.1) S):me ds S R Z
theorem dr(T:Txt w K mg t):Ok P w base T.cz 2 me:=by
 refine T.cz.F.ck Ae ?_;rintro _ _ _ _ _ _ _ S R Z hr ⟨cs,r,c,e,hg,hw,hc,q⟩;subst e;obtain⟨n1,n2⟩:=sX hg hc;refine{_,(s1<|sr<|ix hr.u (ix hr.u (dv 1) di)<|bm zR PySem.F.slot_list_index PySem.F.type_list_index HZ (aJ T.mU (pL T) hr<|ac (dv 0) an)<|ac (dv 2) an),?_};refine !!!{cs,rfl,hg.1,λp hp=>?_};refine{{rfl,_,aa},_,rfl,(cs.map Prod.fst).map D.str,.str c.1,Mq cs c.1,rfl,aa,rfl,?_,{.str c.1,by rw[zp,n2];rfl,by show(c.1==c.1)=true;simp},?_,?_};rw[List.all_map];exact yc.mpr λ_ _=>rfl;intro m u hm hu;rw[zp]at hu;cases e:(cs.map Prod.fst)[m]? with|none=>(rw[e]at hu;cases hu)|some z'=>rw[e]at hu;cases hu;show(z'==c.1)=false;have:z'≠c.1:=λq=>(by subst q;obtain⟨b1,c1⟩:=zf.mp e;obtain⟨b2,c2⟩:=zf.mp n2;have:=(List.getElem_inj hg.2.1 (h₀:=b1) (h₁:=b2)).mp<|c1.trans c2.symm;lia);simpa using this
 exact{_,d_ (iY hg hw hc).1,S,.new hp,q}
inductive fL (ds:List D) (S:ay) (R:KD) (Z:KX):Prop where
 |mk (o a b c) (h0:ds=[.str o,a,b]) (h1:Vg c.2 a) (h2:Vg c.2 b) (h3:CY o c b) (h4:R (.bl<|Au o a b) S):fL ds S R Z
theorem qp(T:Txt w K mg t):Ok P w base T.iQ 1 fL:=by
 refine T.iQ.F.ck qk ?_;rintro _ _ _ _ _ _ _ S R Z hr ⟨o,a,b,c,e,ha,hb,ho,q⟩;subst e;refine{_,(sc (si (bp aL hr.u (dv 0) ds) (s1<|sr<|cm aL hr.u (dv 1)<|dv 2) s0)<|sc (si (bp fP hr.u (dv 1) dn) (s1<|sr db) s0)<|sc (si (bp aL hr.u (dv 0) ds) (s1<|sr<|cm mF hr.u (dv 1)<|dv 2) s0)<|sc (si (bp aL hr.u (dv 0) ds) (s1<|sr<|cm n_ hr.u (dv 1)<|dv 2) s0)<|s1<|sr<|bm PySem.F.plainAttrs_str PySem.F.slot_str_startswith PySem.F.type_str_startswith H9 (dv 1)<|ac (dv 2) an),?_};unfold Au at q;rcases ho with rfl|⟨nb,ho⟩;rw[if_pos rfl]at q;exact !!⟨kQ (by trivial) !!⟨j6 ha.2 hb.2<|fo q⟩⟩;have ne:∀{A B:Bool},o≠"is"->R (.bl<|if o ="is" then A else B) S->R (.bl B) S:=λh q=>by rw[if_neg h]at q;exact q
 rcases ho with rfl|rfl|⟨rfl,hk⟩;rw[if_neg<|by trivial]at q;refine !!⟨aV (by trivial) !!⟨bB (λh=>?_) λh=>?_⟩⟩;rw[if_pos h]at q;exact fo q;rw[if_neg<|by rw[show ah a=false from h];exact zd,if_pos rfl]at q;refine !!⟨kQ (by trivial) !!⟨?_⟩⟩;rcases j7 ha hb (bt h) nb with⟨i,j,rfl,rfl⟩|⟨i,j,rfl,rfl⟩<;>exact fo q;rw[if_neg<|by trivial]at q;refine !!⟨aV (by trivial) !!⟨bB (λh=>?_) λh=>?_⟩⟩;rw[if_pos h]at q;exact fo q;rw[if_neg<|by rw[show ah a=false from h];exact zd,if_neg<|by trivial,if_pos rfl]at q;refine !!⟨aV (by trivial) !!⟨kQ (by trivial) !!⟨?_⟩⟩⟩;rcases j7 ha hb (bt h) nb with⟨i,j,rfl,rfl⟩|⟨i,j,rfl,rfl⟩<;>exact fo q;rw[if_neg<|by trivial]at q;refine !!⟨aV (by trivial) !!⟨bB (λh=>?_) λh=>?_⟩⟩;rw[if_pos h]at q;exact fo q;rw[if_neg<|by rw[show ah a=false from h];exact zd,if_neg<|by trivial,if_neg<|by trivial]at q;refine !!⟨aV (by trivial) !!⟨aV (by trivial) ?_⟩⟩;rw[hk]at ha hb;obtain⟨i,rfl⟩:=qR ha<|bt h;obtain⟨j,rfl⟩:=qR hb nb;exact !{rfl,_,rfl,i,j,rfl,rfl,fo q}
def Jq(n:Nat):iJ:=λds S R _=>∃cs d r,ds=[.tup<|cs.map aw,d,aj r]/\Gd cs/\Sg cs n d/\Wg cs r.2/\R (.bl<|bf cs r n d) S
theorem kE(T:Txt w K mg t):∀n,Ok P w base T.passes (3+n) (Jq n)
 |0=>by refine T.passes.F.ok (k:=2) u_ (by rintro ds S R Z ⟨_,_,_,e,_⟩;exact by rw[e];rfl) (by rintro eP A outer s H E ds S R Z hr ⟨cs,d,r,e,hg,hs,_⟩;exact hs.elim)
 |n+1=>by
  refine T.passes.F.ok (k:=3+n) u_ (by rintro ds S R Z ⟨_,_,_,e,_⟩;rw[e];rfl) ?_;rintro _ _ _ _ _ _ _ S R Z hr ⟨cs,d,r,e,hg,hs,hw,q⟩;subst e;refine{_,(sc (si (bp aL hr.u (ix hr.u (dv 1) di) ds) (s1<|sr db) s0)<|sc (si (bp aL hr.u (ix hr.u (dv 1) di) ds) (s1<|sr<|cm xS hr.u (ix hr.u (dv 2) di)<|ix hr.u (dv 1) di) s0)<|sc (si (bp aL hr.u (ix hr.u (dv 1) di) ds) (s1<|sr<|PC<|aJ T.passes (kE T n) hr<|ac (dv 0)<|ac (ix hr.u (dv 1) di)<|ac (dv 2) an) s0)<|sc (si (bp aL hr.u (ix hr.u (dv 1) di) ds) (s1<|sr<|cb k7 T.k_ gB<|ac (p_ (N:=["inner","columns","row"]) (src:=[none,some 0,some 2]) (i6 (ae yW) ["columns","sieve","row"] rfl rfl<|by trivial) (FP<|ix hr.u (dv 1) di) (mm<|show(["inner","columns","row"]:List Str).Nodup by trivial) (aO rfl) aP (λ_ _ _ _ _=>px) λ_ _ _ _ _=>(aJ T.passes (kE T n) hr<|ac (dv 1)<|ac (dv 0)<|ac (dv 2) an)) an) s0)<|sc (si (bp aL hr.u (ix hr.u (dv 1) di) ds) (s1<|sr<|cb Ug T.Vb Pk<|ac (p_ (N:=["inner","columns","row"]) (src:=[none,some 0,some 2]) (i6 (ae yW) ["columns","sieve","row"] rfl rfl<|by trivial) (FP<|ix hr.u (dv 1) di) (mm<|show(["inner","columns","row"]:List Str).Nodup by trivial) (aO rfl) aP (λ_ _ _ _ _=>px) λ_ _ _ _ _=>(aJ T.passes (kE T n) hr<|ac (dv 1)<|ac (dv 0)<|ac (dv 2) an)) an) s0)<|s1<|sr<|aJ T.iQ (qp T) hr<|ac (ix hr.u (dv 1) di)<|ac (aJ T.cz (dr T) hr<|ac (dv 0)<|ac (dv 2)<|ac (ix hr.u (dv 1) di) an)<|ac (ix hr.u (dv 1) di) an),?_};rcases hs with (rfl|⟨ks,rfl,Z7,A9⟩|⟨o,c,v,hc,hv,ho,rfl⟩)|⟨e,rfl,he⟩|⟨o,es,ho,rfl,NP,Ro⟩;exact !!!⟨kQ (by trivial)<|fo q⟩;refine !!!⟨aV (by trivial) !!!⟨kQ (by trivial) ?_⟩⟩;refine !!!!{rfl,?_,?_};rw[List.all_map];exact yc.mpr λ_ _=>rfl;rw[Av]at q;exact fo q;rw[NQ]at q;have fin:∀Zq,fL [D.str o,ai cs r.2 c.1,v] S (λd S'=>Fo S'<|R d) Zq:=λ_=>{o,_,v,c,rfl,(iY hg hw hc).2,hv,ho,fo q};have h4:o ="is"\/o ="below"\/o ="above"\/o ="begins":=by rcases ho with h|⟨_,h|h|⟨h,_⟩⟩;exact .inl h;exact .inr<|.inl h;exact .inr<|.inr<|.inl h;exact .inr<|.inr<|.inr h
  rcases h4 with rfl|rfl|rfl|rfl;exact !!!⟨aV (by trivial) !!!⟨aV (by trivial) !!!⟨aV (by trivial) !!!⟨aV (by trivial) !!!⟨aV (by trivial) !!!!!!{cs,r,c,rfl,hg,hw,hc,_,rfl,_,rfl,fin _}⟩⟩⟩⟩⟩;exact !!!⟨aV (by trivial) !!!⟨aV (by trivial) !!!⟨aV (by trivial) !!!⟨aV (by trivial) !!!⟨aV (by trivial) !!!!!!{cs,r,c,rfl,hg,hw,hc,_,rfl,_,rfl,fin _}⟩⟩⟩⟩⟩;exact !!!⟨aV (by trivial) !!!⟨aV (by trivial) !!!⟨aV (by trivial) !!!⟨aV (by trivial) !!!⟨aV (by trivial) !!!!!!{cs,r,c,rfl,hg,hw,hc,_,rfl,_,rfl,fin _}⟩⟩⟩⟩⟩;exact !!!⟨aV (by trivial) !!!⟨aV (by trivial) !!!⟨aV (by trivial) !!!⟨aV (by trivial) !!!⟨aV (by trivial) !!!!!!{cs,r,c,rfl,hg,hw,hc,_,rfl,_,rfl,fin _}⟩⟩⟩⟩⟩;rw[Aw]at q;exact !!!⟨aV (by trivial) !!!⟨aV (by trivial) !!!⟨kQ (by trivial) !!!!{cs,e,r,rfl,hg,he,hw,_,rfl,fo q}⟩⟩⟩;have hz:es.length<=1000:=by lia
  rcases ho with rfl|rfl;rw[Ax]at q;refine !!!⟨aV (by trivial) !!!⟨aV (by trivial) !!!⟨aV (by trivial) !!!⟨kQ (by trivial) !!{_,.inl rfl,?_}⟩⟩⟩⟩;refine comp_map (λd=>.bl<|bf cs r n d) trivial hz (λd hd Q hQ=>!!!{cs,d,r,rfl,hg,Ro d hd,hw,hQ}) λp hp=>?_;refine{.ref p,es.map<|bf cs r n,rfl,?_,S,.new hp,?_};show(S.set p<|.lst<|es.map _) p=_;rw[aa,zt];rfl;rw[all_map];exact q;rw[Ex]at q;refine !!!⟨aV (by trivial) !!!⟨aV (by trivial) !!!⟨aV (by trivial) !!!⟨aV (by trivial) !!!⟨kQ (by trivial) !!{_,.inl rfl,?_}⟩⟩⟩⟩⟩;refine comp_map (λd=>.bl<|bf cs r n d) trivial hz (λd hd Q hQ=>!!!{cs,d,r,rfl,hg,Ro d hd,hw,hQ}) λp hp=>?_;refine{.ref p,es.map<|bf cs r n,rfl,?_,S,.new hp,?_};show(S.set p<|.lst<|es.map _) p=_;rw[aa,zt];rfl;rw[List.any_map];exact q
abbrev Row:=Str×List D
abbrev Part:=Str×Str×Str
theorem QF{a b:Str}(h:a.cps.toList=b.cps.toList):a=b:=by obtain⟨x⟩:=a;obtain⟨y⟩:=b;exact congrArg Str.mk<|Array.ext' h
theorem Ey(a:Str):ph a a=false:=zu<|List.lt_irrefl _
theorem kG{a b:Str}(h:a≠b):ph b a=!ph a b:=by unfold ph;rw[yw];simp only[decide_eq_true_iff,Bool.not_eq_true',decide_eq_false_iff_not];constructor;exact λh1 h2=>List.lt_irrefl _<|List.lt_trans h1 h2;intro h1;by_cases h2:b.cps.toList<a.cps.toList;exact h2;exact absurd (QF<|List.le_antisymm (List.not_lt.mp h2)<|List.not_lt.mp h1) h
theorem CZ(h1:ph a b=true)(h2:ph b c=true):ph a c=true:=zw<|List.lt_trans (zB h1)<|zB h2
theorem Ez(a:D):uv a a=false:=by cases a<;>first|rfl|exact Ey _|exact zu (Int.lt_irrefl _)
theorem nA(ha:Vg k a)(hb:Vg k b)(na:a≠.av)(nb:b≠.av)(h:a≠b):uv b a=!uv a b:=by rcases j7 ha hb na nb with⟨i,j,rfl,rfl⟩|⟨i,j,rfl,rfl⟩;have lO:i≠j:=λe=>h<|congrArg D.int e;show decide (j<i)=!decide (i<j);rw[yw];simp only[decide_eq_true_iff,Bool.not_eq_true',decide_eq_false_iff_not];lia;exact kG λe=>h<|congrArg D.str e
theorem Jr(h1:uv a b=true)(h2:uv b c=true):uv a c=true:=by cases a with|int i=>(cases b with|int j=>(cases c with|int l=>have h1:i<j:=zB h1;have h2:j<l:=zB h2;exact zw (by lia)|_=>cases h2)|_=>cases h1)|str i=>(cases b with|str j=>(cases c with|str l=>exact CZ h1 h2|_=>cases h2)|_=>cases h1)|_=>cases h1
theorem Js(h:UP a b):uv a b=true:=by cases a with|int i=>(cases b with|int j=>exact zw h|_=>exact h.elim)|str i=>(cases b with|str j=>exact zw h|_=>exact h.elim)|_=>exact h.elim
noncomputable def cj(p:Part)(x y:D):Bool:=if (ah x != ah y)=true then ah x==decide (p.2.2 ="first") else uv x y==decide (p.2.1 ="up")
noncomputable def a_(cs:List<|Str×Str)(wy:Str):List Part->Row->Row->Bool|[],a,b=>ph a.1 b.1==decide (wy ="up")|p::ps,a,b=>if ma (ai cs a.2 p.1) (ai cs b.2 p.1)=true then a_ cs wy ps a b else cj p (ai cs a.2 p.1) (ai cs b.2 p.1)
theorem bxor:((!x)==u)=!(x==u):=by cases x<;>cases u<;>rfl
theorem cD(h:ah x=true):x=.av:=by cases x<;>first|rfl|cases h
theorem vm(hx:Vg k x)(hy:Vg k y)(h:x≠y):cj p y x=!cj p x y:=by unfold cj;cases nx:ah x with|true=>(cases ny:ah y with|true=>exact absurd ((cD nx).trans (cD ny).symm) h|false=>rw[if_pos<|by rfl,if_pos<|by rfl];cases decide (p.2.2 ="first")<;>rfl)|false=>cases ny:ah y with|true=>(rw[if_pos<|by rfl,if_pos<|by rfl];cases decide (p.2.2 ="first")<;>rfl)|false=>rw[if_neg<|by simp,if_neg<|by simp,nA hx hy (bt nx) (bt ny) h,bxor]
theorem EA(hx:Vg k x)(hy:Vg k y)(hz:Vg k z)(Z8:x≠y)(hyz:y≠z)(h1:cj p x y=true)(h2:cj p y z=true):x≠z/\cj p x z=true:=by
 have Z9:x≠z:=by rintro rfl;have:=vm (p:=p) hx hy Z8;rw[h1,h2]at this;cases this
 refine{Z9,?_};unfold cj at h1 h2⊢;cases nx:ah x with|true=>(cases ny:ah y with|true=>exact absurd ((cD nx).trans (cD ny).symm) Z8|false=>rw[nx,ny,if_pos<|by rfl]at h1;cases nz:ah z with|true=>exact absurd ((cD nx).trans (cD nz).symm) Z9|false=>rw[if_pos<|by rfl];exact h1)|false=>cases ny:ah y with|true=>(rw[nx,ny,if_pos<|by rfl]at h1;cases nz:ah z with|true=>exact absurd ((cD ny).trans (cD nz).symm) hyz|false=>rw[ny,nz,if_pos<|by rfl]at h2;cases e:decide (p.2.2 ="first")<;>rw[e]at h1 h2<;>first|cases h1;done|cases h2;done)|false=>rw[nx,ny,if_neg<|by simp]at h1;cases nz:ah z with|true=>rw[ny,nz,if_pos<|by rfl]at h2;rw[if_pos<|by rfl];exact h2|false=>rw[ny,nz,if_neg<|by simp]at h2;rw[if_neg<|by simp];cases e:decide (p.2.1 ="up") with|true=>rw[e]at h1 h2;rw[Jr (a:=x) (b:=y) (c:=z) (by simpa using h1)<|by simpa using h2];rfl|false=>rw[e]at h1 h2;have h1:uv x y=false:=(by simpa using h1);have h2:uv y z=false:=(by simpa using h2);have a1:=nA hx hy (bt nx) (bt ny) Z8;have a2:=nA hy hz (bt ny) (bt nz) hyz;rw[h1]at a1;rw[h2]at a2;have a3:=Jr a2 a1;have a4:=nA hx hz (bt nx) (bt nz) Z9;rw[a3]at a4;cases q:uv x z with|true=>(rw[q]at a4;cases a4)|false=>rfl
def Pin(cs:List<|Str×Str)(ps:List Part):Prop:=∀p∈ps,∃c∈cs,c.1=p.1
section
variable{cs:List (Str×Str)}{wy:Str}
theorem Pin.tail(h:Pin cs<|p::ps):Pin cs ps:=λq hq=>h q<|zg _ hq
theorem qS(hg:Gd cs)(h:Pin cs<|p::ps):∃k,∀ws,Wg cs ws->Vg k (ai cs ws p.1):=by obtain⟨c,hc,e⟩:=h p zr;rw[<-e];exact{c.2,λws hw=>(iY hg hw hc).2}
theorem sY(hg:Gd cs):∀{ps:List Part}{a b:Row},Pin cs ps->Wg cs a.2->Wg cs b.2->a.1≠b.1->a_ cs wy ps b a=!a_ cs wy ps a b|[],a,b,_,_,_,h=>by show(ph b.1 a.1==_)=!(ph a.1 b.1==_);rw[kG h,bxor]|p::ps,a,b,hp,ha,hb,h=>by obtain⟨k,hk⟩:=qS hg hp;have va:=hk _ ha;have vb:=hk _ hb;unfold a_;by_cases e:ai cs a.2 p.1=ai cs b.2 p.1;rw[if_pos<|(bh vb.2 va.2).mpr e.symm,if_pos<|(bh va.2 vb.2).mpr e];exact sY hg hp.tail ha hb h;rw[if_neg λq=>e ((bh vb.2 va.2).mp q).symm,if_neg λq=>e<|(bh va.2 vb.2).mp q];exact vm va vb e
theorem Jt(hg:Gd cs):∀{ps:List Part}{a b c:Row},Pin cs ps->Wg cs a.2->Wg cs b.2->Wg cs c.2->a.1≠b.1->b.1≠c.1->a.1≠c.1->a_ cs wy ps a b=true->a_ cs wy ps b c=true->a_ cs wy ps a c=true|[],a,b,c,_,_,_,_,h1,h2,h3,q1,q2=>(by have q1:(ph a.1 b.1==decide (wy ="up"))=true:=q1;have q2:(ph b.1 c.1==decide (wy ="up"))=true:=q2;show(ph a.1 c.1==decide (wy ="up"))=true;cases e:decide (wy ="up") with|true=>rw[e]at q1 q2;rw[CZ (b:=b.1) (by simpa using q1)<|by simpa using q2];rfl|false=>rw[e]at q1 q2;have q1:ph a.1 b.1=false:=(by simpa using q1);have q2:ph b.1 c.1=false:=(by simpa using q2);have a1:=kG h1;have a2:=kG h2;rw[q1]at a1;rw[q2]at a2;have a3:=CZ a2 a1;have a4:=kG h3;rw[a3]at a4;cases q:ph a.1 c.1 with|true=>(rw[q]at a4;cases a4)|false=>rfl)|p::ps,a,b,c,hp,ha,hb,hc,h1,h2,h3,q1,q2=>by obtain⟨k,hk⟩:=qS hg hp;have va:=hk _ ha;have vb:=hk _ hb;have vc:=hk _ hc;unfold a_ at q1 q2⊢;by_cases e1:ai cs a.2 p.1=ai cs b.2 p.1;rw[if_pos<|(bh va.2 vb.2).mpr e1]at q1;by_cases e2:ai cs b.2 p.1=ai cs c.2 p.1;rw[if_pos<|(bh vb.2 vc.2).mpr e2]at q2;rw[if_pos<|(bh va.2 vc.2).mpr<|e1.trans e2];exact Jt hg hp.tail ha hb hc h1 h2 h3 q1 q2;rw[if_neg λq=>e2<|(bh vb.2 vc.2).mp q]at q2;rw[e1,if_neg λq=>e2<|(bh vb.2 vc.2).mp q];exact q2;rw[if_neg λq=>e1<|(bh va.2 vb.2).mp q]at q1;by_cases e2:ai cs b.2 p.1=ai cs c.2 p.1;rw[<-e2,if_neg λq=>e1<|(bh va.2 vb.2).mp q];exact q1;rw[if_neg λq=>e2<|(bh vb.2 vc.2).mp q]at q2;obtain⟨e3,q3⟩:=EA va vb vc e1 e2 q1 q2;rw[if_neg λq=>e3<|(bh va.2 vc.2).mp q];exact q3
def Rg(cs:List<|Str×Str)(rs:List Row):Prop:=(∀r∈rs,Wg cs r.2)/\(rs.map Prod.fst).Nodup
theorem Rg.perm(h:Rg cs rs)(p:cM.Perm rs):Rg cs cM:={λr hr=>h.1 r<|p.mem_iff.mp hr,(p.map _).nodup_iff.mpr h.2}
theorem Rg.sub(h:Rg cs rs)(p:cM.Sublist rs):Rg cs cM:={λr hr=>h.1 r<|p.subset hr,h.2.sublist<|p.map _}
theorem Mr(hg:Gd cs)(hp:Pin cs ps)(hr:Rg cs m)(hl:l.Pairwise λa b=>a_ cs wy ps a b=true)(hm:m.Pairwise λa b=>a_ cs wy ps a b=true)(pm:l.Perm m):l=m:=by refine List.Perm.eq_of_pairwise (le:=λa b=>a_ cs wy ps a b=true) (λa b ha hb h1 h2=>?_) hl hm pm;have ha:=pm.mem_iff.mp ha;by_cases e:a.1=b.1;exact gq (f:=Prod.fst) hr.2 ha hb e;have:=sY (wy:=wy) hg hp (hr.1 a ha) (hr.1 b hb) e;rw[h1,h2]at this;cases this
end
theorem C3{l m:List Nat}(hl:l.Nodup)(hm:m.Nodup)(h:∀x,x∈l↔x∈m):l.Perm m:=by induction l generalizing m with|nil=>(cases m with|nil=>exact .nil|cons y m=>exact absurd ((h y).mpr zr)<|by simp)|cons x l ih=>obtain⟨n1,n2⟩:=yk.mp hl;have hx:=(h x).mp zr;refine .trans ((ih n2 (hm.erase x) λy=>?_).cons x) (List.perm_cons_erase hx).symm;rw[hm.mem_erase_iff];constructor;intro hy;exact{λe=>n1<|e ▸ hy,(h y).mp<|zg _ hy};rintro⟨h1,h2⟩;rcases zj.mp ((h y).mpr h2) with e|e;exact absurd e h1;exact e
theorem map_range(d:α)(xs:List α):(List.range xs.length).map (λk=>xs.getD k d)=xs:=by refine List.ext_getElem (by simp) λi h1 h2=>?_;simp[zh h2]
theorem GC{α:Type}(d:α){xs:List α}{g:Nat->Nat}(lt:∀k,k<xs.length->g k<xs.length)(inj:∀i j,i<xs.length->j<xs.length->g i=g j->i=j):((List.range xs.length).map λk=>xs.getD (g k) d).Perm xs:=by
 have nd:((List.range xs.length).map g).Nodup:=by refine List.pairwise_map.mpr<|List.nodup_range.imp_of_mem λ{a b} ha hb n e=>n<|inj a b (zQ.mp ha) (zQ.mp hb) e
 have sub:∀x∈(List.range xs.length).map g,x∈List.range xs.length:=λx hx=>by obtain⟨k,hk,rfl⟩:=ze.mp hx;exact zQ.mpr<|lt k<|zQ.mp hk
 have p:((List.range xs.length).map g).Perm (List.range xs.length):=C3 nd List.nodup_range λx=>by refine{sub x,λhx=>?_};by_cases h:x∈(List.range xs.length).map g;exact h;exfalso;have:=sub_len nd (m:=(List.range xs.length).erase x) λy hy=>(List.Nodup.mem_erase_iff List.nodup_range).mpr {λe=>h<|e ▸ hy,sub y hy};rw[zb,List.length_erase_of_mem hx,List.length_range]at this;have:=zQ.mp hx;lia
 have e:((List.range xs.length).map λk=>xs.getD (g k) d)=((List.range xs.length).map g).map λk=>xs.getD k d:=by rw[zt];rfl
 rw[e];have:=p.map λk=>xs.getD k d;rw[map_range]at this;exact this
theorem GF{α:Type}(d:α){xs:List α}{g:Nat->Nat}{r:α->α->Prop}(h:∀i j,i<j->j<xs.length->r (xs.getD (g i) d) (xs.getD (g j) d)):((List.range xs.length).map λk=>xs.getD (g k) d).Pairwise r:=by rw[List.pairwise_map,List.pairwise_iff_getElem];intro i j hi hj lO;rw[List.length_range]at hj;rw[List.getElem_range,List.getElem_range];exact h i j lO hj
noncomputable def r0:Row:=("",[])
theorem getD_map{rs:List Row}{j:Nat}(h:j<rs.length):(rs.map aj).getD j .av=aj (rs.getD j r0):=by rw[zD,zD,zp,zh h];rfl
theorem getD_mem{rs:List Row}{j:Nat}(h:j<rs.length):rs.getD j r0∈rs:=by rw[zD,zh h];exact List.getElem_mem h
theorem nB{rs:List Row}{b:Bool}{f:D->D}{g:Nat->Nat}(h:P_ b (λj=>f<|(rs.map aj).getD j .av) (rs.map aj).length g): ∃cM:List Row,(List.range (rs.map aj).length).map (λk=>(rs.map aj).getD (g k) .av)=cM.map aj/\cM.Perm rs/\∀q r:Row->Row->Prop,rs.Pairwise q->(∀x y,x∈rs->y∈rs->(if b=true then UP (f<|aj y) (f<|aj x) else UP (f<|aj x) (f<|aj y))->r x y)->(∀x y,x∈rs->y∈rs->f (aj x)=f (aj y)->q x y->r x y)->cM.Pairwise r:=by have hn:(rs.map aj).length=rs.length:=zb _;rw[hn]at h⊢;refine{(List.range rs.length).map λk=>rs.getD (g k) r0,?_,GC r0 h.lt h.inj,λq r hq h1 h2=>GF r0 λi j lO hj=>?_};rw[zt];exact z0 λk hk=>getD_map<|h.lt k<|zQ.mp hk;have gi:=h.lt i<|Nat.lt_trans lO hj;have gj:=h.lt j hj;have o:=h.ord i j lO hj;rw[getD_map gi,getD_map gj]at o;rcases o with o|⟨o,l⟩;exact h1 _ _ (getD_mem gi) (getD_mem gj) o;refine h2 _ _ (getD_mem gi) (getD_mem gj) o ?_;have:=List.pairwise_iff_getElem.mp hq (g i) (g j) gi gj l;rw[zD,zD,zh gi,zh gj];exact this
section
variable{cs:List (Str×Str)}{wy:Str}
noncomputable def valued(cs:List<|Str×Str)(p:Part)(r:Row):Bool:=!ah (ai cs r.2 p.1)
theorem Ms(h1:ah x=true)(h2:ah y=true):ma x y=true:=by rw[cD h1,cD h2];rfl
theorem oM(h:ah x≠ah y):ma x y=false:=by cases x<;>cases y<;>first|rfl|exact absurd rfl h
theorem GG{ps:List Part}{p:Part}{L V:List Row}(hL:L.Pairwise λa b=>a_ cs wy ps a b=true)(hV:V.Perm<|L.filter<|valued cs p)(WV:V.Pairwise λa b=>a_ cs wy (p::ps) a b=true): (if p.2.2 ="first" then L.filter (λr=>!valued cs p r)++V else V++L.filter (λr=>!valued cs p r)).Perm L/\(if p.2.2 ="first" then L.filter (λr=>!valued cs p r)++V else V++L.filter (λr=>!valued cs p r)).Pairwise λa b=>a_ cs wy (p::ps) a b=true:=by
 have hN:(L.filter λr=>!valued cs p r).Pairwise λa b=>a_ cs wy (p::ps) a b=true:=by refine(hL.sublist yq).imp_of_mem λ{a b} ha hb h=>?_;have ha:=(yn.mp ha).2;have hb:=(yn.mp hb).2;unfold valued at ha hb;rw[Bool.not_not]at ha hb;show(if ma (ai cs a.2 p.1) (ai cs b.2 p.1)=true then a_ cs wy ps a b else _)=true;rw[if_pos<|Ms ha hb];exact h
 have NR:∀a∈L.filter (λr=>!valued cs p r),∀b∈V,ah (ai cs a.2 p.1)=true/\ah (ai cs b.2 p.1)=false:=λa ha b hb=>by have ha:=(yn.mp ha).2;have hb:=(yn.mp<|hV.mem_iff.mp hb).2;unfold valued at ha hb;rw[Bool.not_not]at ha;exact{ha,by simpa using hb}
 have pm:(L.filter (λr=>!valued cs p r)++V).Perm L:=(List.Perm.append_left _ hV).trans<|List.perm_append_comm.trans<|List.filter_append_perm (valued cs p) L;by_cases e:p.2.2 ="first";rw[if_pos e];refine{pm,List.pairwise_append.mpr {hN,WV,λa ha b hb=>?_}};obtain⟨na,nb⟩:=NR a ha b hb;show(if ma (ai cs a.2 p.1) (ai cs b.2 p.1)=true then a_ cs wy ps a b else cj p (ai cs a.2 p.1) (ai cs b.2 p.1))=true;rw[oM<|by rw[na,nb];nofun,if_neg zd];unfold cj;rw[na,nb,if_pos<|by rfl,zw e];rfl;rw[if_neg e];refine{List.perm_append_comm.trans pm,List.pairwise_append.mpr {WV,hN,λa ha b hb=>?_}};obtain⟨na,nb⟩:=NR b hb a ha;show(if ma (ai cs a.2 p.1) (ai cs b.2 p.1)=true then a_ cs wy ps a b else cj p (ai cs a.2 p.1) (ai cs b.2 p.1))=true;rw[oM<|by rw[na,nb];nofun,if_neg zd];unfold cj;rw[na,nb,if_pos<|by rfl,zu e];rfl
theorem Ay(hg:Gd cs)(hp:Pin cs ps):∀{F:List Row},Rg cs (x::F)->(F.Pairwise λa b=>a_ cs wy ps a b=true)->(F.take (F.filter λy=>a_ cs wy ps y x).length++x::F.drop (F.filter λy=>a_ cs wy ps y x).length).Pairwise λa b=>a_ cs wy ps a b=true|[],_,_=>by simp|y::F,hr,h=>by obtain⟨h1,h2⟩:=List.pairwise_cons.mp h;have nd:=hr.2;rw[zy,zy]at nd;obtain⟨n1,n2⟩:=yk.mp nd;obtain⟨n3,n4⟩:=yk.mp n2;have nxy:y.1≠x.1:=λe=>n1 (by rw[<-e];exact zr);have wx:=hr.1 x zr;have wy':=hr.1 y<|zg _ zr;cases e:a_ cs wy ps y x with|true=>(rw[yp,if_pos e,zN,List.take_succ_cons,List.drop_succ_cons,List.cons_append,List.pairwise_cons];have nQ:Rg cs (x::F):=hr.sub<|(List.sublist_cons_self y F).cons₂ x;refine{λz hz=>?_,Ay hg hp nQ h2};rcases zM.mp hz with hz|hz;exact h1 z<|List.mem_of_mem_take hz;rcases zj.mp hz with rfl|hz;exact e;exact h1 z<|List.mem_of_mem_drop hz)|false=>have none:∀z∈y::F,a_ cs wy ps z x=false:=λz hz=>(by rcases zj.mp hz with rfl|hz;exact e;cases q:a_ cs wy ps z x with|false=>rfl|true=>have nyz:y.1≠z.1:=λe=>n3 (by rw[e];exact ze.mpr ⟨z,hz,rfl⟩);have Z_:z.1≠x.1:=λe=>n1 (by rw[<-e];exact zg _<|ze.mpr ⟨z,hz,rfl⟩);have wz:=hr.1 z<|zg _<|zg _ hz;rw[Jt hg hp wy' wz wx nyz Z_ nxy (h1 z hz) q]at e;cases e);have e0:(y::F).filter (λy=>a_ cs wy ps y x)=[]:=List.filter_eq_nil_iff.mpr λz hz=>(by rw[none z hz];exact zd);rw[e0];show(x::y::F).Pairwise _;refine List.pairwise_cons.mpr {λz hz=>?_,h};have Z_:z.1≠x.1:=λe=>n1 (by rw[<-e];exact ze.mpr ⟨z,hz,rfl⟩);rw[sY hg hp (hr.1 z<|zg _ hz) wx Z_,none z hz];rfl
theorem Ju(x:α)(F:List α)(m:Nat):(F.take m++x::F.drop m).Perm (F++[x]):=by refine(List.perm_middle).trans<|List.Perm.trans ?_ List.perm_append_comm;rw[List.take_append_drop];exact .refl _
end
noncomputable abbrev qK:Str:="sorted_by_keys.<locals>.<lambda>"
noncomputable abbrev qV:Str:="sorted_by_values.<locals>.<lambda>"
noncomputable def QG:D->D|.tup (x::_)=>x|_=>.av
noncomputable def C4(cs:List<|Str×Str)(z:Str):D->D|.tup [_,.tup ws]=>ai cs ws z|_=>.av
inductive Jv (t:hW) (ds:List D) (S:ay) (R:KD) (Z:KX):Prop where
 |mk (cs:List<|Str×Str) (l:Addr) (rs:List Row) (wy:Str) (h0:ds=[.ref l,.str wy]) (h1:l_ wy=true) (h2:S l=some (.lst<|rs.map aj)) (h3:rs.length<64) (h4:Rg cs rs) (h5:S t.aU=some (.tab qK)) (h6:∀(cM:List Row)(p:Addr),cM.Perm rs->(cM.Pairwise λa b=>a_ cs wy [] a b=true)->S p=none->R (.ref p) (S.set p<|.lst<|cM.map aj)):Jv t ds S R Z
theorem eB{S S2:ay}{p:Addr}{c:Ce}(h:Sub S S2):Sub (S.set p c) (S2.set p c):=λb e hb=>by by_cases q:b=p;subst q;rw[aa]at hb⊢;exact hb;rw[ag q]at hb⊢;exact h b e hb
theorem cB{S S2:ay}{p:Addr}(h:Sub S S2)(e:S2 p=none):S p=none:=by cases q:S p with|none=>rfl|some c=>rw[h p c q]at e;cases e
theorem w9{z:Str}(h:l_ z=true):z ="up"\/z ="down":=by unfold l_ at h;simpa using h
theorem Rg.unlike(h:Rg cs rs):rs.Pairwise λa b=>a.1≠b.1:=List.pairwise_map.mp h.2
theorem nC(T:Txt w K mg t)(B:Bm mg base):Ok P w base T.fA 4 (Jv t):=by
 refine T.fA.F.okC (k:=3) mZ (by rintro ds S R Z ⟨_,_,_,_,e,_⟩;rw[e];rfl) ?_;rintro eP A outer s H E ds S R Z tK hr ⟨cs,l,rs,wy,e,J_,hl,hn,nQ,ht,q⟩;subst e;have A9:x6 ((rs.map aj).map QG):=.inl {rs.map Prod.fst,by rw[zt,zt];rfl};have un:rs.Pairwise λa b=>a.1≠b.1:=nQ.unlike;have JY:(rs.map aj).length<64:=by rw[zb];exact hn
 refine{_,(sc (si (bp aL hr.u (dv 1) ds) (s1<|sr<|NA (N:=["row"]) (src:=[none]) (tK.trans T.fZ) ⟨T.dD,B⟩ hr (i6 (ae hG) ["rows","way"] rfl rfl<|by trivial) (dv 0) (λ_ _ _ _=>(ix (hr.in1.in1.deeper _).units (dv 0) di)) T.eE dj) s0)<|s1<|sr<|UR (N:=["row"]) (src:=[none]) (tK.trans T.fZ) ⟨T.dD,B⟩ hr (i6 (ae hG) ["rows","way"] rfl rfl<|by trivial) (dv 0) (λ_ _ _ _=>(ix (hr.in1.in1.deeper _).units (dv 0) di)) T.eE dj),?_};rcases w9 J_ with rfl|rfl;refine !!⟨aV (by trivial) !{l,rs.map aj,QG,rfl,hl,JY,ht,A9,λx hx S' hs Qk hQ=>?_,λg S2 p hg hs hp=>?_}⟩;obtain⟨r,hr,rfl⟩:=ze.mp hx;exact !!⟨hQ S'<|.refl _⟩;obtain⟨cM,e,pm,h⟩:=nB hg;rw[e];refine{S.set p<|.lst<|cM.map aj,eB hs,q cM p pm (h _ _ un (λx y hx hy eN=>?_) λx y hx hy e ne=>absurd (D.str.inj e) ne)<|cB hs hp};show(ph x.1 y.1==decide (("up": Str) ="up"))=true;have:ph x.1 y.1=true:=zw eN;rw[this];rfl;refine !!⟨kQ (by trivial) !{l,rs.map aj,QG,rfl,hl,JY,ht,A9,λx hx S' hs Qk hQ=>?_,λg S2 p hg hs hp=>?_}⟩;obtain⟨r,hr,rfl⟩:=ze.mp hx;exact !!⟨hQ S'<|.refl _⟩;obtain⟨cM,e,pm,h⟩:=nB hg;rw[e];refine{S.set p<|.lst<|cM.map aj,eB hs,q cM p pm (h _ _ un (λx y hx hy eN=>?_) λx y hx hy e ne=>absurd (D.str.inj e) ne)<|cB hs hp};show(ph x.1 y.1==decide (("down": Str) ="up"))=true;have:ph y.1 x.1=true:=zw eN;by_cases e:x.1=y.1;rw[e,Ey]at this;cases this;rw[kG e]at this;have h2:ph x.1 y.1=false:=by simpa using this
 rw[h2,zu<|by trivial];rfl
inductive Jw (t:hW) (ds:List D) (S:ay) (R:KD) (Z:KX):Prop where
 |mk (cs:List<|Str×Str) (ps:List Part) (p:Part) (wy:Str) (l:Addr) (rs:List Row) (h0:ds=[.tup<|cs.map aw,p3 p,.ref l]) (h1:Gd cs) (h2:Pin cs<|p::ps) (h3:l_ p.2.1=true) (h4:S l=some (.lst<|rs.map aj)) (h5:rs.length<64) (h6:Rg cs rs) (h7:(∀r∈rs,valued cs p r=true)) (h8:(rs.Pairwise λa b=>a_ cs wy ps a b=true)) (h9:S t.aM=some (.tab qV)) (h10:∀(cM:List Row)(a:Addr),cM.Perm rs->(cM.Pairwise λa b=>a_ cs wy (p::ps) a b=true)->S a=none->R (.ref a) (S.set a<|.lst<|cM.map aj)):Jw t ds S R Z
theorem C5{α:Type}{f:α->D}{β:Type}{mk:β->D} : ∀{l:List α},(∀x∈l,∃b,f x=mk b)->∃bs:List β,l.map f=bs.map mk|[],_=>{[],rfl}|x::l,h=>by obtain⟨b,e⟩:=h x zr;obtain⟨bs,e2⟩:=C5 λy hy=>h y<|zg _ hy;exact{b::bs,by rw[zy,e,e2];rfl}
theorem GH{cs:List<|Str×Str}{p:Part}{k:Str}{rs:List Row}(hk:∀r∈rs,Vg k<|ai cs r.2 p.1)(hv:∀r∈rs,valued cs p r=true):x6 ((rs.map aj).map<|C4 cs p.1):=by
 rw[zt];have nn:∀r∈rs,ai cs r.2 p.1≠.av:=λr hr=>bt (by have:=hv r hr;unfold valued at this;simpa using this);by_cases e:k ="number";refine .inr<|C5 λr hr=>?_;have h1:=hk r hr;have h2:=nn r hr;show ∃b,ai cs r.2 p.1=.int b;generalize ai cs r.2 p.1=v at h1 h2;cases v with|av=>exact absurd rfl h2|int i=>exact⟨i,rfl⟩|str z=>(have h1:=h1.1;unfold jR at h1;simp only[ah,yO]at h1;rw[if_pos e]at h1;cases h1)|_=>cases h1.2
 refine .inl<|C5 λr hr=>?_;have h1:=hk r hr;have h2:=nn r hr;show ∃b,ai cs r.2 p.1=.str b;generalize ai cs r.2 p.1=v at h1 h2;cases v with|av=>exact absurd rfl h2|str i=>exact⟨i,rfl⟩|int z=>(have h1:=h1.1;unfold jR at h1;simp only[ah,yO]at h1;rw[if_neg e]at h1;cases h1)|_=>cases h1.2
theorem Jx{cs:List<|Str×Str}{wy:Str}{ps:List Part}{p:Part}{x y:Row}(nx:valued cs p x=true)(ny:valued cs p y=true)(ne:ma (ai cs x.2 p.1) (ai cs y.2 p.1)=false)(h:(uv (ai cs x.2 p.1) (ai cs y.2 p.1)==decide (p.2.1 ="up"))=true):a_ cs wy (p::ps) x y=true:=by
 unfold valued at nx ny;have nx:ah (ai cs x.2 p.1)=false:=by simpa using nx
 have ny:ah (ai cs y.2 p.1)=false:=by simpa using ny
 show(if ma (ai cs x.2 p.1) (ai cs y.2 p.1)=true then a_ cs wy ps x y else cj p (ai cs x.2 p.1) (ai cs y.2 p.1))=true;rw[ne,if_neg zd];unfold cj;rw[nx,ny,if_neg<|by simp];exact h
theorem Jy{x y:D}(h:uv x y=true):ma x y=false:=by cases x with|int i=>(cases y with|int j=>(exact zu λe=>by rw[e,Ez]at h;cases h)|_=>cases h)|str i=>(cases y with|str j=>(exact zu λe=>by rw[e,Ez]at h;cases h)|_=>cases h)|_=>cases h
theorem Jz(x y:D):ma x y=ma y x:=by cases x<;>cases y<;>first|rfl|exact yI.mpr ⟨Eq.symm,Eq.symm⟩
theorem kR(T:Txt w K mg t)(B:Bm mg base):Ok P w base T.dR 6 (Jw t):=by
 refine T.dR.F.okC (k:=5) kN (by rintro ds S R Z ⟨_,_,_,_,_,_,e,_⟩;rw[e];rfl) ?_;rintro eP A outer s H E ds S R Z tK hr ⟨cs,ps,p,wy,l,rs,e,hg,uw,J_,hl,hn,nQ,hv,Vo,ht,q⟩;subst e;obtain⟨c,hc,ec⟩:=uw p zr;obtain⟨k,hk⟩:=qS hg uw;have A9:x6 ((rs.map aj).map<|C4 cs p.1):=GH (λr hr=>hk _<|nQ.1 r hr) hv;have JY:(rs.map aj).length<64:=by rw[zb];exact hn
 have same:∀x y:Row,x∈rs->y∈rs->C4 cs p.1 (aj x)=C4 cs p.1 (aj y)->a_ cs wy ps x y=true->a_ cs wy (p::ps) x y=true:=λx y hx hy e h=>by show(if ma (ai cs x.2 p.1) (ai cs y.2 p.1)=true then a_ cs wy ps x y else _)=true;rw[if_pos<|(bh (hk _<|nQ.1 x hx).2 (hk _<|nQ.1 y hy).2).mpr e];exact h
 have step:∀x,x∈rs.map aj->∀Qk:KD,∀S':ay,Qk (C4 cs p.1 x) S'->∀Zq,me [D.tup<|cs.map aw,x,.str p.1] S' Qk Zq:=λx hx Qk S' hQ _=>by obtain⟨r,hr,rfl⟩:=ze.mp hx;exact{cs,r,c,by rw[ec],hg,nQ.1 r hr,hc,by rw[ec];exact hQ}
 refine{_,(sc (si (bp aL hr.u (ix hr.u (dv 1) di) ds) (s1<|sr<|NA (N:=["row","columns","part"]) (src:=[none,some 0,some 1]) (tK.trans T.eX) ⟨T.cQ,B⟩ hr (i6 (ae fu) ["columns","part","rows"] rfl rfl<|by trivial) (dv 2) (λ_ _ _ _=>(cf ((dr T).mono<|by decide) (hr.in1.in1.deeper _) T.cz.m T.cz.k T.cz.b d0<|ac (dv 1)<|ac (dv 0)<|ac (ix (hr.in1.in1.deeper _).units (dv 2) di) an)) T.eE dj) s0)<|s1<|sr<|UR (N:=["row","columns","part"]) (src:=[none,some 0,some 1]) (tK.trans T.eX) ⟨T.cQ,B⟩ hr (i6 (ae fu) ["columns","part","rows"] rfl rfl<|by trivial) (dv 2) (λ_ _ _ _=>(cf ((dr T).mono<|by decide) (hr.in1.in1.deeper _) T.cz.m T.cz.k T.cz.b d0<|ac (dv 1)<|ac (dv 0)<|ac (ix (hr.in1.in1.deeper _).units (dv 2) di) an)) T.eE dj),?_};rcases w9 J_ with e1|e1;refine !!!⟨aV (by rw[e1];decide +kernel) !{l,rs.map aj,C4 cs p.1,rfl,hl,JY,ht,A9,λx hx S' hs Qk hQ=>!!!!⟨step x hx _ S' (hQ S'<|.refl _) _⟩,λg S2 a hg hs ha=>?_}⟩;obtain⟨cM,e,pm,h⟩:=nB hg;rw[e];refine{S.set a<|.lst<|cM.map aj,eB hs,q cM a pm (h _ _ Vo (λx y hx hy eN=>?_) same)<|cB hs ha};have eN:=Js (a:=ai cs x.2 p.1) (b:=ai cs y.2 p.1) eN;exact Jx (hv x hx) (hv y hy) (Jy eN) (by rw[eN,zw e1];rfl);refine !!!⟨kQ (by rw[e1];decide +kernel) !{l,rs.map aj,C4 cs p.1,rfl,hl,JY,ht,A9,λx hx S' hs Qk hQ=>!!!!⟨step x hx _ S' (hQ S'<|.refl _) _⟩,λg S2 a PZ hs ha=>?_}⟩;obtain⟨cM,e,pm,h⟩:=nB PZ;rw[e];refine{S.set a<|.lst<|cM.map aj,eB hs,q cM a pm (h _ _ Vo (λx y hx hy eN=>?_) same)<|cB hs ha};have eN:=Js (a:=ai cs y.2 p.1) (b:=ai cs x.2 p.1) eN;have ne:=Jy eN;refine Jx (hv x hx) (hv y hy) (by rw[Jz];exact ne) ?_;have nn:∀r∈rs,ai cs r.2 p.1≠.av:=λr hr=>bt (by have:=hv r hr;unfold valued at this;simpa using this);have Ba:ai cs x.2 p.1≠ai cs y.2 p.1:=λe=>by have:=(bh (hk _<|nQ.1 y hy).2 (hk _<|nQ.1 x hx).2).mpr e.symm;rw[ne]at this;cases this
 have:=nA (hk _<|nQ.1 x hx) (hk _<|nQ.1 y hy) (nn x hx) (nn y hy) Ba;rw[eN]at this;have h2:uv (ai cs x.2 p.1) (ai cs y.2 p.1)=false:=by simpa using this
 rw[h2,e1,zu<|by trivial];rfl
def Tb(t:hW)(S:ay):Prop:=S t.aU=some (.tab qK)/\S t.aM=some (.tab qV)
theorem Tb.sub{t:hW}{S S':ay}(h:Tb t S)(s:Sub S S'):Tb t S':={s _ _ h.1,s _ _ h.2}
noncomputable def EB(b:Bool)(cs:List<|Str×Str)(p:Part):D->Bool|.tup [_,.tup ws]=>ah (ai cs ws p.1)==b|_=>false
theorem iy{rs:List Row}{f:D->Bool}{g:Row->Bool}(h:∀r,f (aj r)=g r):((rs.map aj).filter f).map id=(rs.filter g).map aj:=by rw[List.map_id,List.filter_map];exact congrArg (List.map aj)<|List.filter_congr λr _=>h r
inductive JA (t:hW) (ds:List D) (S:ay) (R:KD) (Z:KX):Prop where
 |mk (cs:List<|Str×Str) (ps:List Part) (p:Part) (wy:Str) (l:Addr) (rs:List Row) (h0:ds=[.tup<|cs.map aw,p3 p,.ref l]) (h1:Gd cs) (h2:Pin cs<|p::ps) (h3:l_ p.2.1=true) (h4:S l=some (.lst<|rs.map aj)) (h5:rs.length<64) (h6:Rg cs rs) (h7:(rs.Pairwise λa b=>a_ cs wy ps a b=true)) (h8:Tb t S) (h9:∀(cM:List Row)(a:Addr),cM.Perm rs->(cM.Pairwise λa b=>a_ cs wy (p::ps) a b=true)->S a=none->R (.ref a) (S.set a<|.lst<|cM.map aj)):JA t ds S R Z
theorem nD(T:Txt w K mg t)(B:Bm mg base):Ok P w base T.fB 7 (JA t):=by
 refine T.fB.F.ck cE ?_;rintro _ _ _ _ _ _ _ S R Z hr ⟨cs,ps,p,wy,l,rs,e,hg,uw,J_,hl,hn,nQ,Vo,ht,q⟩;subst e;obtain⟨c,hc,ec⟩:=uw p zr;have hz:(rs.map aj).length<=1000:=by rw[zb];lia
 refine{_,(sc (LH (i:=3) (N:=["row","columns","part"]) (src:=[none,some 0,some 1]) cE.nd (i6 (ae hU) ["columns","part","rows","without","valued"] rfl rfl<|by trivial) (il<|dv 2) (mm<|show(["row","columns","part"]:List Str).Nodup by trivial) (aO rfl) aP (λ_ _ _ _ _=>(if1<|bp fP hr.u (aJ T.cz (dr T) hr<|ac (dv 1)<|ac (dv 0)<|ac (ix hr.u (dv 2) di) an) dn)) λ_ _ _ _ _=>(dv 0))<|sc (LH (i:=4) (N:=["row","columns","part"]) (src:=[none,some 0,some 1]) cE.nd (i6 (ae hU) ["columns","part","rows","without","valued"] rfl rfl<|by trivial) (il<|dv 2) (mm<|show(["row","columns","part"]:List Str).Nodup by trivial) (aO rfl) aP (λ_ _ _ _ _=>(if1<|bp lM hr.u (aJ T.cz (dr T) hr<|ac (dv 1)<|ac (dv 0)<|ac (ix hr.u (dv 2) di) an) dn)) λ_ _ _ _ _=>(dv 0))<|sc (cC (i:=4) cE.nd<|aJ T.dR (kR T B) hr<|ac (dv 0)<|ac (dv 1)<|ac (dv 4) an)<|s1<|sr<|Rx (bp aL hr.u (ix hr.u (dv 1) di) ds) (bo bM hr.u (dv 3)<|dv 4)<|bo bM hr.u (dv 4)<|dv 3),?_};refine !{_,hl,?_};refine dq (EB true cs p) id hl hz (λd hd Q Q' hQ sQ=>?_) λp1 CQ=>?_;obtain⟨r,hr,rfl⟩:=ze.mp hd;refine !!!!{cs,r,c,(show[D.tup<|cs.map aw,aj r,D.str p.1]=[_,_,D.str c.1] by rw[ec]),hg,nQ.1 r hr,hc,?_};rw[ec];refine{_,rfl,bB (λh=>!⟨hQ ?_⟩) λh=>sQ ?_};show(ah (ai cs r.2 p.1)==true)=true;rw[show ah (ai cs r.2 p.1)=true from h];rfl;show(ah (ai cs r.2 p.1)==true)=false;rw[show ah (ai cs r.2 p.1)=false from h];rfl;have e1:((rs.map aj).filter<|EB true cs p).map id=(rs.filter λr=>!valued cs p r).map aj:=iy λr=>by show(ah (ai cs r.2 p.1)==true)=!valued cs p r;unfold valued;cases ah (ai cs r.2 p.1)<;>rfl
 rw[show({rs.map aj,λS=>p7 S (.ref l)<|rs.map aj}:vW).xs=rs.map aj from rfl,e1];have JB:Sub S (S.set p1<|.lst<|(rs.filter λr=>!valued cs p r).map aj):=.new CQ;have h1:(S.set p1<|.lst<|(rs.filter λr=>!valued cs p r).map aj) p1=some (.lst<|(rs.filter λr=>!valued cs p r).map aj):=aa;generalize S.set p1 (.lst<|(rs.filter λr=>!valued cs p r).map aj)=S1 at JB h1⊢;have Je:=JB _ _ hl;refine !{_,Je,?_};refine dq (EB false cs p) id Je hz (λd hd Q Q' hQ sQ=>?_) λp2 gU=>?_;obtain⟨r,hr,rfl⟩:=ze.mp hd;refine !!!!{cs,r,c,(show[D.tup<|cs.map aw,aj r,D.str p.1]=[_,_,D.str c.1] by rw[ec]),hg,nQ.1 r hr,hc,?_};rw[ec];refine{_,rfl,bB (λh=>!⟨hQ ?_⟩) λh=>sQ ?_};show(ah (ai cs r.2 p.1)==false)=true;rw[show ah (ai cs r.2 p.1)=false from nt h];rfl;show(ah (ai cs r.2 p.1)==false)=false;rw[show ah (ai cs r.2 p.1)=true from nf h];rfl;have e2:((rs.map aj).filter<|EB false cs p).map id=(rs.filter<|valued cs p).map aj:=iy λr=>by show(ah (ai cs r.2 p.1)==false)=valued cs p r;unfold valued;cases ah (ai cs r.2 p.1)<;>rfl
 rw[show({rs.map aj,λS=>p7 S (.ref l)<|rs.map aj}:vW).xs=rs.map aj from rfl,e2];have G4:Sub S (S1.set p2<|.lst<|(rs.filter<|valued cs p).map aj):=JB.trans<|.new gU;have Jl:(S1.set p2<|.lst<|(rs.filter<|valued cs p).map aj) p1=_:=(ag<|fS h1 gU).trans h1;have h22:(S1.set p2<|.lst<|(rs.filter<|valued cs p).map aj) p2=_:=aa;generalize S1.set p2 (.lst<|(rs.filter<|valued cs p).map aj)=S2 at G4 Jl h22⊢;have fl:(rs.filter<|valued cs p).length<=rs.length:=List.length_filter_le _ _;have fl2:(rs.filter λr=>!valued cs p r).length<=rs.length:=List.length_filter_le _ _;refine !!!{cs,ps,p,wy,p2,rs.filter<|valued cs p,rfl,hg,uw,J_,h22,by lia,nQ.sub yq,λr hr=>(yn.mp hr).2,Vo.sublist yq,(ht.sub G4).2,λV p3 hV WV WQ=>?_};obtain⟨pm,pw⟩:=GG Vo hV WV;have WW:(S2.set p3<|.lst<|V.map aj) p1=_:=(ag<|fS Jl WQ).trans Jl;have h33:(S2.set p3<|.lst<|V.map aj) p3=some (.lst<|V.map aj):=aa;have Vp:Sub S (S2.set p3<|.lst<|V.map aj):=G4.trans<|.new WQ;generalize S2.set p3 (.lst<|V.map aj)=S3 at WW h33 Vp⊢;have hVl:=hV.length_eq;refine !!!⟨bB (λh=>?_) λh=>?_⟩;rw[if_pos<|zB h]at pm pw;refine !!{_,_,WW,h33,sm<|by rw[zb,zb];lia,λp4 hp4=>?_};rw[<-zJ];exact{_,eB Vp,q _ p4 pm pw<|cB Vp hp4};rw[if_neg<|zO h]at pm pw;refine !!{_,_,h33,WW,sm<|by rw[zb,zb];lia,λp4 hp4=>?_};rw[<-zJ];exact{_,eB Vp,q _ p4 pm pw<|cB Vp hp4}
structure Og(cs:List (Str×Str))(ps:List Part)(wy:Str):Prop where
 pin:Pin cs ps
 aac:∀p∈ps,l_ p.2.1=true
 way:l_ wy=true
 ok:CV cs ps wy=true
 tx:∀p∈ps,Z6 p
noncomputable def bU(ps:List Part)(wy:Str):D:=.tup [.tup<|ps.map p3,.str wy]
inductive NS (t:hW) (ds:List D) (S:ay) (R:KD) (Z:KX):Prop where
 |mk (cs:List<|Str×Str) (ps:List Part) (wy:Str) (l:Addr) (rs:List Row) (h0:ds=[.tup<|cs.map aw,bU ps wy,.ref l]) (h1:Gd cs) (h2:Og cs ps wy) (h3:S l=some (.lst<|rs.map aj)) (h4:rs.length<64) (h5:Rg cs rs) (h6:Tb t S) (h7:∀(cM:List Row)(a:Addr),cM.Perm rs->(cM.Pairwise λa b=>a_ cs wy ps a b=true)->S a=none->R (.ref a) (S.set a<|.lst<|cM.map aj)):NS t ds S R Z
structure Vw(C:Addr)(S:ay)(a:Addr)(cs:List (Str×Str))(m:D)(rows:List Row):Prop where
 sh:∃F dl rs,cA C S a F cs dl rs/\rs.length<64/\uq dl.length m≠none/\∀i ss,uq dl.length m=some i->ss.Perm (rs.map (·.1))->PyProof.Rows.sortedS ss=true->l8 rs i ss=rows.map aj
 mo:Gt S m
 len:rows.length<64
 rg:Rg cs rows
theorem cA.sub(b:Sub S S')(h:cA C S a F cs dl rs):cA C S' a F cs dl rs:=by obtain⟨ld,lr,ra,h,e⟩:=h;exact{ld,lr,ra,{b _ _ h.ins,b _ _ h.Ah,b _ _ h.run,λr hr=>b _ _<|h.cell r hr,h.kn,h.an,h.sz},e}
theorem Az(T:Txt w K mg t)(B:Bm mg base):Ok P w base T.sA 8 (NS t):=by
 refine T.sA.F.ck gm ?_;rintro _ _ _ _ _ _ _ S R Z hr ⟨cs,ps,wy,l,rs,e,hg,ho,hl,hn,nQ,ht,q⟩;subst e;refine{_,(sc (cC (i:=3) gm.nd<|aJ T.fA (nC T B) hr<|ac (dv 2)<|ac (ix hr.u (dv 1) di) an)<|sc (xW<|FR (irt T.so<|ac (ix hr.u (dv 1) di) an) (gn (i:=4) gm.nd)<|s1<|cC (i:=3) gm.nd<|aJ T.fB (nD T B) hr<|ac (dv 0)<|ac (dv 4)<|ac (dv 3) an)<|s1<|sr<|dv 3),?_};refine !!!{cs,l,rs,wy,rfl,ho.way,hl,hn,nQ,ht.1,λrs1 p1 pm1 pw1 CQ=>?_};have hrl:ps.reverse.length=ps.length:=yA;refine{λaF S'=>∃(o:Option D)(p:Addr)(cM:List Row),aF=[some<|.tup<|cs.map aw,some<|bU ps wy,some<|.ref l,some<|.ref p,o]/\S p=none/\S' p=some (.lst<|cM.map aj)/\Sub S S'/\cM.Perm rs/\cM.Pairwise λa b=>a_ cs wy ps a b=true,?_,?_};refine !!!⟨?_⟩;refine{λi aF S'=>∃(o:Option D)(p:Addr)(cM:List Row),aF=[some<|.tup<|cs.map aw,some<|bU ps wy,some<|.ref l,some<|.ref p,o]/\S p=none/\S' p=some (.lst<|cM.map aj)/\Sub S S'/\cM.Perm rs/\cM.Pairwise λa b=>a_ cs wy (ps.reverse.take i).reverse a b=true,{none,p1,rs1,rfl,CQ,aa,.new CQ,pm1,pw1},λ_ _ _ _=>trivial,?_,?_};rintro i d aF S' hd ⟨o,p,cM,rfl,hp,dO,sb,pm,pw⟩;have hd:(ps.map p3).reverse[i]?=some d:=hd;rw[<-List.map_reverse,zp]at hd;cases e5:ps.reverse[i]? with|none=>(rw[e5]at hd;cases hd)|some pt=>rw[e5]at hd;cases hd;have Pw:pt∈ps:=List.mem_reverse.mp<|zK e5;have et:(ps.reverse.take<|i+1).reverse=pt::(ps.reverse.take i).reverse:=(by rw[List.take_add_one,e5,List.reverse_append];rfl);have Na:Pin cs (pt::(ps.reverse.take i).reverse):=λx hx=>(by rcases zj.mp hx with rfl|hx;exact ho.pin _ Pw;exact ho.pin _<|List.mem_reverse.mp<|List.mem_of_mem_take<|List.mem_reverse.mp hx);refine !!!{cs,(ps.reverse.take i).reverse,pt,wy,p,cM,rfl,hg,Na,ho.aac pt Pw,dO,by rw[pm.length_eq];exact hn,nQ.perm pm,pw,ht.sub sb,λZm p2 pm2 pw2 gU=>?_};rw[<-et]at pw2;exact{_,p2,Zm,rfl,cB sb gU,aa,sb.trans<|.new gU,pm2.trans pm,pw2}
 rintro aF S' ⟨o,p,cM,rfl,hp,dO,sb,pm,pw⟩;have pw:cM.Pairwise λa b=>a_ cs wy (ps.reverse.take (ps.map p3).reverse.length).reverse a b=true:=pw;rw[yA,zb,List.take_of_length_le<|Nat.le_of_eq hrl,List.reverse_reverse]at pw;exact fo ⟨o,p,cM,rfl,hp,dO,sb,pm,pw⟩;rintro aF S' ⟨o,p,cM,rfl,hp,dO,sb,pm,pw⟩;refine !{S.set p<|.lst<|cM.map aj,λb c hb=>?_,q cM p pm pw hp};by_cases e:b=p;subst e;rw[aa]at hb;cases hb;exact dO;rw[ag e]at hb;exact sb b c hb
noncomputable def EC(cs:List<|Str×Str)(d:D):D->Bool|.tup [.str k,.tup ws]=>bf cs (k,ws) 4 d|_=>false
inductive JC (t:hW) (ds:List D) (S:ay) (R:KD) (Z:KX):Prop where
 |mk (a cs d m rows) (h0:ds=[.ref a,d,m]) (h1:Gd cs) (h2:Sg cs 4 d) (h3:Vw t.au S a cs m rows) (h4:∀p,S p=none->R (.ref p) (S.set p<|.lst<|(rows.filter λr=>bf cs r 4 d).map aj)):JC t ds S R Z
theorem qq(T:Txt w K mg t):Ok P w base T.iR 8 (JC t):=by refine T.iR.F.ck jb ?_;rintro _ _ _ _ _ _ _ S R Z hr ⟨a,cs,d,m,rows,e,hg,hd,hv,q⟩;subst e;obtain⟨F,dl,rs,hS,hn,WX,WY⟩:=hv.sh;obtain⟨ld,lr,ra,h,_⟩:=id hS;refine{_,(sc (cC (i:=3) jb.nd<|t5 (dv 0) T.aq T.ba (cg T) hr)<|s1<|sr<|p_ (N:=["row","columns","sieve"]) (src:=[none,some 3,some 1]) (i6 (ae rX) ["shelf","sieve","moment","columns"] rfl rfl<|by trivial) (il<|tM (dv 0) T.aq T.iN (Gz T) hr<|ac (dv 2) an) (mm<|show(["row","columns","sieve"]:List Str).Nodup by trivial) (aO rfl) aP (λ_ _ _ _ _=>(if1<|tv<|aJ T.passes (kE T 4) hr<|ac (dv 1)<|ac (dv 2)<|ac (dv 0) an)) λ_ _ _ _ _=>(dv 0)),?_};refine !{a,_,rfl,h.ins,rfl,a,F,cs,dl,rs,rfl,hS,?_};refine !{a,_,rfl,h.ins,rfl,_,rfl,a,F,cs,dl,rs,m,rfl,hS,hn,hv.mo,λi ss hi hp hs p l9=>?_,λh=>absurd h WX};rw[WY i ss hi hp hs];refine{_,aa,?_};refine dq (EC cs d) id aa (by show(rows.map aj).length<=1000;rw[zb];have:=hv.len;lia) (λx hx Q Q' hQ sQ=>?_) λp2 gU=>?_;obtain⟨r,hr,rfl⟩:=ze.mp hx;refine !!!{cs,d,r,rfl,hg,hd,hv.rg.1 r hr,_,rfl,bB (λh=>!⟨hQ h⟩) λh=>sQ h};have e1:((rows.map aj).filter<|EC cs d).map id=(rows.filter λr=>bf cs r 4 d).map aj:=iy λr=>rfl;rw[show({rows.map aj,λS=>p7 S (.ref p)<|rows.map aj}:vW).xs=rows.map aj from rfl,e1];exact{_,eB<|.new l9,q p2<|cB (.new l9) gU}
inductive Vq (t:hW) (ds:List D) (S:ay) (R:KD) (Z:KX):Prop where
 |mk (a cs ps wy d m rows) (h0:ds=[.ref a,bU ps wy,d,m]) (h1:Gd cs) (h2:Og cs ps wy) (h3:Sg cs 4 d) (h4:Vw t.au S a cs m rows) (h5:Tb t S) (h6:∀(cM:List Row)(p:Addr),cM.Perm (rows.filter λr=>bf cs r 4 d)->(cM.Pairwise λa b=>a_ cs wy ps a b=true)->S p=none->R (.ref p) (S.set p<|.lst<|cM.map aj)):Vq t ds S R Z
theorem gu(T:Txt w K mg t)(B:Bm mg base):Ok P w base T.dF 9 (Vq t):=by refine T.dF.F.ck mY ?_;rintro _ _ _ _ _ _ _ S R Z hr ⟨a,cs,ps,wy,d,m,rows,e,hg,ho,hd,hv,ht,q⟩;subst e;obtain⟨F,dl,rs,hS,hn,WX,WY⟩:=hv.sh;obtain⟨ld,lr,ra,h,_⟩:=id hS;refine{_,(s1<|sr<|aJ T.sA (Az T B) hr<|ac (t5 (dv 0) T.aq T.ba (cg T) hr)<|ac (dv 1)<|ac (aJ T.iR (qq T) hr<|ac (dv 0)<|ac (dv 2)<|ac (dv 3) an) an),?_};refine !{a,_,rfl,h.ins,rfl,a,F,cs,dl,rs,rfl,hS,?_};refine !!!!{a,cs,d,m,rows,rfl,hg,hd,hv,λp hp=>?_};have fl:(rows.filter λr=>bf cs r 4 d).length<=rows.length:=List.length_filter_le _ _;have:=hv.len;refine{cs,ps,wy,p,rows.filter λr=>bf cs r 4 d,rfl,hg,ho,aa,Nat.lt_of_le_of_lt fl this,hv.rg.sub yq,ht.sub<|.new hp,λcM p2 pm pw gU=>?_};exact{_,eB<|.new hp,q cM p2 pm pw<|cB (.new hp) gU}
noncomputable def ED(z:Str):D->Bool|.tup [.tup (.str n::_),_]=>decide (n=z)|_=>false
noncomputable def Vr:D->D|.tup [_,v]=>v|_=>.av
theorem AA:∀{cs:List (Str×Str)}{ws:List D},z∈cs.map Prod.fst->ws.length=cs.length->(((bc (cs.map aw) ws).filter<|ED z).map Vr)[0]?=some (ai cs ws z)
 |[],_,h,_=>by cases h
 |c::cs,[],_,h=>by cases h
 |c::cs,v::ws,h,hl=>by
  have e0:bc ((c::cs).map aw) (v::ws)=.tup [aw c,v]::bc (cs.map aw) ws:=rfl;rw[e0];unfold ai Mq;by_cases e:c.1=z;rw[yp,if_pos<|show ED z (.tup [aw c,v])=true from zw e,zy,zy,e,List.idxOf_cons_self];rfl;have hz:z∈cs.map Prod.fst:=by rw[zy]at h;rcases zj.mp h with h|h;exact absurd h.symm e;exact h
  have ih:=AA (ws:=ws) hz (by simpa using hl);unfold ai Mq at ih;rw[yp,if_neg<|by rw[show ED z (.tup [aw c,v])=false from zu e];exact zd,ih,zy,List.idxOf_cons,show(c.1==z)=false by simpa using e];rfl
theorem gv(q:R (.bl<|if neg then !(x==y) else (x==y)) S):HW neg (.bl x) (.bl y) S R:=⟨.bool x,.bool y,by simp only[Dl,Dp],by simp only[Dl,Dp],by simp only[PyData.canLay0],by simp only[PyData.canLay0],.inl<|by simp only[PyData.depth];lia,by
 have e:PyData.eqv (.bool x) (.bool y)=(x==y):=by cases x<;>cases y<;>rfl
 rw[e];exact q⟩
inductive JD (ds:List D) (S:ay) (R:KD) (Z:KX):Prop where
 |mk (cs r c) (h0:ds=[.tup<|cs.map aw,aj r,.str c.1]) (h1:Gd cs) (h2:Wg cs r.2) (h3:c∈cs) (h4:R (ai cs r.2 c.1) S):JD ds S R Z
theorem AB(T:Txt w K mg t):Ok P w base T.Cq 1 JD:=by
 refine T.Cq.F.ck L8 ?_;rintro _ _ _ _ _ _ _ S R Z hr ⟨cs,r,c,e,hg,hw,hc,q⟩;subst e;have hlen:r.2.length=cs.length:=(yG hw).symm;have dO:(bc (cs.map aw) r.2).length<=1000:=by unfold bc;rw[List.length_zipWith,zb];have:=hg.1;lia
 refine{_,(s1<|sr<|ix hr.u (p_ (N:=["_law_column","_law_value_here","_law_name"]) (src:=[none,none,some 2]) (i6 (ae Qo) ["_law_columns_here","_law_row","_law_name"] rfl rfl<|by trivial) (WN T.y8<|ac (dv 0)<|ac (ix hr.u (dv 1) di) an) (Ws<|show(["_law_column","_law_value_here","_law_name"]:List Str).Nodup by trivial) (qE rfl rfl) qI (λ_ _ _ _ _=>(if1<|bp aL hr.u (ix hr.u (dv 0) di)<|dv 2)) λ_ _ _ _ _=>(dv 1)) di),?_};refine !!!{cs.map aw,r.2,rfl,by rw[zb];exact hlen.symm,?_};refine dq (ED c.1) Vr trivial dO (λd hd Q Q' hQ sQ=>?_) λp hp=>?_;have hd:d∈bc (cs.map aw) r.2:=hd;unfold bc at hd;obtain⟨i,ei⟩:=List.getElem?_of_mem hd;obtain⟨x,y,e2,e3,e4⟩:=List.getElem?_zipWith_eq_some.mp ei;subst e4;rw[zp]at e2;cases e5:cs[i]? with|none=>(rw[e5]at e2;cases e2)|some c'=>rw[e5]at e2;cases e2;exact !{rfl,_,_,rfl,_,_,rfl,rfl,_,rfl,_,rfl,_,rfl,_,rfl,bB (λh=>!⟨hQ h⟩) λh=>sQ h}
 exact{_,_,aa,d_<|AA (ze.mpr ⟨c,hc,rfl⟩) hlen,S,.new hp,q}
theorem GI(T:Txt w K mg t):Ok P w base T.sC 2 (λds S R _=>∃cs ps wy a b,ds=[.tup<|cs.map aw,bU ps wy,aj a,aj b]/\Gd cs/\Pin cs ps/\Wg cs a.2/\Wg cs b.2/\R (.bl<|a_ cs wy ps a b) S):=by
 refine T.sC.F.ok dm (by rintro ds S R Z ⟨_,_,_,_,_,e,_⟩;rw[e];rfl) ?_;rintro eP A outer s H E ds S R Z hr ⟨cs,ps,wy,a,b,e,hg,uw,ha,hb,q⟩;subst e;refine{_,(sc (xW<|FR (FP<|ix hr.u (dv 1) di) (gt (n:=3)<|gc (gn (i:=4) dm.nd)<|gc (gn (i:=5) dm.nd)<|gc (gn (i:=6) dm.nd) g0)<|sc (cC (i:=7) dm.nd<|aJ T.Cq (AB T) hr<|ac (dv 0)<|ac (dv 2)<|ac (dv 4) an)<|sc (cC (i:=8) dm.nd<|aJ T.Cq (AB T) hr<|ac (dv 0)<|ac (dv 3)<|ac (dv 4) an)<|sc (si (bp iI hr.u (cm fP hr.u (dv 7) dn)<|cm fP hr.u (dv 8) dn) (s1<|sr<|cm aL hr.u (cm fP hr.u (dv 7) dn)<|cm aL hr.u (dv 6) ds) s0)<|s1<|si (bp iI hr.u (dv 7)<|dv 8) (s1<|sr<|cm aL hr.u (cm mF hr.u (dv 7)<|dv 8)<|cm aL hr.u (dv 5) ds) s0)<|s1<|sr<|cm aL hr.u (cm mF hr.u (ix hr.u (dv 2) di)<|ix hr.u (dv 3) di)<|cm aL hr.u (ix hr.u (dv 1) di) ds),?_};refine{λaF S'=>∃(o4 o5 o6 o7 o8:Option D),aF=[some<|.tup<|cs.map aw,some<|bU ps wy,some<|aj a,some<|aj b,o4,o5,o6,o7,o8]/\S'=S/\a_ cs wy ps a b=a_ cs wy [] a b,?_,?_};refine !!{_,.inl rfl,?_};refine{λi aF S'=>∃(o4 o5 o6 o7 o8:Option D),aF=[some<|.tup<|cs.map aw,some<|bU ps wy,some<|aj a,some<|aj b,o4,o5,o6,o7,o8]/\S'=S/\a_ cs wy ps a b=a_ cs wy (ps.drop i) a b,{_,_,_,_,_,rfl,rfl,rfl},λ_ _ _ _=>trivial,?_,?_};rintro i d aF S' hd ⟨o4,o5,o6,o7,o8,rfl,rfl,qd⟩;have hd:(ps.map p3)[i]?=some d:=hd;rw[zp]at hd;cases e5:ps[i]? with|none=>(rw[e5]at hd;cases hd)|some p=>rw[e5]at hd;cases hd;obtain⟨c,hc,ec⟩:=uw p<|zK e5;have hi:i<ps.length:=(zf.mp e5).1;have edr:ps.drop i=p::ps.drop (i+1):=(by rw[yd hi];have:=(zf.mp e5).2;rw[this]);rw[edr]at qd;have va:=(iY hg ha hc).2;have vb:=(iY hg hb hc).2;rw[ec]at va vb;have qd:a_ cs wy ps a b=if ma (ai cs a.2 p.1) (ai cs b.2 p.1)=true then a_ cs wy (ps.drop<|i+1) a b else cj p (ai cs a.2 p.1) (ai cs b.2 p.1):=qd;refine !{rfl,_,_,rfl,_,_,rfl,_,_,rfl,rfl,?_};refine !!!{cs,a,c,(show[D.tup<|cs.map aw,aj a,D.str p.1]=[_,_,D.str c.1] by rw[ec]),hg,ha,hc,?_};refine !!!{cs,b,c,(show[D.tup<|cs.map aw,aj b,D.str p.1]=[_,_,D.str c.1] by rw[ec]),hg,hb,hc,?_};rw[ec];refine !!⟨?_⟩;dsimp only[dC,Ry];refine gv !⟨bB (λh=>?_) λh=>?_⟩;have h:(!(ah (ai cs a.2 p.1)==ah (ai cs b.2 p.1)))=true:=h;have Ba:ah (ai cs a.2 p.1)≠ah (ai cs b.2 p.1):=λe=>(by rw[e]at h;simp at h);rw[qd,oM Ba,if_neg zd]at q;unfold cj at q;rw[if_pos<|show(ah (ai cs a.2 p.1) != ah (ai cs b.2 p.1))=true from h]at q;refine !!⟨?_⟩;show HW false (.bl<|ah<|ai cs a.2 p.1) (.bl<|decide<|p.2.2 ="first") _ _;exact gv<|fo q;have h:(!(ah (ai cs a.2 p.1)==ah (ai cs b.2 p.1)))=false:=h;have heq:ah (ai cs a.2 p.1)=ah (ai cs b.2 p.1):=(by simpa using h);refine !!⟨j6 va.2 vb.2 !⟨bB (λh2=>?_) λh2=>?_⟩⟩;have h2:ma (ai cs a.2 p.1) (ai cs b.2 p.1)=false:=nt h2;rw[qd,h2,if_neg zd]at q;unfold cj at q;rw[if_neg<|show ¬(ah (ai cs a.2 p.1) != ah (ai cs b.2 p.1))=true by rw[heq];simp]at q;have na:ai cs a.2 p.1≠.av:=λe=>(by have e2:ai cs b.2 p.1=.av:=cD (by rw[<-heq,e];rfl);rw[e,e2]at h2;cases h2);have nb:ai cs b.2 p.1≠.av:=λe=>na<|cD (by rw[heq,e];rfl);refine !!⟨?_⟩;rcases j7 va vb na nb with⟨i',j',e6,e7⟩|⟨i',j',e6,e7⟩;rw[e6,e7]at q⊢;exact{_,rfl,gv<|fo q};rw[e6,e7]at q⊢;exact{_,rfl,gv<|fo q};have h2:ma (ai cs a.2 p.1) (ai cs b.2 p.1)=true:=nf h2;rw[h2,if_pos rfl]at qd;exact{_,_,_,_,_,rfl,rfl,qd}
 rintro aF S' ⟨o4,o5,o6,o7,o8,rfl,rfl,qd⟩;have qd:a_ cs wy ps a b=a_ cs wy (ps.drop (ps.map p3).length) a b:=qd;rw[zb,List.drop_length]at qd;exact fo ⟨o4,o5,o6,o7,o8,rfl,rfl,qd⟩;rintro aF S' ⟨o4,o5,o6,o7,o8,rfl,rfl,qd⟩;rw[qd]at q;exact !!!!!!⟨gv<|fo q⟩
noncomputable def NT(cs:List<|Str×Str)(wy:Str)(ps:List Part)(x:Row):D->Bool|.tup [.str k,.tup ws]=>a_ cs wy ps (k,ws) x|_=>false
def QH:iJ:=λds S R _=>∃(cs:List (Str×Str))(ps:List Part)(wy:Str)(l:Addr)(rs:List Row),ds=[.tup<|cs.map aw,bU ps wy,.ref l]/\Gd cs/\Pin cs ps/\S l=some (.lst<|rs.map aj)/\rs.length<64/\Rg cs rs/\∀(cM:List Row)(a:Addr),cM.Perm rs->(cM.Pairwise λa b=>a_ cs wy ps a b=true)->S a=none->R (.ref a) (S.set a<|.lst<|cM.map aj)
theorem vn(T:Txt w K mg t):Ok P w base T.mW 3 QH:=by
 refine T.mW.F.ok gp (by rintro ds S R Z ⟨_,_,_,_,_,e,_⟩;rw[e];rfl) ?_;rintro eP A outer s H E ds S R Z hr ⟨cs,ps,wy,l,rs,e,hg,uw,hl,hn,nQ,q⟩;subst e;refine{_,(sc (cC (i:=3) gp.nd<|cG an)<|sc (xW<|FR (il<|dv 2) (gn (i:=4) gp.nd)<|sc (cC (i:=5) gp.nd<|cb bb T.aX aG<|ac (p_ (N:=["_law_one","_law_columns_here","_law_order_here","_law_row"]) (src:=[none,some 0,some 1,some 4]) (i6 (ae Cf) ["_law_columns_here","_law_order_here","_law_rows","_law_found","_law_row","_law_many_here"] rfl rfl<|by trivial) (il<|dv 3) (mm<|show(["_law_one","_law_columns_here","_law_order_here","_law_row"]:List Str).Nodup by trivial) (aO rfl) aP (λ_ _ _ _ _=>(if1<|tv<|aJ T.sC (GI T) hr<|ac (dv 1)<|ac (dv 2)<|ac (dv 0)<|ac (dv 3) an)) λ_ _ _ _ _=>(dv 0)) an)<|s1<|se<|bm zR PySem.F.slot_list_insert PySem.F.type_list_insert IH (dv 3)<|ac (dv 5)<|ac (dv 4) an)<|s1<|sr<|dv 3),?_};refine{Ag,λf hf=>?_};refine{λaF S'=>∃(o4 o5:Option D) (F:List Row),aF=[some<|.tup<|cs.map aw,some<|bU ps wy,some<|.ref l,some<|.ref f,o4,o5]/\S' f=some (.lst<|F.map aj)/\Sub S S'/\F.Perm rs/\F.Pairwise λa b=>a_ cs wy ps a b=true,?_,?_};refine !{_,(ag<|fS hl hf).trans hl,?_};refine{λi aF S'=>∃(o4 o5:Option D) (F:List Row),aF=[some<|.tup<|cs.map aw,some<|bU ps wy,some<|.ref l,some<|.ref f,o4,o5]/\S' f=some (.lst<|F.map aj)/\Sub S S'/\F.Perm (rs.take i)/\F.Pairwise λa b=>a_ cs wy ps a b=true,{none,none,[],rfl,aa,.new hf,.refl _,.nil},?_,?_,?_};rintro i aF S' ⟨o4,o5,F,rfl,hF,sb,_⟩;exact sb _ _ hl;rintro i d aF S' hd ⟨o4,o5,F,rfl,hF,sb,pm,pw⟩;have hd:(rs.map aj)[i]?=some d:=hd;rw[zp]at hd;cases e5:rs[i]? with|none=>(rw[e5]at hd;cases hd)|some x=>rw[e5]at hd;cases hd;have hx:=zK e5;have ht:rs.take (i+1)=rs.take i++[x]:=take_snoc e5;have hrx:Rg cs (x::F):=(by refine(nQ.sub<|List.take_sublist (i+1) rs).perm ?_;rw[ht];exact(pm.cons x).trans<|List.perm_append_comm (l₁:=[x]) (l₂:=rs.take i));have hFl:F.length<=rs.length:=(by rw[pm.length_eq];exact List.length_take_le' _ _);refine !{_,hF,?_};refine dq (NT cs wy ps x) id hF (by show(F.map aj).length<=1000;rw[zb];lia) (λd hd Q Q' hQ sQ=>?_) λp hp=>?_;obtain⟨y,hy,rfl⟩:=ze.mp hd;refine !!!!{cs,ps,wy,y,x,rfl,hg,uw,hrx.1 y<|zg _ hy,nQ.1 x hx,_,rfl,bB (λh=>!⟨hQ h⟩) λh=>sQ h};have e1:((F.map aj).filter<|NT cs wy ps x).map id=(F.filter λy=>a_ cs wy ps y x).map aj:=iy λr=>rfl;rw[show({F.map aj,λS=>p7 S (.ref f)<|F.map aj}:vW).xs=F.map aj from rfl,e1];have J6:(S'.set p<|.lst<|(F.filter λy=>a_ cs wy ps y x).map aj) f=some (.lst<|F.map aj):=(ag<|fS hF hp).trans hF;have G4:Sub S (S'.set p<|.lst<|(F.filter λy=>a_ cs wy ps y x).map aj):=sb.trans<|.new hp;have G9:(S'.set p<|.lst<|(F.filter λy=>a_ cs wy ps y x).map aj) p=_:=aa;generalize S'.set p (.lst<|(F.filter λy=>a_ cs wy ps y x).map aj)=S2 at J6 G4 G9⊢;refine{_,rfl,.inl {_,G9,?_}};rw[zb];have fl:(F.filter λy=>a_ cs wy ps y x).length<=F.length:=List.length_filter_le _ _;have hfm:(F.map aj).length=F.length:=zb _;refine{_,rfl,{rfl,_,J6},_,rfl,_,rfl,f,_,aj x,_,rfl,rfl,J6,by rw[hfm];exact fl,by rw[hfm];lia,?_};refine{_,_,F.take (F.filter λy=>a_ cs wy ps y x).length++x::F.drop (F.filter λy=>a_ cs wy ps y x).length,rfl,?_,λb c hb=>(ag<|fS hb hf).trans<|G4 b c hb,?_,Ay hg uw hrx pw};rw[aa,zJ,zy,List.map_take,List.map_drop];rw[ht];exact(Ju x F _).trans<|pm.append_right [x]
 rintro aF S' ⟨o4,o5,F,rfl,hF,sb,pm,pw⟩;have pm:F.Perm (rs.take (rs.map aj).length):=pm;rw[zb,List.take_length]at pm;exact fo ⟨o4,o5,F,rfl,hF,sb,pm,pw⟩;rintro aF S' ⟨o4,o5,F,rfl,hF,sb,pm,pw⟩;refine !{S.set f<|.lst<|F.map aj,λb c hb=>?_,q F f pm pw hf};by_cases e:b=f;subst e;rw[aa]at hb;cases hb;exact hF;rw[ag e]at hb;exact sb b c hb
theorem C6(x:Str)(n:Nat):(PySem.Txt.slice x none<|some (n:Int)).cps.toList=x.cps.toList.take n:=by
 have e1:PySem.Builtin.Str.strSliceIndices none (some (n:Int)) 1 x.length=PySem.Builtin.Str.strSliceIndices (some ((0:Nat):Int)) (some ((min n x.length:Nat):Int)) 1 x.length:=by unfold PySem.Builtin.Str.strSliceIndices;have h1:((1:Int)>0)=True:=(by simp);simp only[h1,if_true];have a1:¬((n:Int)<0):=(by lia);have a2:¬(((min n x.length:Nat):Int)<0):=(by lia);have a3:¬(((0:Nat):Int)<0):=(by lia);simp only[a1,a2,a3,if_false];have b1:max 0 (min ((0:Nat):Int) (x.length:Int))=0:=(by lia);have b2:max 0 (min (n:Int) (x.length:Int))=max 0 (min ((min n x.length:Nat):Int) (x.length:Int)):=(by lia);rw[b1,b2]
 have e2:(PySem.Builtin.Str.strSliceIndices none (some (n:Int)) 1 x.length).filterMap (x.cps[·]?)=x.cps.toList.take n:=by rw[e1,StrLaws.sliced_plain x (zY _)<|Nat.min_le_right _ _,List.drop_zero,Nat.sub_zero];by_cases h:n<=x.length;rw[Nat.min_eq_left h];have hl:x.cps.toList.length=x.length:=zT;rw[Nat.min_eq_right<|by lia,List.take_of_length_le<|by lia,List.take_of_length_le<|by lia]
 unfold PySem.Txt.slice;split;{next h=>simp only[zL,beq_iff_eq]at h;rw[e1,StrLaws.strSliceIndices_plain (zY _)<|Nat.min_le_right _ _,zb,List.length_range]at h;have hl:x.cps.toList.length=x.length:=zT;rw[List.take_of_length_le<|by lia]};rw[e2]
theorem w_(x y:Str):decide (PySem.Txt.slice x none (some ((y.length:Nat):Int))=y)=PySem.Txt.startswith x y:=by unfold PySem.Txt.startswith;rw[StrLaws.subAt_eq,List.drop_zero,Nat.zero_add,yw];simp only[decide_eq_true_iff,zL,beq_iff_eq];have hs:=C6 x y.length;constructor;intro h;rw[h]at hs;have hl:x.cps.toList.length=x.length:=zT;have vJ:y.cps.toList.length=y.length:=zT;refine{?_,hs.symm};have:=congrArg List.length hs;rw[zV]at this;lia;rintro⟨_,h⟩;rw[h]at hs;obtain⟨a⟩:=y;generalize hz:PySem.Txt.slice x none _=z at hs⊢;obtain⟨b⟩:=z;exact congrArg Str.mk<|Array.ext' hs
theorem Mt(bs:List Bool):vI (.bl true) ((bs.map D.bl).map kI)=bs.any id:=by unfold vI;rw[List.any_map,List.any_map];refine congrArg (λf=>List.any bs f)<|funext λb=>?_;cases b<;>rfl
theorem JE(bs:List Bool):(!vI (.bl false) ((bs.map D.bl).map kI))=bs.all id:=by unfold vI;rw[List.any_map,List.any_map,List.not_any_eq_all_not];refine congrArg (λf=>List.all bs f)<|funext λb=>?_;cases b<;>rfl
theorem mf(T:Txt w K mg t):∀n,Ok P w base T.ig (3+n) (Jq n)
 |0=>by refine T.ig.F.ok (k:=2) eI (by rintro ds S R Z ⟨_,_,_,e,_⟩;exact by rw[e];rfl) (by rintro eP A outer s H E ds S R Z hr ⟨cs,d,r,e,hg,hs,_⟩;exact hs.elim)
 |n+1=>by
  refine T.ig.F.ok (k:=3+n) eI (by rintro ds S R Z ⟨_,_,_,e,_⟩;rw[e];rfl) ?_;rintro eP A outer s H E ds S R Z hr ⟨cs,d,r,e,hg,hs,hw,q⟩;subst e;refine{_,(sc (cC (i:=3) eI.nd<|ix hr.u (dv 1) di)<|sc (si (bp aL hr.u (dv 3) ds) (s1<|sr db) s0)<|sc (si (bp aL hr.u (dv 3) ds) (s1<|sr<|cm xS hr.u (ix hr.u (dv 2) di)<|ix hr.u (dv 1) di) s0)<|sc (si (bp aL hr.u (dv 3) ds) (s1<|sr<|PC<|aJ T.ig (mf T n) hr<|ac (dv 0)<|ac (ix hr.u (dv 1) di)<|ac (dv 2) an) s0)<|sc (si (twd<|twor (bp aL hr.u (dv 3) ds)<|tw1<|bp aL hr.u (dv 3) ds) (sc (LH (i:=4) (N:=["_law_one","_law_columns_here","_law_row"]) (src:=[none,some 0,some 2]) eI.nd (i6 (ae Cg) ["_law_columns_here","_law_sieve_here","_law_row","_law_word","_law_some","_law_value_here"] rfl rfl<|by trivial) (FP<|ix hr.u (dv 1) di) (mm<|show(["_law_one","_law_columns_here","_law_row"]:List Str).Nodup by trivial) (aO rfl) aP (λ_ _ _ _ _=>px) λ_ _ _ _ _=>(aJ T.ig (mf T n) hr<|ac (dv 1)<|ac (dv 0)<|ac (dv 2) an))<|s1<|sr<|uX<|ix hr.u (cG<|ac (cm xS hr.u db<|dv 4)<|ac (cm T4 hr.u db<|dv 4) an)<|ct mG T.lg gC<|ac (cm aL hr.u (dv 3) ds) an) s0)<|sc (cC (i:=5) eI.nd<|aJ T.Cq (AB T) hr<|ac (dv 0)<|ac (dv 2)<|ac (ix hr.u (dv 1) di) an)<|sc (si (twd<|twor (bp aL hr.u (dv 3) ds)<|tw1<|bp fP hr.u (dv 5) dn) (s1<|sr<|rO (cm aL hr.u (dv 3) ds)<|HS<|cm aL hr.u (dv 5)<|ix hr.u (dv 1) di) s0)<|sc (si (bp aL hr.u (dv 3) ds) (s1<|sr<|cm aL hr.u (sl (dv 5) o0<|o1<|cb bb T.aX aG<|ac (ix hr.u (dv 1) di) an)<|ix hr.u (dv 1) di) s0)<|s1<|sr<|uX<|ix hr.u (cG<|ac (cm n_ hr.u (dv 5)<|ix hr.u (dv 1) di)<|ac (cm mF hr.u (dv 5)<|ix hr.u (dv 1) di) an)<|ct mG T.lg gC<|ac (cm aL hr.u (dv 3) ds) an),?_};rcases hs with (rfl|⟨ks,rfl,Z7,A9⟩|⟨o,c,v,hc,hv,ho,rfl⟩)|⟨e,rfl,he⟩|⟨o,es,ho,rfl,NP,Ro⟩;exact !!!!⟨kQ (by trivial)<|fo q⟩;refine !!!!⟨aV (by trivial) ?_⟩;refine !!⟨kQ (by trivial) !!!!{rfl,?_,?_}⟩;rw[List.all_map];exact yc.mpr λ_ _=>rfl;rw[Av]at q;exact fo q;rw[NQ]at q;obtain⟨_,RV⟩:=iY hg hw hc;unfold Au at q;rcases ho with rfl|⟨nb,rfl|rfl|⟨rfl,hk⟩⟩;rw[if_pos rfl]at q;refine !!!!⟨aV (by trivial) !!⟨aV (by trivial) !!⟨aV (by trivial) !!⟨aV (by trivial) !!⟨aV (by trivial) !!!!{cs,r,c,rfl,hg,hw,hc,?_}⟩⟩⟩⟩⟩;exact !!⟨kQ (by trivial) !!⟨kQ (by trivial) !!!⟨j6 RV.2 hv.2<|fo q⟩⟩⟩;rw[if_neg<|by trivial]at q;refine !!!!⟨aV (by trivial) !!⟨aV (by trivial) !!⟨aV (by trivial) !!⟨aV (by trivial) !!⟨aV (by trivial) !!!!{cs,r,c,rfl,hg,hw,hc,?_}⟩⟩⟩⟩⟩;refine !!⟨aV (by trivial) !!⟨bB (λh=>?_) λh=>?_⟩⟩;rw[if_pos h]at q;exact !!⟨aV (by trivial)<|fo q⟩;rw[if_neg<|by rw[show ah (ai cs r.2 c.1)=false from h];exact zd,if_pos rfl]at q;refine !!⟨aV (by trivial) ?_⟩;rcases j7 RV hv (bt h) nb with⟨i,j,e6,rfl⟩|⟨i,j,e6,rfl⟩;rw[e6]at q⊢;exact !!!!!!{bC,λp hp=>!⟨.inr !{_,_,aa,(show rl _ 1=some _ from rfl),_,.new hp,fo q}⟩};rw[e6]at q⊢;exact !!!!!!{bC,λp hp=>!⟨.inr !{_,_,aa,(show rl _ 1=some _ from rfl),_,.new hp,fo q}⟩};rw[if_neg<|by trivial]at q;refine !!!!⟨aV (by trivial) !!⟨aV (by trivial) !!⟨aV (by trivial) !!⟨aV (by trivial) !!⟨aV (by trivial) !!!!{cs,r,c,rfl,hg,hw,hc,?_}⟩⟩⟩⟩⟩;refine !!⟨aV (by trivial) !!⟨bB (λh=>?_) λh=>?_⟩⟩;rw[if_pos h]at q;exact !!⟨aV (by trivial)<|fo q⟩;rw[if_neg<|by rw[show ah (ai cs r.2 c.1)=false from h];exact zd,if_neg<|by trivial,if_pos rfl]at q;refine !!⟨aV (by trivial) ?_⟩;rcases j7 RV hv (bt h) nb with⟨i,j,e6,rfl⟩|⟨i,j,e6,rfl⟩;rw[e6]at q⊢;exact !!!!!!{bC,λp hp=>!⟨.inr !{_,_,aa,(show rl _ 0=some _ from rfl),_,.new hp,fo q}⟩};rw[e6]at q⊢;exact !!!!!!{bC,λp hp=>!⟨.inr !{_,_,aa,(show rl _ 0=some _ from rfl),_,.new hp,fo q}⟩};rw[if_neg<|by trivial]at q;refine !!!!⟨aV (by trivial) !!⟨aV (by trivial) !!⟨aV (by trivial) !!⟨aV (by trivial) !!⟨aV (by trivial) !!!!{cs,r,c,rfl,hg,hw,hc,?_}⟩⟩⟩⟩⟩;refine !!⟨aV (by trivial) !!⟨bB (λh=>?_) λh=>?_⟩⟩;rw[if_pos h]at q;exact !!⟨aV (by trivial)<|fo q⟩;rw[if_neg<|by rw[show ah (ai cs r.2 c.1)=false from h];exact zd,if_neg<|by trivial,if_neg<|by trivial]at q;have hz:∀z,ai cs r.2 c.1=.str z->z.length<=sizeLine:=λz e=>sm<|(Eu RV (S:=S)).2 z e;have Iw:∀z,v=.str z->z.length<=sizeLine:=λz e=>sm<|(Eu hv (S:=S)).2 z e;rw[hk]at RV hv;obtain⟨i,e6⟩:=qR RV<|bt h;obtain⟨j,rfl⟩:=qR hv nb;have hz:=hz i e6;have Iw:=Iw j rfl;rw[e6]at q⊢;refine !!⟨kQ (by trivial) !!!!{Iw,_,rfl,hz,_,rfl,_,rfl,?_}⟩;show Fo S (R<|.bl<|decide<|PySem.Txt.slice i none (some ((j.length:Nat):Int))=j);rw[w_];exact fo q;rw[Aw]at q;exact !!!!⟨aV (by trivial) !!⟨aV (by trivial) !!⟨kQ (by trivial) !!!!{cs,e,r,rfl,hg,he,hw,_,rfl,fo q}⟩⟩⟩;have hz:es.length<=1000:=by lia
  rcases ho with rfl|rfl;rw[Ax]at q;refine !!!!⟨aV (by trivial) !!⟨aV (by trivial) !!⟨aV (by trivial) !!⟨kQ (by trivial) !!{_,.inl rfl,?_}⟩⟩⟩⟩;refine comp_map (λd=>.bl<|bf cs r n d) trivial hz (λd hd Q hQ=>!!!{cs,d,r,rfl,hg,Ro d hd,hw,hQ}) λp hp=>?_;have em:es.map (λd=>D.bl<|bf cs r n d)=(es.map<|bf cs r n).map D.bl:=by rw[zt];rfl
  rw[show({es,λ_=>True}:vW).xs=es from rfl,em];have L_:(S.set p<|.lst<|(es.map<|bf cs r n).map D.bl) p=_:=aa;have BG:((es.map<|bf cs r n).map D.bl).all i9=true:=by rw[List.all_map];exact yc.mpr λ_ _=>rfl
  refine{_,rfl,.inl {_,L_,rfl,BG,_,rfl,.inl {_,L_,rfl,BG,bC,λp2 gU=>!⟨.inr !{_,_,aa,(show rl _ 1=some _ from rfl),S,(Sub.new hp).trans<|.new gU,?_}⟩}}};refine fo ?_;show R (.bl<|!vI (.bl false) (((es.map<|bf cs r n).map D.bl).map kI)) S;rw[JE,all_map];exact q;rw[Ex]at q;refine !!!!⟨aV (by trivial) !!⟨aV (by trivial) !!⟨aV (by trivial) !!⟨aV (by trivial) !!⟨kQ (by trivial) !!{_,.inl rfl,?_}⟩⟩⟩⟩⟩;refine comp_map (λd=>.bl<|bf cs r n d) trivial hz (λd hd Q hQ=>!!!{cs,d,r,rfl,hg,Ro d hd,hw,hQ}) λp hp=>?_;have em:es.map (λd=>D.bl<|bf cs r n d)=(es.map<|bf cs r n).map D.bl:=by rw[zt];rfl
  rw[show({es,λ_=>True}:vW).xs=es from rfl,em];have L_:(S.set p<|.lst<|(es.map<|bf cs r n).map D.bl) p=_:=aa;have BG:((es.map<|bf cs r n).map D.bl).all i9=true:=by rw[List.all_map];exact yc.mpr λ_ _=>rfl
  refine{_,rfl,.inl {_,L_,rfl,BG,_,rfl,.inl {_,L_,rfl,BG,bC,λp2 gU=>!⟨.inr !{_,_,aa,(show rl _ 0=some _ from rfl),S,(Sub.new hp).trans<|.new gU,?_}⟩}}};refine fo ?_;show R (.bl<|vI (.bl true)<|((es.map<|bf cs r n).map D.bl).map kI) S;rw[Mt,List.any_map];exact q
theorem kd_sub(h:Sub S S')(hk:PF S d k):PF S' d k:=by cases d with|ref a=>(rcases hk with⟨e,ds,q⟩|⟨e,ds,q⟩;exact .inl {e,ds,h _ _ q};exact .inr {e,ds,h _ _ q})|_=>exact hk
theorem Gt.sub(h:Sub S S')(g:Gt S d):Gt S' d:={by obtain⟨k,hk⟩:=g.1;exact{k,kd_sub h hk},g.2}
theorem QI:Gt S (.tup ws):={{.tup,rfl},λ_=>nofun}
theorem Mu(h:ws.length<=1000)(g:∀v∈ws,Gt S v):RP S (.tup ws):={QI,λNM e=>by cases e;exact⟨h,g⟩}
theorem gt_int:Gt S (.int i):={{.int,rfl},λ_=>nofun}
theorem EF(h:z.cps.size<=1000):Gt S (.str z):={{.str,rfl},λz' e=>by cases e;exact h}
theorem JF(h:dh d=true):Gt S d:=by cases d with|av=>exact wV|int i=>exact gt_int|str z=>have h:(decide (z.cps.size<=40)&&PyData.strOk z)=true:=h;rw[zL]at h;have:=zB h.1;exact EF (by lia)|_=>cases h
theorem sZ:∀{cs:List (Str×Str)}{ws:List D},Paired rel cs ws->ws.length=cs.length|_,_,.nil=>rfl|_,_,.cons _ t=>by rw[zN,zN,sZ t]
theorem Wg.len(h:Wg cs ws):ws.length=cs.length:=sZ h
theorem Wg.QJ(h:Wg cs ws):m7 cs (.tup ws)=true:=by show(decide (ws.length=cs.length)&&(List.zipWith (λc v=>jR c.2 v) cs ws).all id)=true;rw[zw h.len,ya];unfold Wg at h;induction h with|nil=>rfl|cons r t ih=>rw[List.zipWith_cons_cons,List.all_cons,ih];show(id (jR _ _)&&true)=true;rw[show id (jR _ _)=true from r.1];rfl
theorem Wg.gts(h:Wg cs ws)(hc:cs.length<=8):RP S (.tup ws):=Mu (by rw[h.len];lia) λv hv=>JF<|h.all v hv
theorem Mv(hg:Gd cs)(hN:∀c∈cs,c.1∈Bb):∀d∈cs.map aw,Ly S 60 d:=λd hd=>by obtain⟨c,hc,rfl⟩:=ze.mp hd;refine(Ly.tup (n:=0) λx hx=>?_).le (by decide);have hx:x∈[D.str c.1,D.str c.2]:=hx;simp only[zj,zI,or_false]at hx;rcases hx with rfl|rfl;exact Ly.str (Jg _<|hN c hc).2;rcases (hg.2.2 c hc).2 with e|e<;>rw[e]<;>exact Ly.str (by trivial)
theorem Mw{n a b tn:Nat}(ha:a<n)(hb:b<n)(h:(a+tn)%n=(b+tn)%n):a=b:=by rcases Nat.lt_trichotomy a b with l|l|l;have:=Nat.sub_mod_eq_zero_of_mod_eq h.symm;rw[show b+tn-(a+tn)=b-a by lia,Nat.mod_eq_of_lt<|by lia]at this;lia;exact l;have:=Nat.sub_mod_eq_zero_of_mod_eq h;rw[show a+tn-(b+tn)=a-b by lia,Nat.mod_eq_of_lt<|by lia]at this;lia
noncomputable def s9(cs:List<|Str×Str)(tn k:Nat):Str:=(cs.getD ((k+tn)%cs.length) ("","")).1
theorem AD(h:0<cs.length):∃c∈cs,cs[(k+tn)%cs.length]?=some c/\c.1=s9 cs tn k:=by have eN:(k+tn)%cs.length<cs.length:=Nat.mod_lt _ h;refine{cs[(k+tn)%cs.length],List.getElem_mem eN,zh eN,?_};unfold s9;rw[zD,zh eN];rfl
theorem AE{cs:List<|Str×Str}(hg:(cs.map Prod.fst).Nodup){tn i:Nat}(hi:i<=cs.length):((List.range i).map<|s9 cs tn).Nodup:=by
 refine List.pairwise_map.mpr<|List.nodup_range.imp_of_mem λ{a b} ha hb n e=>n ?_;have ha:=zQ.mp ha;have hb:=zQ.mp hb;have h0:0<cs.length:=by lia
 have la:(a+tn)%cs.length<cs.length:=Nat.mod_lt _ h0;have lb:(b+tn)%cs.length<cs.length:=Nat.mod_lt _ h0;unfold s9 at e;rw[zD,zh la,zD,zh lb]at e;have e:(cs[(a+tn)%cs.length]).1=(cs[(b+tn)%cs.length]).1:=e;have e2:(cs.map Prod.fst)[(a+tn)%cs.length]'(by rw[zb];exact la)=(cs.map Prod.fst)[(b+tn)%cs.length]'(by rw[zb];exact lb):=by rw[List.getElem_map,List.getElem_map];exact e
 exact Mw (n:=cs.length) (by lia) (by lia)<|(List.getElem_inj hg).mp e2
inductive vo (ds:List D) (S:ay) (R:KD) (Z:KX):Prop where
 |mk (l cs) (h0:ds=[.ref l,.tup<|cs.map aw]) (h1:Gd cs) (h2:S l=some .well) (h3:∀(ps:List Part)(wy:Str),Og cs ps wy->R (bU ps wy) S):vo ds S R Z
theorem JG(T:Txt w K mg t):Ok P w base T.wA 2 vo:=by
 refine T.wA.F.ck fG ?_;rintro _ _ _ _ _ _ _ S R Z hr ⟨l,cs,e,hg,hw,q⟩;subst e;have h8:=hg.1;have Fy:(cs.map aw).length=cs.length:=zb _;refine{_,(sc (cC (i:=2) fG.nd<|aJ T.aY (bL T) hr<|ac (dv 0)<|ac di an)<|sc (cC (i:=3) fG.nd<|cG an)<|sc (xW<|FR (PQ T.iO<|ac (cb Nk T.NI HP<|ac (cb bb T.aX aG<|ac (dv 1) an)<|ac (uX<|ix hr.u (cG<|ac di<|ac di<|ac di<|ac di an)<|aJ T.aY (bL T) hr<|ac (dv 0)<|ac di an) an) an) (gn (i:=4) fG.nd)<|sc (cC (i:=5) fG.nd<|ix hr.u (ix hr.u (dv 1)<|bo kZ hr.u (bo bM hr.u (dv 4)<|dv 2)<|cb bb T.aX aG<|ac (dv 1) an) di)<|s1<|se<|bm zR yf yg du (dv 3)<|ac (cy<|ac (dv 5)<|ac (uX<|ix hr.u (cG<|ac ds<|ac ds an)<|aJ T.aY (bL T) hr<|ac (dv 0)<|ac di an)<|ac (uX<|ix hr.u (cG<|ac ds<|ac ds an)<|aJ T.aY (bL T) hr<|ac (dv 0)<|ac di an) an) an)<|s1<|sr<|cy<|ac (ct fU T.bu aW<|ac (dv 3) an)<|ac (uX<|ix hr.u (cG<|ac ds<|ac ds an)<|aJ T.aY (bL T) hr<|ac (dv 0)<|ac di an) an),?_};refine !{l,_,rfl,(by decide),(by decide),hw,λtr ht0 ht1=>{Ag,λlp hlp=>?_}};obtain⟨tn,rfl⟩:∃n:Nat,tr=(n:Int):={tr.toNat,by lia};have RW:l≠lp:=fS hw hlp;refine{λaF S'=>∃(o4 o5:Option D)(ps:List Part)(i:Nat),aF=[some<|.ref l,some<|.tup<|cs.map aw,some<|.int tn,some<|.ref lp,o4,o5]/\i<=cs.length/\ps.map Prod.fst=(List.range i).map (s9 cs tn)/\(∀p∈ps,l_ p.2.1=true/\CU p.2.2=true)/\S'=S.set lp (.lst<|ps.map p3),?_,?_};refine !!{qo,λp hp=>!{l,_,rfl,(by decide),(by decide),wl (wl hw hlp) hp,λn4 WS ZY=>cF WS ZY hp λd hd=>?_}};obtain⟨m,rfl⟩:∃m:Nat,d=.int m:=by have hd:d∈[D.int 1,.int 2,.int 0,.int 8]:=hd;simp only[zj,zI,or_false]at hd;rcases hd with h|h|h|h;exact{1,h};exact{2,h};exact{0,h};exact{8,h}
 obtain⟨k,hk,ek⟩:∃k:Nat,k<=cs.length/\(if decide ((m:Int)<(((cs.map aw).length:Nat):Int))=true then (m:Int) else (((cs.map aw).length:Nat):Int))=(k:Int):=by rw[Fy];by_cases h:(m:Int)<((cs.length:Nat):Int);exact{m,by lia,by rw[zw h,if_pos rfl]};exact{cs.length,zo _,by rw[zu h,if_neg zd]}
 refine{_,_,rfl,k,congrArg (λi=>[D.int i]) ek,by lia,by lia,?_};refine{λi aF S'=>∃(o4 o5:Option D)(ps:List Part),aF=[some<|.ref l,some<|.tup<|cs.map aw,some<|.int tn,some<|.ref lp,o4,o5]/\ps.map Prod.fst=(List.range i).map (s9 cs tn)/\(∀p∈ps,l_ p.2.1=true/\CU p.2.2=true)/\S'=S.set lp (.lst<|ps.map p3),{none,none,[],rfl,rfl,λ_ h=>(nomatch h),rfl},λ_ _ _ _=>trivial,?_,?_};rintro i d aF S' hd ⟨o4,o5,ps,rfl,hn,eC,rfl⟩;obtain⟨hi,rfl⟩:=g_ hd;have hi:i<k:=by simpa using hi
 have h0:0<cs.length:=by lia
 have dO:ps.length=i:=by have:=congrArg List.length hn;simpa using this
 obtain⟨c,hc,ec,ec1⟩:=AD (cs:=cs) (tn:=tn) (k:=i) h0;have qH:(S.set lp<|.lst<|ps.map p3) l=some .well:=(ag RW).trans hw;have vJ:(S.set lp<|.lst<|ps.map p3) lp=some (.lst<|ps.map p3):=aa;have eat:rl (cs.map aw) (((0:Int)+(i:Nat)+(tn:Nat))%(((cs.map aw).length:Nat):Int))=some (aw c):=by rw[Fy,show((0:Int)+(i:Nat)+(tn:Nat))%((cs.length:Nat):Int)=(((i+tn)%cs.length:Nat):Int) by rw[Int.zero_add,Int.natCast_emod,Int.natCast_add]];refine d_ ?_;rw[zp,ec];rfl
 refine !!!!!{(by rw[Fy];lia),_,eat,_,rfl,?_};refine{_,rfl,{rfl,_,vJ},_,rfl,bC,λp hp=>!{l,_,rfl,(by decide),(by decide),wl qH hp,λn2 QA Jl=>cF QA Jl hp λd hd=>?_}};obtain⟨wy,rfl,J_⟩:∃wy:Str,d=.str wy/\l_ wy=true:=by have hd:d∈[D.str "up",.str "down"]:=hd;simp only[zj,zI,or_false]at hd;rcases hd with h|h;exact{_,h,by trivial};exact{_,h,by trivial}
 refine{bC,λp hp=>!{l,_,rfl,(by decide),(by decide),wl qH hp,λn2 QA Jl=>cF QA Jl hp λd hd=>?_}};obtain⟨en,rfl,A6⟩:∃en:Str,d=.str en/\CU en=true:=by have hd:d∈[D.str "first",.str "last"]:=hd;simp only[zj,zI,or_false]at hd;rcases hd with h|h;exact{_,h,by trivial};exact{_,h,by trivial}
 refine{gJ,lp,_,_,rfl,rfl,vJ,bg<|by rw[zb];lia,?_};refine{_,_,ps++[(c.1,wy,en)],rfl,?_,λx hx=>?_,?_};rw[zJ,hn,List.range_succ,zJ];show _=_++[s9 cs tn i];rw[<-ec1];rfl;rcases zM.mp hx with h|h;exact eC x h;rw[zE.mp h];exact⟨J_,A6⟩;rw[dQ,zJ];rfl;rintro aF S' ⟨o4,o5,ps,rfl,hn,eC,rfl⟩;rw[dy]at hn;exact fo {o4,o5,ps,k,rfl,hk,by simpa using hn,eC,rfl};rintro aF S' ⟨o4,o5,ps,i,rfl,hi,hn,hk,rfl⟩;have qH:(S.set lp<|.lst<|ps.map p3) l=some .well:=(ag RW).trans hw;have vJ:(S.set lp<|.lst<|ps.map p3) lp=some (.lst<|ps.map p3):=aa;refine !{_,_,rfl,.inl vJ,bC,λp hp=>!{l,_,rfl,(by decide),(by decide),wl qH hp,λn2 QA Jl=>cF QA Jl hp λd hd=>?_}};obtain⟨wy,rfl,J_⟩:∃wy:Str,d=.str wy/\l_ wy=true:=by have hd:d∈[D.str "up",.str "down"]:=hd;simp only[zj,zI,or_false]at hd;rcases hd with h|h;exact{_,h,by trivial};exact{_,h,by trivial}
 have dO:ps.length=i:=by have:=congrArg List.length hn;simpa using this
 have pin:Pin cs ps:=λx hx=>by have:x.1∈ps.map Prod.fst:=ze.mpr ⟨x,hx,rfl⟩;rw[hn]at this;obtain⟨k,hk,e⟩:=ze.mp this;have:=zQ.mp hk;obtain⟨c,hc,_,ec⟩:=AD (cs:=cs) (tn:=tn) (k:=k) (by lia);exact{c,hc,ec.trans e}
 have wsz:∀z,l_ z=true->z.cps.size<=1000:=λz h=>by rcases w9 h with rfl|rfl<;>decide +kernel
 have esz:∀z,CU z=true->z.cps.size<=1000:=λz h=>by unfold CU at h;simp only[Bool.or_eq_true,yj]at h;rcases h with rfl|rfl<;>decide +kernel
 refine{bC,S,.new hlp,q ps wy {pin,λx hx=>(hk x hx).1,J_,?_,λx hx=>?_}};unfold CV;rw[zw<|show ps.length<=8 by lia,ya,zL,zL];refine{yc.mpr λx hx=>?_,zw<|by rw[hn];exact AE hg.2.1 hi,J_};obtain⟨c,hc,ec⟩:=pin x hx;unfold gs;rw[zw<|ze.mpr ⟨c,hc,ec⟩,(hk x hx).1,(hk x hx).2];rfl;obtain⟨c,hc,ec⟩:=pin x hx;exact{by rw[<-ec];exact oH (hg.2.2 c hc).1,wsz _ (hk x hx).1,esz _ (hk x hx).2}
def aae(n:Nat):iJ:=λds S R _=>∃l cs m,n=m+1/\ds=[.ref l,.tup<|cs.map aw,.int ((m:Nat):Int)]/\Gd cs/\(∀c∈cs,c.1∈Bb)/\S l=some .well/\∀d,Sg cs n d->R d S
theorem keys_str:(∀d∈out,∃z∈KS,d=.str z)->∃ks:List Str,out=ks.map D.str/\∀k∈ks,k∈KS:=by induction out with|nil=>exact λ_=>{[],rfl,λ_ h=>(nomatch h)}|cons x l ih=>intro h;obtain⟨z,hz,e⟩:=h x zr;obtain⟨ks,e2,hk⟩:=ih λd hd=>h d<|zg _ hd;exact{z::ks,by rw[e,e2];rfl,λk HB=>(zj.mp HB).elim (λe=>e ▸ hz)<|hk k}
theorem mh:∀{xs out:List D},Paired rel xs out->∀v∈out,∃x,rel x v|_,_,.nil,_,h=>(nomatch h)|_,_,.cons r t,v,h=>by rcases zj.mp h with rfl|h;exact{_,r};exact mh t v h
theorem oN(T:Txt w K mg t):∀n,Ok P w base T.kx (3+n) (aae n)
 |0=>by refine T.kx.F.ok (k:=2) df (by rintro ds S R Z ⟨_,_,_,_,e,_⟩;exact by rw[e];rfl) (by rintro eP A outer s H E ds S R Z hr ⟨_,_,m,e,_⟩;exact by cases e)
 |n+1=>by
  refine T.kx.F.ok (k:=3+n) df (by rintro ds S R Z ⟨_,_,_,_,e,_⟩;rw[e];rfl) ?_;rintro _ _ _ _ _ _ _ S R Z hr ⟨l,cs,m,em,e,hg,hN,hw,q⟩;subst e;cases em;have Fy:(cs.map aw).length=cs.length:=zb _;have h8:=hg.1;refine{_,(sc (cC (i:=3) df.nd<|aJ T.aY (bL T) hr<|ac (dv 0)<|ac (bo bM hr.u di<|bo kY hr.u di<|ct mG T.lg gC<|ac (cm n_ hr.u (dv 2) di) an) an)<|sc (si (twd<|twor (bp aL hr.u (dv 3) di)<|tw1<|twd<|twand (bp aL hr.u (dv 1)<|cy an)<|tw1<|bp mF hr.u (dv 3) di) (s1<|sr<|cy<|ac ds an) s0)<|sc (si (bp aL hr.u (dv 3) di) (s1<|sr<|cy<|ac ds<|ac (ct fU T.bu aW<|ac (p_ (N:=["_law_k","_law_well_here"]) (src:=[none,some 0]) (i6 (ae u4) ["_law_well_here","_law_columns_here","_law_deep","_law_way","_law_some","_law_name","_law_kind","_law_value_here"] rfl rfl<|by trivial) (PQ T.iO<|ac (aJ T.aY (bL T) hr<|ac (dv 0)<|ac di an) an) (mm<|show(["_law_k","_law_well_here"]:List Str).Nodup by trivial) (aO rfl) aP (λ_ _ _ _ _=>px) λ_ _ _ _ _=>(aJ T.z_ (CO T) hr<|ac (dv 1) an)) an) an) s0)<|sc (si (bp aL hr.u (dv 3) di) (s1<|sr<|cy<|ac ds<|ac (aJ T.kx (oN T n) hr<|ac (dv 0)<|ac (dv 1)<|ac (bo g7 hr.u (dv 2) di) an) an) s0)<|sc (si (bp n_ hr.u (dv 3) di) (sc (LH (i:=4) (N:=["_law_k","_law_well_here","_law_columns_here","_law_deep"]) (src:=[none,some 0,some 1,some 2]) df.nd (i6 (ae u4) ["_law_well_here","_law_columns_here","_law_deep","_law_way","_law_some","_law_name","_law_kind","_law_value_here"] rfl rfl<|by trivial) (PQ T.iO<|ac (aJ T.aY (bL T) hr<|ac (dv 0)<|ac di an) an) (mm<|show(["_law_k","_law_well_here","_law_columns_here","_law_deep"]:List Str).Nodup by trivial) (aO rfl) aP (λ_ _ _ _ _=>px) λ_ _ _ _ _=>(aJ T.kx (oN T n) hr<|ac (dv 1)<|ac (dv 2)<|ac (bo g7 hr.u (dv 3) di) an))<|s1<|sr<|cy<|ac (uX<|ix hr.u (cG<|ac ds<|ac ds an)<|bo g7 hr.u (dv 3) di)<|ac (ct fU T.bu aW<|ac (dv 4) an) an) s0)<|sc (sa (ix hr.u (dv 1)<|aJ T.aY (bL T) hr<|ac (dv 0)<|ac (cb bb T.aX aG<|ac (dv 1) an) an)<|gt (n:=2)<|gc (gn (i:=5) df.nd)<|gc (gn (i:=6) df.nd) g0)<|sc (cC (i:=7) df.nd<|aJ T.mV (sR T) hr<|ac (dv 0)<|ac (dv 6) an)<|sc (si (twd<|twor (bp aL hr.u (dv 3) di)<|tw1<|bp fP hr.u (dv 7) dn) (s1<|sr<|cy<|ac ds<|ac (dv 5)<|ac (dv 7) an) s0)<|sc (si (twd<|twand (bp aL hr.u (dv 3) di)<|tw1<|bp aL hr.u (dv 6) ds) (s1<|sr<|cy<|ac ds<|ac (dv 5)<|ac (dv 7) an) s0)<|s1<|sr<|cy<|ac (uX<|ix hr.u (cG<|ac ds<|ac ds an)<|bo kZ hr.u (dv 3) di)<|ac (dv 5)<|ac (dv 7) an),?_};obtain⟨x,ex,hx⟩:∃x:Int,(if (λi j:Int=>decide<|j<i) (↑n) 0=true then (1:Int) else 0)=x/\(x=0\/(x=1/\0<n)):=by by_cases e:(0:Int)<(n:Int);exact{1,if_pos<|zw e,.inr {rfl,by lia}};exact{0,if_neg<|by rw[show(λi j:Int=>decide<|j<i) (↑n) 0=false from zu e];exact zd,.inl rfl}
  refine !!⟨.inr !⟨?_⟩⟩;rw[ex];refine{.inl {by decide,by decide},l,_,rfl,by lia,wZ (by lia)<|by lia,hw,λway h0 h1=>?_};have h9:way<9:=by lia
  have NU:6<=way->0<n:=λh=>by lia
  have NV:Fo S (R<|.tup [.str "every"]):=fo<|q _<|.inl<|.inl rfl;have lys:∀d∈cs.map aw,Ly S 60 d:=Mv hg hN;refine !!⟨bB (λh=>⟨sI,NV⟩) λh=>!{Ag,Mj lys !⟨bB (λh2=>!!⟨bB (λh3=>⟨sI,NV⟩) λh3=>?_⟩) λh2=>?_⟩}⟩
  all_goals
   have Ba:way<5->0<cs.length:=by
    first
    |exact λh=>absurd h (zO h3)
    |exact λ_=>List.length_pos_iff.mpr λe=>by subst e;cases h2
   have hw0:way≠0:=zO h
   refine !!⟨bB (λh5=>?_) λh5=>?_⟩
   ·refine !{l,_,rfl,(by decide),(by decide),hw,λn5 h50 h51=>{n5,rfl,by lia,by lia,?_}}
    refine fI (λ_ v=>∃z∈KS,v=.str z) trivial (by rw[dy];lia) (λd hd Q hQ=>?_) λout ho p hp=>?_
    ·exact !{l,[],rfl,rfl,hw,by rintro d ⟨z,hz,e⟩;exact hQ d {z,Al hz,e}}
    ·obtain⟨ks,rfl,A9⟩:=keys_str λd hd=>(mh ho d hd).elim λ_ h=>h
     have hkl:ks.length<=8:=by
      have:=yG ho
      rw[dy,zb]at this
      lia
     exact{_,_,rfl,.inl aa,bC,S,.new hp,q _<|.inl<|.inr<|.inl ⟨ks,rfl,hkl,A9⟩}
   have hw5:way≠5:=zO h5
   refine !!⟨bB (λh6=>?_) λh6=>?_⟩
   ·have h6:way=6:=zB h6
    have hn:=NU<|by lia
    refine !!!{l,cs,n-1,by lia,?_,hg,hN,hw,λd hd=>{bC,fo<|q _<|.inr<|.inl ⟨d,rfl,hd⟩}}
    show[D.ref l,.tup<|cs.map aw,.int<|(n:Int)-1]=[_,_,D.int ((n-1:Nat):Int)]
    rw[show((n-1:Nat):Int)=(n:Int)-1 by lia]
   have hw6:way≠6:=zO h6
   refine !!⟨bB (λh7=>?_) λh7=>?_⟩
   ·have h7:6<way:=zB h7
    have hn:=NU<|by lia
    refine !{l,_,rfl,(by decide),(by decide),hw,λn3 h30 WW=>{n3,rfl,by lia,by lia,?_}}
    refine fI (λ_ v=>Sg cs n v) trivial (by rw[dy];lia) (λd hd Q hQ=>?_) λout ho p hp=>?_
    ·refine !!!{l,cs,n-1,by lia,?_,hg,hN,hw,λd hd=>hQ d hd}
     show[D.ref l,.tup<|cs.map aw,.int<|(n:Int)-1]=[_,_,D.int ((n-1:Nat):Int)]
     rw[show((n-1:Nat):Int)=(n:Int)-1 by lia]
    ·have TC:out.length<=2:=by
      have:=yG ho
      rw[dy]at this
      lia
     refine{bC,λp2 gU=>!⟨cF (by lia) (by show way-7<2;lia) gU λd hd=>?_⟩}
     obtain⟨o,rfl,hoo⟩:∃o:Str,d=.str o/\(o ="and"\/o ="or"):=by
      have hd:d∈[D.str "and",.str "or"]:=hd
      simp only[zj,zI,or_false]at hd
      rcases hd with h|h
      ·exact{_,h,.inl rfl}
      ·exact{_,h,.inr rfl}
     exact !{_,_,rfl,.inl aa,bC,S,.new hp,q _<|.inr<|.inr {o,out,hoo,rfl,TC,λe he=>(mh ho e he).elim λ_ h=>h}}
   have h7:¬6<way:=zO h7
   have xK:=Ba<|by lia
   refine !!!!{l,_,rfl,by lia,wZ (by lia)<|by lia,hw,λj hj0 hj1=>?_}
   obtain⟨jn,rfl⟩:∃jn:Nat,j=(jn:Int):={j.toNat,by lia}
   have hjn:jn<cs.length:=by lia
   have ec:cs[jn]?=some cs[jn]:=zh hjn
   have hc:cs[jn]∈cs:=List.getElem_mem hjn
   generalize cs[jn]=c at ec hc
   refine{aw c,d_<|by rw[zp,ec];rfl,_,rfl,rfl,_,_,rfl,_,_,rfl,rfl,?_}
   refine !!{l,[.str c.2],rfl,?_,hw,λv hv=>?_}
   ·rcases (hg.2.2 c hc).2 with e|e<;>rw[e]
    ·exact .inl rfl
    ·exact .inr rfl
   obtain⟨k,ek,hv⟩:=hv
   cases ek
   have QD:Fo S (R<|.tup [.str "is",.str c.1,v]):=fo<|q _<|.inl<|.inr<|.inr {"is",c,v,hc,hv,.inl rfl,rfl}
   refine !!⟨bB (λh8=>!!⟨gJ,QD⟩) λh8=>!!⟨bB (λh9=>!!⟨gJ,QD⟩) λh9=>?_⟩⟩
   have WU:v≠.av:=bt h9
   refine !!⟨bB (λh10=>!!⟨bB (λh11=>?_) λh11=>?_⟩) λh10=>?_⟩
   ·exact !!{gJ,fo<|q _<|.inl<|.inr<|.inr {"begins",c,v,hc,hv,.inr {WU,.inr<|.inr {rfl,zB h11}},rfl}}
   all_goals
    refine{bC,λp hp=>!{(by decide),cF (by lia) (by show way%2<2;lia) hp λd hd=>?_}}
    obtain⟨o,rfl,hoo⟩:∃o:Str,d=.str o/\(o ="below"\/o ="above"):=by
     have hd:d∈[D.str "below",.str "above"]:=hd
     simp only[zj,zI,or_false]at hd
     rcases hd with h|h
     ·exact{_,h,.inl rfl}
     ·exact{_,h,.inr rfl}
    exact !!{gJ,fo<|q _<|.inl<|.inr<|.inr {o,c,v,hc,hv,.inr {WU,hoo.elim .inl λh=>.inr<|.inl h},rfl}}
theorem EG:∀{l:List Str}{p:Str},PyProof.Rows.risingS p l=true->(p::l).Pairwise λa b=>a.cps.toList<=b.cps.toList|[],p,_=>List.pairwise_singleton _ _|x::r,p,h=>by have h:(!PySem.Spec.ltCps x.cps.toList p.cps.toList&&PyProof.Rows.risingS x r)=true:=h;rw[zL,PyProof.Rows.ltCps_eq,Bool.not_eq_true',decide_eq_false_iff_not]at h;have ih:=EG h.2;have hpx:p.cps.toList<=x.cps.toList:=List.not_lt.mp h.1;refine List.pairwise_cons.mpr {λy hy=>?_,ih};rcases zj.mp hy with e|hy;rw[e];exact hpx;exact List.le_trans hpx<|(List.pairwise_cons.mp ih).1 y hy
theorem vp(h:PyProof.Rows.sortedS l=true):l.Pairwise λa b=>a.cps.toList<=b.cps.toList:=by cases l with|nil=>exact List.Pairwise.nil|cons x r=>exact EG h
theorem Mx{a b:Str}(h:a.cps.toList=b.cps.toList):a=b:=by obtain⟨⟨x⟩⟩:=a;obtain⟨⟨y⟩⟩:=b;cases h;rfl
theorem GJ{l m:List Str}(hl:l.Pairwise λa b=>a.cps.toList<=b.cps.toList)(hm:m.Pairwise λa b=>a.cps.toList<=b.cps.toList)(nl:l.Nodup)(nm:m.Nodup)(h:∀z,z∈l↔z∈m):l=m:=List.Perm.eq_of_pairwise (λa b _ _ h1 h2=>Mx<|List.le_antisymm h1 h2) hl hm<|(List.perm_ext_iff_of_nodup nl nm).mpr h
def TI(l:List Std)(n:Nat):Prop:=∀s∈l,s.b<=n/\∀m,s.e=some m->m<n
noncomputable def Mz(s:Std):D:=match s.e with|none=>.tup s.ws|some _=>.av
noncomputable def cur(l:List Std):D:=match l.getLast? with|none=>.av|some s=>Mz s
theorem j8(r:List Std)(s:Std):cur (r++[s])=Mz s:=by unfold cur;rw[List.getLast?_concat]
theorem QK(h:TI l n):wt l n=cur l:=by by_cases e:l=[];subst e;rfl;obtain⟨r,s,rfl⟩:=kB e;rw[j8];unfold wt;rw[List.reverse_append];obtain⟨h1,h2⟩:=h s<|zC _<|zE.mpr rfl;show I_ (s::r.reverse) (n:Int)=_;unfold I_ Mz;rw[if_pos<|show(s.b:Int)<=(n:Int) by lia];cases q:s.e with|none=>rfl|some m=>have:=h2 m q;exact if_neg<|show ¬(n:Int)<=(m:Int) by lia
theorem TI.up(h:TI l n):TI l (n+1):=λs hs=>{Nat.le_succ_of_le (h s hs).1,λm e=>Nat.lt_succ_of_lt<|(h s hs).2 m e}
theorem TI.close(h:TI l n):TI (iV n l) (n+1):=by by_cases e:l=[];subst e;exact λs hs=>(nomatch hs);obtain⟨r,s,rfl⟩:=kB e;rw[eJ];intro x hx;rcases zM.mp hx with hx|hx;exact h.up x<|ye _ hx;rw[zE.mp hx];exact{Nat.le_succ_of_le (h s<|zC _<|zE.mpr rfl).1,λm e=>by cases e;exact yH _}
theorem TI.beg(h:TI l<|n+1):TI (l++[Std.mk (n+1) none ws]) (n+1):=λs hs=>by rcases zM.mp hs with hs|hs;exact h s hs;rw[zE.mp hs];exact{zo _,λm e=>(by cases e)}
theorem GK:cur (iV n l)=.av:=by by_cases e:l=[];subst e;rfl;obtain⟨r,s,rfl⟩:=kB e;rw[eJ,j8];rfl
noncomputable def oO(kn:Kn)(z:Str):D:=match gr kn z with|none=>.av|some ws=>.tup ws
structure RI(rs:uo)(n:Nat)(kn:Kn):Prop where
 ti:∀z,TI ((lu rs z).getD []) n
 eq:∀z,cur ((lu rs z).getD [])=oO kn z
 ks:∀r∈rs,r.1∈KS
theorem MA(h:r∈CI rs z s):r.1=z\/∃r'∈rs,r'.1=r.1:=by unfold CI at h;split at h;obtain⟨r0,xp,e⟩:=ze.mp h;refine .inr {r0,xp,?_};subst e;split<;>rfl;rcases zM.mp h with h|h;exact .inr ⟨r,h,rfl⟩;rw[zE.mp h];exact .inl rfl
theorem JH(h:∀r∈rs,r.1∈KS)(hz:z∈KS):∀r∈CI rs z s,r.1∈KS:=λr hr=>by rcases MA hr with e|⟨r',nQ,e⟩;rw[e];exact hz;rw[<-e];exact h r' nQ
theorem EH:oO (nq kn z ws) k=if k=z then .tup ws else oO kn k:=by unfold oO;rw[Mh];by_cases h:k=z;rw[if_pos h,if_pos h];rw[if_neg h,if_neg h]
theorem EI:oO (uu kn z) k=if k=z then .av else oO kn k:=by unfold oO;rw[Mi];by_cases h:k=z;rw[if_pos h,if_pos h];rw[if_neg h,if_neg h]
theorem RI.nil:RI [] 0 []:={λz s hs=>(nomatch hs),λz=>rfl,λr hr=>(nomatch hr)}
theorem RI.put(h:RI rs n kn)(hz:z∈KS):RI (ur rs z (n+1) ws) (n+1) (nq kn z ws):=by refine{λk=>?_,λk=>?_,JH h.ks hz};unfold ur;rw[jW];by_cases e:k=z;rw[if_pos e];exact(h.ti z).up.beg;rw[if_neg e];exact(h.ti k).up;unfold ur;rw[jW,EH];by_cases e:k=z;rw[if_pos e,if_pos e];exact j8 _ _;rw[if_neg e,if_neg e];exact h.eq k
theorem RI.del(h:RI rs n kn)(hz:z∈KS):RI (oJ rs z n) (n+1) (uu kn z):=by refine{λk=>?_,λk=>?_,JH h.ks hz};unfold oJ;rw[jW];by_cases e:k=z;rw[if_pos e];exact(h.ti z).close;rw[if_neg e];exact(h.ti k).up;unfold oJ;rw[jW,EI];by_cases e:k=z;rw[if_pos e,if_pos e];exact GK;rw[if_neg e,if_neg e];exact h.eq k
theorem RI.change(h:RI rs n kn)(hz:z∈KS):RI (ur (oJ rs z n) z (n+1) ws) (n+1) (nq kn z ws):=by have h1:=h.del hz;refine{λk=>?_,λk=>?_,JH h1.ks hz};unfold ur;rw[jW];by_cases e:k=z;rw[if_pos e];exact(h1.ti z).beg;rw[if_neg e];exact h1.ti k;unfold ur;rw[jW,EH];by_cases e:k=z;rw[if_pos e,if_pos e];exact j8 _ _;rw[if_neg e,if_neg e,h1.eq k,EI,if_neg e]
theorem RI.wt{rs:uo}{n:Nat}{kn:Kn}(h:RI rs n kn)(z:Str):wt ((lu rs z).getD []) n=oO kn z:=by rw[QK<|h.ti z,h.eq]
theorem RI.A_(h:RI rs n kn)(hz:z∈KS):A_ rs (.str z) n=oO kn z:=by rw[wW (gM z hz).1,h.wt]
theorem vq(kn:Kn)(z:Str):ah (oO kn z)=!(gr kn z).isSome:=by unfold oO;cases gr kn z<;>rfl
theorem NW(h:cA C S a F cs dl rs):(rs.map (·.1)).Nodup:=by obtain⟨ld,lr,ra,h,_,rfl⟩:=h;unfold iq;rw[zt];exact h.kn
theorem RI.len(h:RI rs n kn)(hs:cA C S a F cs dl rs):rs.length<=50:=by
 have:=sub_len (NW hs) (m:=KS) λx hx=>by obtain⟨r,hr,rfl⟩:=ze.mp hx;exact h.ks r hr
 rw[zb]at this;exact this
noncomputable def QL(kn:Kn)(ss:List Str):List D:=ss.map λz=>.tup [.str z,oO kn z]
theorem Vs(h:lu rs k=some s):k∈rs.map (·.1):=by induction rs with|nil=>(cases h)|cons r rs ih=>rw[fc]at h;rw[zy];by_cases e:r.1=k;exact zj.mpr<|.inl e.symm;rw[if_neg e]at h;exact zg _<|ih h
noncomputable def oP(k:Nat)(l:List Std):List Std:=match l.getLast? with|none=>l|some s=>match s.e with|none=>iV k l|some _=>l
theorem pR(h:s.e=none):oP k (r++[s])=r++[Std.mk s.b (some k) s.ws]:=by unfold oP;rw[List.getLast?_concat];dsimp only;rw[h];exact eJ _ _ _
theorem AF(h:s.e=some n):oP k (r++[s])=r++[s]:=by unfold oP;rw[List.getLast?_concat];dsimp only;rw[h]
theorem MB{s:Std}{r:List Std}{m:Nat}(h:m<s.b):I_ (s::r) m=I_ r m:=by show(if (s.b:Int)<=(m:Int) then _ else I_ r m)=_;rw[if_neg<|by lia]
theorem GL(hm:m<=n):wt (oP n l) m=wt l m:=by by_cases e:l=[];subst e;rfl;obtain⟨r,s,rfl⟩:=kB e;cases q:s.e with|some k=>rw[AF q]|none=>rw[pR q];unfold wt;rw[List.reverse_append,List.reverse_append];show(if (s.b:Int)<=(m:Int) then (if (m:Int)<=(n:Int) then D.tup s.ws else .av) else I_ r.reverse m)=(if (s.b:Int)<=(m:Int) then (match s.e with|none=>.tup s.ws|some n=>if (m:Int)<=(n:Int) then .tup s.ws else .av) else I_ r.reverse m);rw[q,if_pos<|show(m:Int)<=(n:Int) by lia]
theorem C7(h:cur l≠.av):oP n l=iV n l:=by by_cases e:l=[];subst e;rfl;obtain⟨r,s,rfl⟩:=kB e;rw[j8]at h;cases q:s.e with|none=>rw[pR q,eJ]|some m=>unfold Mz at h;rw[q]at h;exact absurd rfl h
theorem GN:vO "list"= some K_:=(if_neg<|by decide).trans<|(if_neg<|by decide).trans<|(if_neg<|by decide).trans<|(if_neg<|by decide).trans<|if_pos rfl
noncomputable def dN(kn:Kn)(ss:List Str):List Row:=ss.map λz=>(z,(gr kn z).getD [])
structure Snap(rs:uo)(cs:List (Str×Str))(m:Nat)(rows:List Row):Prop where
 ex:∃kn ss,rows=dN kn ss/\KI cs kn/\ss.Perm (kn.map (·.1))/\PyProof.Rows.sortedS ss=true/\∀z,wt ((lu rs z).getD []) m=oO kn z
theorem oQ(p:ss.Perm (kn.map (·.1))):(dN kn ss).map aj=QL kn ss:=by unfold dN QL;rw[zt];refine z0 λz hz=>?_;obtain⟨ws,kP⟩:=jY<|p.mem_iff.mp hz;show D.tup [.str z,.tup<|(gr kn z).getD []]=.tup [.str z,oO kn z];unfold oO;rw[kP];rfl
theorem s_(hI:KI cs kn)(p:ss.Perm (kn.map (·.1))):Rg cs (dN kn ss):=by refine{λr hr=>?_,?_};obtain⟨z,hz,rfl⟩:=ze.mp hr;obtain⟨ws,kP⟩:=jY<|p.mem_iff.mp hz;show Wg cs ((gr kn z).getD []);rw[kP];exact(hI.ok _<|kD kP).2;unfold dN;rw[zt];show(ss.map id).Nodup;rw[List.map_id];exact p.nodup_iff.mpr hI.nd
theorem oR(hI:KI cs kn)(p:ss.Perm (kn.map (·.1))):(dN kn ss).length<=50:=by unfold dN;rw[zb,p.length_eq,zb];exact hI.len
theorem Snap.rg(h:Snap rs cs m rows):Rg cs rows/\rows.length<=50:=by obtain⟨kn,ss,rfl,hI,p,_⟩:=h.ex;exact{s_ hI p,oR hI p}
theorem Snap.key(h:Snap rs cs m rows):∀r∈rows,r.1∈KS:=by obtain⟨kn,ss,rfl,hI,p,_⟩:=h.ex;intro r hr;obtain⟨z,hz,rfl⟩:=ze.mp hr;obtain⟨ws,kP⟩:=jY<|p.mem_iff.mp hz;exact(hI.ok _<|kD kP).1
theorem GO{C a:Addr}{S:ay}{F:List Addr}{cs:List<|Str×Str}{dl:List D}{rs:uo}{m:Nat}{rows:List Row}(h:Snap rs cs m rows)(hs:cA C S a F cs dl rs){ss:List Str} (p1:ss.Perm (rs.map (·.1))) (o1:PyProof.Rows.sortedS ss=true):l8 rs m ss=rows.map aj:=by
 obtain⟨kn,s2,rfl,hI,p2,o2,hw⟩:=h.ex;rw[oQ p2];have e:ss.filter (λz=>!ah (wt ((lu rs z).getD []) m))=s2:=by refine GJ ((vp o1).filter _) (vp o2) ?_ (p2.nodup_iff.mpr hI.nd) λz=>?_;exact yq.nodup<|p1.nodup_iff.mpr<|NW hs;rw[yn,hw,vq,Bool.not_not,p1.mem_iff,p2.mem_iff];constructor;rintro⟨_,hz⟩;obtain⟨ws,kP⟩:=Option.isSome_iff_exists.mp hz;exact ze.mpr {_,kD kP,rfl};intro hz;obtain⟨ws,kP⟩:=jY hz;refine{?_,by rw[kP];rfl};have e:=hw z;unfold oO at e;rw[kP]at e;cases q:lu rs z with|none=>(rw[q]at e;cases e)|some s=>exact Vs q
 unfold l8 QL;rw[e];refine z0 λz _=>?_;unfold wX;rw[hw]
theorem QM{l:List Std}{n m:Nat}{ws:List D}(hm:m<=n):wt (l++[Std.mk (n+1) none ws]) m=wt l m:=by unfold wt;rw[List.reverse_append];exact MB<|show m<n+1 by lia
theorem EJ(k:Str)(m:Nat)(hm:m<=n):wt ((lu (ur rs z (n+1) ws) k).getD []) m=wt ((lu rs k).getD []) m:=by unfold ur;rw[jW];by_cases e:k=z;rw[if_pos e,e];exact QM hm;rw[if_neg e]
theorem EK(h:RI rs n kn)(hz:(gr kn z).isSome=true)(k:Str)(m:Nat)(hm:m<=n):wt ((lu (oJ rs z n) k).getD []) m=wt ((lu rs k).getD []) m:=by
 unfold oJ;rw[jW];by_cases e:k=z;rw[if_pos e,e];have hc:cur ((lu rs z).getD [])≠.av:=by rw[h.eq];unfold oO;cases q:gr kn z with|none=>(rw[q]at hz;cases hz)|some ws=>exact λe=>by cases e
 show wt (iV n<|(lu rs z).getD []) m=_;rw[<-C7 hc,GL hm];rw[if_neg e]
theorem EL(hz:z∈KS):Gt S (.str z):=EF<|by have:=(gM z hz).2.1;lia
section
variable{t:hW}{S:ay}{a:Addr}{F:List Addr}{cs:List (Str×Str)}{dl:List D}{rs:uo}{kn:Kn}{d:D}{R:KD}{Z:KX}
theorem JI(hz:z∈KS)(h:Wg cs ws):oG cs (.str z) (.tup ws)=true:=by unfold oG;rw[h.QJ,show ofStr kO (.str z)=true from(gM z hz).1];rfl
theorem C8(hR:RI rs dl.length kn)(hz:z∈KS):ah (A_ rs (.str z) dl.length)=!(gr kn z).isSome:=by rw[hR.A_ hz,vq]
theorem Vt(h:gr kn z=none):(!(gr kn z).isSome)=true:=by rw[h];rfl
theorem JJ(h:(gr kn z).isSome=true):(!(gr kn z).isSome)=false:=by rw[h];rfl
theorem tf{b:Bool}(h1:b=true)(h2:b=false){p:Prop} : p:=by rw[h1]at h2;cases h2
theorem cA.out(hS:cA C S a F cs dl rs)(hb:S b=none):b∉F:=λm=>by obtain⟨ld,lr,ra,h,rfl,_⟩:=hS;unfold fp at m;simp only[zj,ze]at m;rcases m with e|e|e|⟨r,hr,e⟩;have:=h.ins;rw[<-e,hb]at this;cases this;have:=h.Ah;rw[<-e,hb]at this;cases this;have:=h.run;rw[<-e,hb]at this;cases this;have:=h.cell r hr;rw[e,hb]at this;cases this
theorem cA.off(hS:cA C S a F cs dl rs)(hp:p∉F):cA C (S.set p c) a F cs dl rs:=by obtain⟨ld,lr,ra,hh,rfl,e2⟩:=hS;unfold fp at hp;simp only[zj,not_or]at hp;obtain⟨n1,n2,n3,n4⟩:=hp;exact{ld,lr,ra,{(ag<|Ne.symm n1).trans hh.ins,(ag<|Ne.symm n2).trans hh.Ah,(ag<|Ne.symm n3).trans hh.run,λr hr=>(ag λe=>n4<|by rw[<-e];exact ze.mpr ⟨r,hr,rfl⟩).trans<|hh.cell r hr,hh.kn,hh.an,hh.sz},rfl,e2}
theorem GD.up(hd:GD KT cs kn d):GD KS cs kn d:=by rcases hd with⟨z,ws,hz,h⟩|h;exact .inl {z,ws,Al hz,h};exact .inr h
theorem GD.as(hd:GD KS cs kn d)(hI:KI cs kn):∃fi,QE kn d fi/\KI cs fi:=by rcases hd with⟨z,ws,hz,hw,hn,rfl⟩|⟨z,ws,hz,hw,hn,rfl⟩|⟨z,hz,hn,rfl⟩;exact{_,.inl {_,z,ws,.inl rfl,rfl,rfl},hI.put hz hw};exact{_,.inl {_,z,ws,.inr rfl,rfl,rfl},hI.put hz hw};exact{_,.inr ⟨z,hn,rfl,rfl⟩,hI.del z}
structure Dos(t:hW)(ds:List D)(S:ay)(R:KD)(Z:KX):Prop where
 of:CT t ds S R Z
theorem GP(hS:cA t.au S a F cs dl rs)(hg:Gd cs)(hI:KI cs kn)(hR:RI rs dl.length kn)(hl:dl.length<=100)(hd:GD KS cs kn d){fi:Kn}(Vu:QE kn d fi) (q:∀S' F' cM,cA t.au S' a F' cs (dl++[d]) cM->CK F F' S S'->RI cM (dl.length+1) fi->(∀z m,m<=dl.length->wt ((lu cM z).getD []) m=wt ((lu rs z).getD []) m)->R .av S'):Dos t [.ref a,d] S R Z:=by
 have hrl:=hR.len hS;have WZ:=hg.1;obtain⟨ld,lr,ra,h,_,_⟩:=id hS;refine{a,_,h.ins,rfl,?_};rcases hd with⟨z,ws,hz,hw,hn,rfl⟩|⟨z,ws,hz,hw,hn,rfl⟩|⟨z,hz,hn,rfl⟩;have ro:=JI hz hw;have st:=(C8 hR hz).trans<|Vt hn;refine .inl {_,_,rfl,a,F,cs,_,rs,_,_,rfl,hS,WZ,EL hz,hw.gts WZ,by lia,by lia,λe=>tf ro e,λ_ e=>tf st e,λz' NM e1 e2 _ _ S' F' nO hK=>?_};cases e1;cases e2;have MC:fi=nq kn z ws:=by rcases Vu with⟨n,y,vs,_,e1,e2⟩|⟨y,_,e1,_⟩<;>cases e1;exact e2
 subst MC;exact q S' F' _ nO hK (hR.put hz) EJ;have ro:=JI hz hw;have st:=(C8 hR hz).trans<|JJ hn;refine .inr<|.inl {_,_,rfl,a,F,cs,_,rs,_,_,rfl,hS,WZ,EL hz,hw.gts WZ,by lia,by lia,λe=>tf ro e,λ_ e=>tf e st,λz' NM e1 e2 _ _ S' F' nO hK=>?_};cases e1;cases e2;have MC:fi=nq kn z ws:=by rcases Vu with⟨n,y,vs,_,e1,e2⟩|⟨y,_,e1,_⟩<;>cases e1;exact e2
 subst MC;exact q S' F' _ nO hK (hR.change hz) λk m hm=>(EJ k m hm).trans<|EK hR hn k m hm;have st:=(C8 hR hz).trans<|JJ hn;refine .inr<|.inr !{a,F,cs,_,rs,_,rfl,hS,EL hz,by lia,λe=>tf (gM z hz).1 e,λ_ e=>tf e st,λz' e1 _ _ S' nO hK=>?_};cases e1;have MC:fi=uu kn z:=by rcases Vu with⟨n,y,vs,_,e1,e2⟩|⟨y,_,e1,e2⟩<;>cases e1;exact e2
 subst MC;exact q S' F _ nO hK (hR.del hz)<|EK hR hn
theorem Snap.vw(h:Snap rs cs m rows)(hS:cA t.au S a F cs dl rs)(hR:RI rs dl.length kn)(hm:uq dl.length md=some (m:Int))(Wv:Gt S md):Vw t.au S a cs md rows:=by have:=h.rg;refine{{F,dl,rs,hS,by have:=hR.len hS;lia,(λe=>by rw[hm]at e;cases e),λi ss hi hp hs=>?_},Wv,by lia,this.1};rw[hm]at hi;cases hi;exact GO h hS hp hs
end
noncomputable def kj(j:Nat):Str:=ZW.getD j ""
theorem QN:∀j<40,("k": Str)++Str.ofString (toString<|(0:Int)+((j:Nat):Int))=kj j/\("k": Str).length+(Str.ofString<|toString<|(0:Int)+((j:Nat):Int)).length<=1000:=by trivial
theorem Vv:∀j<40,kj j∈ZW/\kj j∉KT:=by trivial
theorem QO:∀j<40,∀i<40,kj j=kj i->j=i:=by trivial
theorem cI:∀{l:List α}{m:List β},Paired rel l m->∀{i:Nat}{b:β},m[i]?=some b->∃a,l[i]?=some a/\rel a b|_,_,.nil,_,_,h=>by simp at h|_,_,.cons r t,0,b,h=>(by rw[List.getElem?_cons_zero]at h⊢;cases h;exact{_,rfl,r})|_,_,.cons r t,i+1,b,h=>by rw[List.getElem?_cons_succ]at h⊢;exact cI t h
def Mny(cs:List<|Str×Str)(j:Nat)(d:D):Prop:=j<40/\∃ws,Wg cs ws/\d=.tup [.str "put",.str<|kj j,.tup ws]
inductive AG (ds:List D) (S:ay) (R:KD) (Z:KX):Prop where
 |mk (l cs) (h0:ds=[.ref l,.tup<|cs.map aw,.int 20,.int 40]) (h1:Gd cs) (h2:S l=some .well) (h3:∀(out:List D)(p:Addr),out.length<=40->(∀j d,out[j]?=some d->Mny cs j d)->S p=none->R (.ref p) (S.set p<|.lst out)):AG ds S R Z
theorem MD(T:Txt w K mg t):Ok P w base T.Ct 4 AG:=by
 refine T.Ct.F.ck vd ?_;rintro _ _ _ _ _ _ _ S R Z hr ⟨l,cs,e,hg,hw,q⟩;subst e;refine{_,(sc (cC (i:=4) vd.nd<|bo bM hr.u (dv 2)<|aJ T.aY (bL T) hr<|ac (dv 0)<|ac (bo bM hr.u (bo g7 hr.u (dv 3)<|dv 2) di) an)<|s1<|sr<|p_ (N:=["_law_j","_law_well_here","_law_columns_here"]) (src:=[none,some 0,some 1]) (i6 (ae IP) ["_law_well_here","_law_columns_here","_law_least","_law_most","_law_many_here"] rfl rfl<|by trivial) (PQ T.iO<|ac (dv 4) an) (mm<|show(["_law_j","_law_well_here","_law_columns_here"]:List Str).Nodup by trivial) (aO rfl) aP (λ_ _ _ _ _=>px) λ_ _ _ _ _=>(cy<|ac ds<|ac (bo bM hr.u ds<|ct UH T.lh gD<|ac (dv 0) an)<|ac (aJ T.ie (kC T) hr<|ac (dv 1)<|ac (dv 2) an) an)),?_};refine !!!!{l,_,rfl,(by decide),(by decide),hw,λn h0 h1=>?_};have h1:n<21:=h1;obtain⟨N,hN⟩:∃N:Nat,(20:Int)+n=(N:Int):={(20+n).toNat,by lia};refine !{20+n,rfl,by lia,by lia,?_};refine fI (λd v=>∃j:Nat,d=.int ((j:Nat):Int)/\Mny cs j v) trivial (by rw[dy];lia) (λd hd Q hQ=>?_) λout ho p hp=>?_;obtain⟨i,ei⟩:=List.getElem?_of_mem hd;obtain⟨hi,rfl⟩:=g_ ei;have hi:i<40:=by lia
 obtain⟨k1,k2⟩:=QN i hi;refine !!{(by have:=Nat.log2_le_self ((0:Int)+(i:Nat)).natAbs;lia),sm k2,_,rfl,_,rfl,l,cs,rfl,hg,hw,λws kP=>{gJ,hQ _ {i,?_,hi,ws,kP,?_}}};rw[Int.zero_add];rw[k1];refine fo<|q out p ?_ (λj d hd=>?_) hp;have:=yG ho;rw[dy]at this;lia;obtain⟨x,hx,j',e,hm⟩:=cI ho hd;obtain⟨_,e2⟩:=g_ hx;rw[e2]at e;have e:(0:Int)+(j:Nat)=((j':Nat):Int):=D.int.inj e;have:j=j':=by lia
 rw[this];exact hm
def Far(S:ay)(F:List Addr)(S':ay):Prop:=∀b c,S b=some c->b∉F/\S' b=some c
theorem Far.sub(h:Far S F S'):Sub S S':=λb c e=>(h b c e).2
theorem KI.nil(cs:List<|Str×Str):KI cs []:={List.nodup_nil,λ_ h=>(nomatch h)}
theorem AH(ns:List Int)(lo hi:Option Int):e_ (ns.map D.int) lo hi=(e_ ns lo hi).map D.int:=by unfold e_;rw[zb,List.map_take,List.map_drop]
theorem ME(ns:List Int)(lo hi:Option Int):(e_ ns lo hi).length<=ns.length:=by unfold e_;rw[zV,yC];lia
structure St(t:hW)(S0:ay)(a:Addr)(fs:List (Addr×Ce))(F:List Addr)(cs:List (Str×Str))(dl:List D)(rs:uo)(S:ay):Prop where
 sh:cA t.au S a F cs dl rs
 fa:∀x∈fs,S x.1=some x.2/\x.1∉F/\S0 x.1=none
 nd:(fs.map Prod.fst).Nodup
 Kb:Far S0 F S
section
variable{t:hW}{S0:ay}{a:Addr}{fs:List (Addr×Ce)}{F:List Addr}{cs:List (Str×Str)}{dl:List D}{rs:uo}{S:ay}
theorem St.at(h:St t S0 a fs F cs dl rs S)(i:Nat)(e:fs[i]?=some (b,c)):S b=some c:=(h.fa _<|zK e).1
theorem St.sub(h:St t S0 a fs F cs dl rs S)(b:Sub S S'):St t S0 a fs F cs dl rs S':={h.sh.sub b,λx hx=>{b _ _ (h.fa x hx).1,(h.fa x hx).2},h.nd,λx c hx=>{(h.Kb x c hx).1,b _ _ (h.Kb x c hx).2}}
theorem St.zero(h:St t S0 a fs F cs dl rs S)(hb:S b=none):S0 b=none:=by cases e:S0 b with|none=>rfl|some c=>have:=h.Kb.sub _ _ e;rw[hb]at this;cases this
theorem St.new(h:St t S0 a fs F cs dl rs S)(hp:S p=none)(c:Ce):St t S0 a (fs++[(p,c)]) F cs dl rs (S.set p c):=by
 have h1:=h.sub<|.new (c:=c) hp;refine{h1.sh,λx hx=>?_,?_,h1.Kb};rcases zM.mp hx with hx|hx;exact h1.fa x hx;rw[zE.mp hx];exact{aa,h.sh.out hp,h.zero hp};rw[zJ,List.nodup_append];refine{h.nd,by simp,λx hx y hy e=>?_};obtain⟨z,hz,rfl⟩:=ze.mp hx;have hy:y=p:=by simpa using hy
 have:=(h.fa z hz).1;rw[e,hy,hp]at this;cases this
theorem St.put(h:St t S0 a fs F cs dl rs S)(i:Nat)(e:fs[i]?=some (b,c))(c':Ce):St t S0 a (fs.set i (b,c')) F cs dl rs (S.set b c'):=by
 have hb:=h.fa _<|zK e;have hi:=(zf.mp e).1;have em:(fs.set i (b,c')).map Prod.fst=fs.map Prod.fst:=by refine List.ext_getElem? λj=>?_;rw[zp,zp];by_cases q:j=i;subst q;rw[List.getElem?_set_self hi,e];rfl;rw[List.getElem?_set_ne<|Ne.symm q]
 refine{h.sh.off hb.2.1,λx hx=>?_,by rw[em];exact h.nd,λx c hx=>{(h.Kb x c hx).1,(ag<|fS hx hb.2.2).trans (h.Kb x c hx).2}};obtain⟨j,hj⟩:=List.getElem?_of_mem hx;by_cases q:j=i;subst q;rw[List.getElem?_set_self hi]at hj;cases hj;exact⟨aa,hb.2⟩;rw[List.getElem?_set_ne<|Ne.symm q]at hj;have LG:=h.fa x<|zK hj;refine{(ag λe2=>q ?_).trans LG.1,LG.2};have a1:(fs.map Prod.fst)[j]?=some x.1:=by rw[zp,hj];rfl
 have a2:(fs.map Prod.fst)[i]?=some b:=by rw[zp,e];rfl
 obtain⟨b1,c1⟩:=zf.mp a1;obtain⟨b2,c2⟩:=zf.mp a2;exact(List.getElem_inj h.nd (h₀:=b1) (h₁:=b2)).mp<|by rw[c1,c2];exact e2
theorem St.less(h:St t S0 a fs F cs dl rs S)(n:(GY.map Prod.fst).Nodup)(p:∀x∈GY,x∈fs):St t S0 a GY F cs dl rs S:={h.sh,λx hx=>h.fa x<|p x hx,n,h.Kb}
theorem St.aak(h:St t S0 a fs F cs dl rs S)(hS:cA t.au S' a F' cs dl' cM)(hK:CK F F' S S'):St t S0 a fs F' cs dl' cM S':={hS,λx hx=>by obtain⟨h1,h2,h3⟩:=h.fa x hx;exact by obtain⟨k1,k2⟩:=hK _ _ h2 h1;exact⟨k2,k1,h3⟩,h.nd,λx c hx=>by obtain⟨h1,h2⟩:=h.Kb x c hx;exact hK _ _ h1 h2}
end
theorem QP(hk:r.1∈KS)(hw:Wg cs r.2):Ly S 60 (aj r):=by refine(Ly.tup (n:=1) λx hx=>?_).le (by decide);simp only[zj,zI,or_false]at hx;rcases hx with rfl|rfl;exact(Ly.str (gM _ hk).2.2).le (by decide);exact hw.ly
def Kr(r:Nat)(kn:Kn):Prop:=∀x∈kn.map (·.1),x∈KT\/∃j,r<=j/\j<40/\x=kj j
theorem vt(h:x∈(nq kn z ws).map (·.1)):x=z\/x∈kn.map (·.1):=by unfold nq at h;split at h;rw[zt]at h;obtain⟨r,hr,e⟩:=ze.mp h;refine .inr<|ze.mpr {r,hr,?_};rw[<-e];dsimp only[Function.comp];split<;>rfl;rw[zJ]at h;rcases zM.mp h with h|h;exact .inr h;exact .inl<|by simpa using h
theorem Kr.CM(h:Kr r kn)(hd:GD KT cs kn d)(hk:QE kn d fi):Kr r fi:=by rcases hk with⟨n,z,ws,hn,rfl,rfl⟩|⟨z,hz,rfl,rfl⟩;intro x hx;rcases vt hx with rfl|hx;rcases hd with⟨z',NM,hz,_,_,e⟩|⟨z',NM,hz,_,hs,e⟩|⟨z',_,_,e⟩;injection e with e;injection e with _ e;injection e with e _;injection e with e;rw[e];exact .inl hz;injection e with e;injection e with _ e;injection e with e _;injection e with e;obtain⟨w,hw⟩:=Option.isSome_iff_exists.mp hs;rw[e];exact h _<|ze.mpr {_,kD hw,rfl};injection e with e;injection e with _ e;injection e with _ e;cases e;exact h x hx;intro x hx;unfold uu at hx;obtain⟨r,hr,e⟩:=ze.mp hx;exact h x<|ze.mpr {r,(yn.mp hr).1,e}
theorem Vw.sub(h:Vw C S a cs m rows)(b:Sub S S'):Vw C S' a cs m rows:=by obtain⟨F,dl,rs,h1,h2⟩:=h.sh;exact{{F,dl,rs,h1.sub b,h2},h.mo.sub b,h.len,h.rg}
theorem nE(q:R (.bl<|if neg then !decide (i=j) else decide (i=j)) S):HW neg (.str i) (.str j) S R:=q
noncomputable def cV(w e:Str)(x y:D):Int:=if ma x y=true then 0 else if cj ("",w,e) x y=true then -1 else 1
def Cm(x y:D):Prop:=∃k,Vg k x/\Vg k y
theorem nF{w e:Str}(h:Cm x y):cV w e x y=0↔x=y:=by obtain⟨k,hx,hy⟩:=h;unfold cV;by_cases q:ma x y=true;rw[if_pos q];simpa using (bh hx.2 hy.2).mp q;rw[if_neg q];have q':¬x=y:=λz=>q<|(bh hx.2 hy.2).mpr z;constructor;intro z;split at z<;>cases z;exact λz=>absurd z q'
theorem AI{w e:Str}(h:Cm x y):cV w e x y<0↔x≠y/\cj ("",w,e) x y=true:=by obtain⟨k,hx,hy⟩:=h;unfold cV;by_cases q:ma x y=true;rw[if_pos q];have:=(bh hx.2 hy.2).mp q;simp[this];rw[if_neg q];have q':¬x=y:=λz=>q<|(bh hx.2 hy.2).mpr z;by_cases l:cj ("",w,e) x y=true;rw[if_pos l];simp[q',l];rw[if_neg l];simp[l]
inductive cJ (ds:List D) (S:ay) (R:KD) (Z:KX):Prop where
 |mk (x y wy e) (h0:ds=[x,y,.str e]) (h1:Cm x y) (h2:(x=.av\/y=.av)) (h3:R (.int<|cV wy e x y) S):cJ ds S R Z
theorem jo(T:Txt w K mg t):Ok P w base T.c_ 1 cJ:=by
 refine T.c_.F.ck dJ ?_;rintro _ _ _ _ _ _ _ S R Z hr ⟨x,y,wy,e,e0,⟨k,hx,hy⟩,hn,q⟩;subst e0;refine{_,(sc (si (twd<|twand (bp fP hr.u (dv 0) dn)<|tw1<|bp fP hr.u (dv 1) dn) (s1<|sr di) s0)<|sc (cC (i:=3) dJ.nd<|cm aL hr.u (dv 2) ds)<|s1<|sr<|Rx (bp aL hr.u (dv 3)<|cm fP hr.u (dv 0) dn) (HY di) di),?_};unfold cV at q;refine !!⟨bB (λh=>!!⟨bB (λh2=>?_) λh2=>?_⟩) λh=>?_⟩;rw[cD h,cD h2]at q;exact fo q;have e1:ah x≠ah y:=by rw[show ah x=true from h,show ah y=false from h2];decide
 rw[oM e1,if_neg zd]at q;unfold cj at q;rw[show ah x=true from h,show ah y=false from h2]at q;refine !!!⟨?_⟩;dsimp only[dC,Ry];refine gv !⟨?_⟩;have q:R (.int<|if (ah x==decide (e ="first"))=true then -1 else 1) S:=by rw[show ah x=true from h];exact q
 rw[Bool.beq_comm]at q;refine bB (λz=>?_) λz=>?_;rw[if_pos<|show(decide (e ="first")==ah x)=true from z]at q;exact{_,rfl,fo q};rw[if_neg λz2=>tf z2<|show(decide (e ="first")==ah x)=false from z]at q;exact fo q;have hy1:ah y=true:=by rcases hn with rfl|rfl;cases h;rfl
 have e1:ah x≠ah y:=by rw[show ah x=false from h,hy1];decide
 rw[oM e1,if_neg zd]at q;unfold cj at q;rw[show ah x=false from h,hy1]at q;refine !!!⟨?_⟩;dsimp only[dC,Ry];refine gv !⟨?_⟩;have q:R (.int<|if (ah x==decide (e ="first"))=true then -1 else 1) S:=by rw[show ah x=false from h];exact q
 rw[Bool.beq_comm]at q;refine bB (λz=>?_) λz=>?_;rw[if_pos<|show(decide (e ="first")==ah x)=true from z]at q;exact{_,rfl,fo q};rw[if_neg λz2=>tf z2<|show(decide (e ="first")==ah x)=false from z]at q;exact fo q
inductive tj (ds:List D) (S:ay) (R:KD) (Z:KX):Prop where
 |mk (x y wy e) (h0:ds=[x,y,.str wy,.str e]) (h1:Cm x y) (h2:R (.int<|cV wy e x y) S):tj ds S R Z
theorem pS(T:Txt w K mg t):Ok P w base T.compared 2 tj:=by refine T.compared.F.ck pG ?_;rintro _ _ _ _ _ _ _ S R Z hr ⟨x,y,wy,e,e0,hc,q⟩;subst e0;obtain⟨k,hx,hy⟩:=id hc;refine{_,(sc (si (twd<|twor (bp fP hr.u (dv 0) dn)<|tw1<|bp fP hr.u (dv 1) dn) (s1<|sr<|aJ T.c_ (jo T) hr<|ac (dv 0)<|ac (dv 1)<|ac (dv 3) an) s0)<|sc (si (bp aL hr.u (dv 0)<|dv 1) (s1<|sr di) s0)<|sc (cC (i:=4) pG.nd<|cm mF hr.u (dv 0)<|dv 1)<|s1<|sr<|Rx (bp aL hr.u (dv 4)<|cm aL hr.u (dv 2) ds) (HY di) di),?_};have none:∀Zq:KX,x=.av\/y=.av->cJ [x,y,.str e] S (λd S'=>Fo S'<|R d) Zq:=λ_ hn=>{x,y,wy,e,rfl,hc,hn,fo q};refine !!⟨bB (λh=>?_) λh=>!!⟨bB (λh2=>?_) λh2=>?_⟩⟩;exact !!!⟨none _<|.inl<|cD h⟩;exact !!!⟨none _<|.inr<|cD h2⟩;clear none;have nx:ah x=false:=h;have ny:ah y=false:=h2;unfold cV at q;refine !!⟨j6 hx.2 hy.2 !⟨bB (λh3=>?_) λh3=>?_⟩⟩;have h3:ma x y=true:=h3;rw[if_pos h3]at q;exact fo q;have h3:ma x y=false:=h3;rw[h3,if_neg zd]at q;unfold cj at q;rw[nx,ny]at q;have q:R (.int<|if (uv x y==decide (wy ="up"))=true then -1 else 1) S:=q;rcases j7 hx hy (bt nx) (bt ny) with⟨i,j,rfl,rfl⟩|⟨i,j,rfl,rfl⟩;refine !!!!⟨?_⟩;dsimp only[dC];refine nE ?_;refine gv ?_;refine{_,rfl,?_};refine bB (λz=>?_) λz=>?_;rw[if_pos<|show(uv (.int i) (.int j)==decide (wy ="up"))=true from z]at q;exact{_,rfl,fo q};rw[if_neg λz2=>tf z2<|show(uv (.int i) (.int j)==decide (wy ="up"))=false from z]at q;exact fo q;refine !!!!⟨?_⟩;dsimp only[dC];refine nE ?_;refine gv ?_;refine{_,rfl,?_};refine bB (λz=>?_) λz=>?_;rw[if_pos<|show(uv (.str i) (.str j)==decide (wy ="up"))=true from z]at q;exact{_,rfl,fo q};rw[if_neg λz2=>tf z2<|show(uv (.str i) (.str j)==decide (wy ="up"))=false from z]at q;exact fo q
noncomputable def qU(ps:List Part)(wy:Str):List (Str×Str):=ps.map Prod.snd++[(wy,("last": Str))]
noncomputable def cN:List (Str×Str)->List D->List D->Int|w::ws,x::xs,y::ys=>(if cV w.1 w.2 x y=0 then cN ws xs ys else cV w.1 w.2 x y)|_,_,_=>0
def PV(ks:List Str)(xs:List D):Prop:=Paired (λk x=>Vg k x) ks xs
theorem AJ:∀{ws:List (Str×Str)}{ks:List Str}{xs ys:List D},ws.length=ks.length->PV ks xs->PV ks ys->(cN ws xs ys=0↔xs=ys)|[],_,_,_,h,.nil,.nil=>by simp[cN]|w::ws,_,_,_,h,.cons (b:=x) a1 a2,.cons (b:=y) b1 b2=>by unfold cN;have c:=nF (w:=w.1) (e:=w.2) {_,a1,b1};by_cases q:cV w.1 w.2 x y=0;rw[if_pos q,AJ (yT h) a2 b2,c.mp q];simp;rw[if_neg q];exact{λz=>absurd z q,λz=>absurd (c.mpr (List.cons.inj z).1) q}
theorem JK:∀{ws:List (Str×Str)}{ks:List Str}{xs ys zs:List D},PV ks xs->PV ks ys->PV ks zs->cN ws xs ys<0->cN ws ys zs<0->cN ws xs zs<0|[],_,_,_,_,_,_,_,h,_=>by simp[cN]at h|w::ws,_,_,_,_,.nil,.nil,.nil,h,_=>by simp[cN]at h|w::ws,_,_,_,_,.cons (b:=x) a1 a2,.cons (b:=y) b1 b2,.cons (b:=z) c1 c2,h1,h2=>by unfold cN at h1 h2⊢;have e1:=nF (w:=w.1) (e:=w.2) {_,a1,b1};have e2:=nF (w:=w.1) (e:=w.2) {_,b1,c1};have e3:=nF (w:=w.1) (e:=w.2) {_,a1,c1};by_cases q1:x=y;subst q1;rw[if_pos<|e1.mpr rfl]at h1;by_cases q2:x=z;subst q2;rw[if_pos<|e2.mpr rfl]at h2⊢;exact JK a2 b2 c2 h1 h2;rw[if_neg λz=>q2<|e2.mp z]at h2⊢;exact h2;rw[if_neg λz=>q1<|e1.mp z]at h1;by_cases q2:y=z;subst q2;rw[if_neg λz=>q1<|e3.mp z];exact h1;rw[if_neg λz=>q2<|e2.mp z]at h2;obtain⟨q3,l3⟩:=EA (p:=("",w.1,w.2)) a1 b1 c1 q1 q2 ((AI {_,a1,b1}).mp h1).2 ((AI {_,b1,c1}).mp h2).2;rw[if_neg λz=>q3<|e3.mp z];exact(AI {_,a1,c1}).mpr ⟨q3,l3⟩
noncomputable def Bc(cs:List<|Str×Str)(z:Str):Str:=((cs[Mq cs z]?).map Prod.snd).getD "word"
noncomputable def W0(cs:List<|Str×Str)(ps:List Part):List Str:=ps.map (λp=>Bc cs p.1)++[("word": Str)]
noncomputable def AK(cs:List<|Str×Str)(ps:List Part)(r:Row):List D:=ps.map (λp=>ai cs r.2 p.1)++[.str r.1]
theorem jh:∀z∈KS,Vg "word" (.str z):=by
 have h:∀z∈KS,(ve z&&dh (.str z))=true:=by trivial
 exact λz hz=>let q:=Bool.and_eq_true_iff.mp<|h z hz;⟨q.1,q.2⟩
theorem mi:∀{l:List α}{m:List β}{l':List α}{m':List β},Paired r l m->Paired r l' m'->Paired r (l++l') (m++m')|_,_,_,_,.nil,h=>h|_,_,_,_,.cons a t,h=>.cons a<|mi t h
theorem xa(hg:Gd cs)(hp:Pin cs ps)(hw:Wg cs ws):Paired (λk x=>Vg k x) (ps.map λp=>Bc cs p.1) (ps.map λp=>ai cs ws p.1):=by induction ps with|nil=>exact .nil|cons p ps ih=>refine .cons ?_<|ih hp.tail;obtain⟨c,hc,e⟩:=hp p zr;show Vg (Bc cs p.1) (ai cs ws p.1);unfold Bc;rw[<-e,(sX hg hc).1];exact(iY hg hw hc).2
theorem JL(hg:Gd cs)(hp:Pin cs ps)(hw:Wg cs r.2)(hk:r.1∈KS):PV (W0 cs ps) (AK cs ps r):=mi (xa hg hp hw)<|.cons (jh _ hk) .nil
theorem EM(hg:Gd cs){wy:Str}(ha:Wg cs a.2)(hb:Wg cs b.2)(ka:a.1∈KS)(kb:b.1∈KS)(n:a.1≠b.1):∀{ps:List Part},Pin cs ps->(a_ cs wy ps a b=true↔cN (qU ps wy) (AK cs ps a) (AK cs ps b)<0)|[],_=>(by show(ph a.1 b.1==decide (wy ="up"))=true↔(if cV wy "last" (.str a.1) (.str b.1)=0 then 0 else cV wy "last" (.str a.1) (.str b.1))<0;have n':(.str a.1:D)≠.str b.1:=λe=>n<|D.str.inj e;rw[if_neg λz=>n'<|(nF {_,jh _ ka,jh _ kb}).mp z,AI {_,jh _ ka,jh _ kb}];exact{λh=>⟨n',h⟩,λh=>h.2})|p::ps,hp=>by obtain⟨k,hk⟩:=qS hg hp;have va:=hk _ ha;have vb:=hk _ hb;show(if ma (ai cs a.2 p.1) (ai cs b.2 p.1)=true then a_ cs wy ps a b else cj p (ai cs a.2 p.1) (ai cs b.2 p.1))=true↔(if cV p.2.1 p.2.2 (ai cs a.2 p.1) (ai cs b.2 p.1)=0 then cN (qU ps wy) (AK cs ps a) (AK cs ps b) else cV p.2.1 p.2.2 (ai cs a.2 p.1) (ai cs b.2 p.1))<0;by_cases q:ai cs a.2 p.1=ai cs b.2 p.1;rw[if_pos<|(bh va.2 vb.2).mpr q,if_pos<|(nF {_,va,vb}).mpr q];exact EM hg ha hb ka kb n hp.tail;rw[if_neg λz=>q<|(bh va.2 vb.2).mp z,if_neg λz=>q<|(nF {_,va,vb}).mp z,AI {_,va,vb}];exact{λh=>⟨q,h⟩,λh=>h.2}
noncomputable def Vx(ws:List<|Str×Str)(g:List D)(sd:Str)(x:List D):Bool:=decide (cN ws x g<0)||(decide (cN ws x g=0)&&decide (sd ="behind"))
theorem Vy{ws:List<|Str×Str}{ks:List Str}{g x y:List D}{sd:Str}(hl:ws.length=ks.length)(hx:PV ks x)(hy:PV ks y)(hg:PV ks g)(h:cN ws x y<0)(q:Vx ws g sd y=true):Vx ws g sd x=true:=by unfold Vx at q⊢;simp only[Bool.or_eq_true,zL,yj]at q⊢;rcases q with q|⟨q,_⟩;exact .inl<|JK hx hy hg h q;rw[<-(AJ hl hy hg).mp q];exact .inl h
theorem C9:∀{l:List α},(l.Pairwise λa b=>g b=true->g a=true)->∀{i:Nat}{a:α},l[i]?=some a->(g a=true↔i<l.countP g)
 |[],_,i,a,h=>by simp at h
 |x::l,hp,i,a,h=>by
  obtain⟨h1,h2⟩:=List.pairwise_cons.mp hp;rw[List.countP_cons];by_cases q:g x=true;rw[if_pos q];cases i with|zero=>(cases h;simp[q])|succ i=>rw[C9 h2<|show l[i]?=some a from h];lia
  have z:l.countP g=0:=List.countP_eq_zero.mpr λb hb e=>q<|h1 b hb e;rw[if_neg q,z];have:g a≠true:=by cases i with|zero=>(cases h;exact q)|succ i=>exact λe=>q<|h1 a (zK h) e
  simp[this]
theorem QQ{α:Type}{g:α->Bool}{l:List α}(hp:l.Pairwise λa b=>g b=true->g a=true){n:Nat}(hn:n<=l.length)(h1:∀i a,i<n->l[i]?=some a->g a=true)(h2:∀i a,n<=i->l[i]?=some a->g a=false):n=l.countP g:=by
 have hc:l.countP g<=l.length:=List.countP_le_length;rcases Nat.lt_trichotomy n (l.countP g) with h|h|h;have hi:n<l.length:=by lia
 have e:=zh hi;have:=(C9 hp e).mpr h;rw[h2 n _ (zo _) e]at this;cases this;exact h;have hi:l.countP g<l.length:=by lia
 have e:=zh hi;have:=(C9 hp e).mp<|h1 _ _ h e;lia
noncomputable def GQ(xs:List D)(k:Str):D:=.tup [.tup xs,.str k]
abbrev ux:=List D×Str×Str
noncomputable def GR(g:ux):D:=.tup [GQ g.1 g.2.1,.str g.2.2]
noncomputable def MF:Option ux->D|none=>.av|some g=>GR g
noncomputable def EN(z:Str):Bool:=decide (z ="ahead")||decide (z ="behind")
structure Gp(cs:List (Str×Str))(ps:List Part)(g:ux):Prop where
 pv:Paired (λk x=>Vg k x) (ps.map λp=>Bc cs p.1) g.1
 key:g.2.1∈KS
 side:EN g.2.2=true
def Bg(cs:List<|Str×Str)(ps:List Part)(b:Option ux):Prop:=∀g,b=some g->Gp cs ps g
noncomputable def AL(g:ux):List D:=g.1++[.str g.2.1]
theorem Gp.vs(h:Gp cs ps g):PV (W0 cs ps) (AL g):=mi h.pv<|.cons (jh _ h.key) .nil
theorem Gp.len(h:Gp cs ps g):g.1.length=ps.length:=by have:=yG h.pv;rw[zb]at this;exact this.symm
theorem Og.len(h:Og cs ps wy):ps.length<=8:=by have:=h.ok;unfold CV at this;simp only[zL,yj]at this;exact this.1
theorem C_(hg:Gd cs)(hc:c∈cs):c.1.cps.size<=1000:=by have h:=(hg.2.2 c hc).1;unfold lq at h;simp only[zL,yj]at h;lia
inductive vA (ds:List D) (S:ay) (R:KD) (Z:KX):Prop where
 |mk (z) (h0:ds=[.str z]) (h1:R (.bl<|EN z) S):vA ds S R Z
theorem Dc(T:Txt w K mg t):Ok P w base T.wq 1 vA:=by refine T.wq.F.ck Cy ?_;rintro _ _ _ _ _ _ _ S R Z hr ⟨z,e,q⟩;subst e;refine{_,(s1<|sr<|rO (cb bV T.ao ak<|ac (dv 0)<|ac (nN T.lh gD) an)<|HS<|Y_ T.wg (dv 0)<|dg (v:=.ref t.iM) T.ub rfl λ_=>iD _),?_};refine !{_,_,_,_,rfl,bX,rfl,_,rfl,dP !{z,rfl,rfl,?_}};rw[Jp];exact fo q
inductive fM (ds:List D) (S:ay) (R:KD) (Z:KX):Prop where
 |mk (cs ps xs) (h0:ds=[.tup<|cs.map aw,.tup<|ps.map p3,.tup xs]) (h1:Gd cs) (h2:Pin cs ps) (h3:ps.length<=8) (h4:Paired (λk x=>Vg k x) (ps.map λp=>Bc cs p.1) xs) (h5:R (.bl true) S):fM ds S R Z
theorem kT(T:Txt w K mg t):Ok P w base T.dU 4 fM:=by
 refine T.dU.F.ck kM ?_;rintro _ _ _ _ _ _ _ S R Z hr ⟨cs,ps,xs,e,hg,hp,h8,hv,q⟩;subst e;have hl:xs.length=ps.length:=by have:=yG hv;rw[zb]at this;exact this.symm
 have Vm:(ps.map p3).length=ps.length:=zb _;refine{_,(sc (si (twd<|twor (bZ<|tv<|cb bV T.ao ak<|ac (dv 2)<|ac (nN T.bu aW) an)<|tw1<|bp iI hr.u (cb bb T.aX aG<|ac (dv 2) an)<|cb bb T.aX aG<|ac (dv 1) an) (s1<|sr db) s0)<|s1<|sr<|cb k7 T.k_ gB<|ac (p_ (N:=["part","value","columns"]) (src:=[none,none,some 0]) (i6 (ae lQ) ["columns","parts","thing"] rfl rfl<|by trivial) (WN T.y8<|ac (dv 1)<|ac (dv 2) an) (Ws<|show(["part","value","columns"]:List Str).Nodup by trivial) (qE rfl rfl) qI (λ_ _ _ _ _=>px) λ_ _ _ _ _=>(aJ T.jI (jT T) hr<|ac (aJ T.dS (gO T) hr<|ac (dv 2)<|ac (ix hr.u (dv 0) di) an)<|ac (dv 1) an)) an),?_};refine !{_,_,_,_,rfl,aR,rfl,_,rfl,br !!!!!⟨aV (by rw[hl,Vm];simp) ?_⟩};refine !!{_,_,rfl,by rw[hl,Vm],?_};refine comp_map (λ_=>.bl true) trivial (by show(bc _ _).length<=_;unfold bc;rw[List.length_zipWith];lia) (λd hd Q hQ=>?_) λp l9=>?_;have hd:d∈bc (ps.map p3) xs:=hd;unfold bc at hd;obtain⟨i,ei⟩:=List.getElem?_of_mem hd;obtain⟨x,y,e2,e3,e4⟩:=List.getElem?_zipWith_eq_some.mp ei;subst e4;rw[zp]at e2;cases e5:ps[i]? with|none=>(rw[e5]at e2;cases e2)|some pt=>rw[e5]at e2;cases e2;obtain⟨c,hc,ec⟩:=hp pt<|zK e5;obtain⟨k,ek,hk⟩:=cI hv e3;rw[zp,e5]at ek;cases ek;have hk:Vg (Bc cs pt.1) y:=hk;unfold Bc at hk;rw[<-ec,(sX hg hc).1]at hk;have hk:Vg c.2 y:=hk;refine !{rfl,_,_,rfl,_,_,rfl,rfl,_,rfl,_,rfl,_,rfl,cs,pt.1,rfl,hg,by rw[<-ec];exact C_ hg hc,λk' HB=>?_,λhn=>absurd (ze.mpr ⟨c,hc,ec⟩) hn};have e6:k'=c.2:=(by have:=gq (f:=Prod.fst) hg.2.1 HB hc ec.symm;rw[<-this]);rw[e6];refine !{c.2,y,rfl,Eu hk,?_};rw[hk.1];exact hQ
 have e2:(bc (ps.map p3) xs).map (λ_=>D.bl true)=((bc (ps.map p3) xs).map λ_=>true).map D.bl:=by rw[zt];rfl
 have e3:((bc (ps.map p3) xs).map λ_=>true).all id=true:=by rw[all_map];exact yc.mpr λ_ _=>rfl
 refine{.ref p,(bc (ps.map p3) xs).map λ_=>true,rfl,?_,?_};show(S.set p<|.lst<|(bc (ps.map p3) xs).map _) p=_;rw[aa,e2];rw[e3];exact{S,.new l9,q}
inductive lC (ds:List D) (S:ay) (R:KD) (Z:KX):Prop where
 |mk (cs ps wy xs k) (h0:ds=[.tup<|cs.map aw,bU ps wy,GQ xs k]) (h1:Gd cs) (h2:Pin cs ps) (h3:ps.length<=8) (h4:Paired (λk x=>Vg k x) (ps.map λp=>Bc cs p.1) xs) (h5:k∈KS) (h6:R .av S):lC ds S R Z
theorem tm(T:Txt w K mg t):Ok P w base T.jJ 5 lC:=by refine T.jJ.F.ck sD ?_;rintro _ _ _ _ _ _ _ S R Z hr ⟨cs,ps,wy,xs,k,e,hg,hp,h8,hv,hk,q⟩;subst e;refine{_,(sc (si (twd<|twor (bZ<|tv<|cb bV T.ao ak<|ac (dv 2)<|ac (nN T.bu aW) an)<|tw1<|bp iI hr.u (cb bb T.aX aG<|ac (dv 2) an) di) (s1<|p8 ⟨T.cZ⟩ T.eG<|ac ds an) s0)<|sc (si (bZ<|tv<|aJ T.dU (kT T) hr<|ac (dv 0)<|ac (ix hr.u (dv 1) di)<|ac (ix hr.u (dv 2) di) an) (s1<|p8 ⟨T.cZ⟩ T.eG<|ac ds an) s0)<|s1<|si (bZ<|tv<|aJ T.lX (ip T) hr<|ac (ix hr.u (dv 2) di) an) (s1<|p8 ⟨T.cZ⟩ T.eG<|ac ds an) s0),?_};refine !{_,_,_,_,rfl,aR,rfl,_,rfl,br !!!⟨br ?_⟩};refine !!!!!{cs,ps,xs,rfl,hg,hp,h8,hv,_,rfl,br ?_};refine !!{.str k,rfl,EL hk,_,rfl,?_};rw[show ofStr kO (.str k)=true from(gM k hk).1];exact br<|fo q
inductive pT (ds:List D) (S:ay) (R:KD) (Z:KX):Prop where
 |mk (cs ps wy g) (h0:ds=[.tup<|cs.map aw,bU ps wy,GR g]) (h1:Gd cs) (h2:Pin cs ps) (h3:ps.length<=8) (h4:Gp cs ps g) (h5:R .av S):pT ds S R Z
theorem xb(T:Txt w K mg t):Ok P w base T.oy 6 pT:=by refine T.oy.F.ck wH ?_;rintro _ _ _ _ _ _ _ S R Z hr ⟨cs,ps,wy,g,e,hg,hp,h8,hv,q⟩;subst e;refine{_,(sc (si (twd<|twor (bZ<|tv<|cb bV T.ao ak<|ac (dv 2)<|ac (nN T.bu aW) an)<|tw1<|bp iI hr.u (cb bb T.aX aG<|ac (dv 2) an) di) (s1<|p8 ⟨T.cZ⟩ T.eG<|ac ds an) s0)<|sc (se<|aJ T.jJ (tm T) hr<|ac (dv 0)<|ac (dv 1)<|ac (ix hr.u (dv 2) di) an)<|s1<|si (bZ<|tv<|aJ T.wq (Dc T) hr<|ac (ix hr.u (dv 2) di) an) (s1<|p8 ⟨T.cZ⟩ T.eG<|ac ds an) s0),?_};refine !{_,_,_,_,rfl,aR,rfl,_,rfl,br !!!⟨br ?_⟩};refine !!!!{cs,ps,wy,g.1,g.2.1,rfl,hg,hp,h8,hv.pv,hv.key,?_};refine !!{g.2.2,rfl,_,rfl,?_};rw[hv.side];exact br<|fo q
inductive lE (ds:List D) (S:ay) (R:KD) (Z:KX):Prop where
 |mk (cs ps wy b) (h0:ds=[.tup<|cs.map aw,bU ps wy,MF b]) (h1:Gd cs) (h2:Pin cs ps) (h3:ps.length<=8) (h4:Bg cs ps b) (h5:R .av S):lE ds S R Z
theorem tq(T:Txt w K mg t):Ok P w base T.jM 7 lE:=by refine T.jM.F.ck sE ?_;rintro _ _ _ _ _ _ _ S R Z hr ⟨cs,ps,wy,b,e,hg,hp,h8,hv,q⟩;subst e;refine{_,(s1<|si (bp lM hr.u (dv 2) dn) (s1<|se<|aJ T.oy (xb T) hr<|ac (dv 0)<|ac (dv 1)<|ac (dv 2) an) s0),?_};cases b with|none=>exact (!!⟨br<|fo q⟩)|some g=>exact !!⟨dP !!!{cs,ps,wy,g,rfl,hg,hp,h8,hv g rfl,fo q}⟩
inductive nG (ds:List D) (S:ay) (R:KD) (Z:KX):Prop where
 |mk (n:Int) (h0:ds=[.int n]) (h1:1<=n) (h2:n<=1000) (h3:R .av S):nG ds S R Z
theorem uy(T:Txt w K mg t):Ok P w base T.l5 2 nG:=by refine T.l5.F.ck uh ?_;rintro _ _ _ _ _ _ _ S R Z hr ⟨n,e,h1,h2,q⟩;subst e;refine{_,(s1<|si (twd<|twor (bZ<|tv<|aJ T.jH (jS T) hr<|ac (dv 0) an)<|tw1<|bZ<|Wf jy jy hr.u di (dv 0)<|dg (v:=.int 1000) T.wc {_,rfl} λ_=>aN _) (s1<|p8 ⟨T.ou⟩ T.Ck<|ac ds an) s0),?_};refine !{.int n,rfl,gt_int,_,rfl,br !!⟨kQ (zw h1) !⟨?_⟩⟩};exact aV (by show(!decide (n<=1000))=false;rw[zw h2];rfl)<|fo q
inductive nH (ds:List D) (S:ay) (R:KD) (Z:KX):Prop where
 |mk (cs ps wy d n b) (h0:ds=[.tup<|cs.map aw,bU ps wy,d,.int n,MF b]) (h1:Gd cs) (h2:Og cs ps wy) (h3:Sg cs 4 d) (h4:1<=n) (h5:n<=1000) (h6:Bg cs ps b) (h7:R .av S):nH ds S R Z
theorem lF(T:Txt w K mg t):Ok P w base T.iT 8 nH:=by refine T.iT.F.ck ug ?_;rintro _ _ _ _ _ _ _ S R Z hr ⟨cs,ps,wy,d,n,b,e,hg,ho,hd,h1,h2,hv,q⟩;subst e;refine{_,(sc (se<|aJ T.f_ (j5 T) hr<|ac (dv 0)<|ac (dv 1) an)<|sc (se<|aJ T.jK (sV T) hr<|ac (dv 0)<|ac (dv 2) an)<|sc (se<|aJ T.l5 (uy T) hr<|ac (dv 3) an)<|s1<|se<|aJ T.jM (tq T) hr<|ac (dv 0)<|ac (dv 1)<|ac (dv 4) an),?_};refine !!{cs,ps,wy,rfl,hg,ho.tx,λ_=>?_,λz=>tf ho.ok z};refine !!{cs,d,rfl,hg,hd,_,rfl,n,rfl,h1,h2,?_};exact !!!{cs,ps,wy,b,rfl,hg,ho.pin,ho.len,hv,fo q}
structure An(cs:List (Str×Str))(ps:List Part)(wy:Str)(A:List Row):Prop where
 rg:Rg cs A
 ky:∀r∈A,r.1∈KS
 pw:A.Pairwise λa b=>a_ cs wy ps a b=true
noncomputable def gP(cs:List<|Str×Str)(ps:List Part)(wy:Str)(g:ux)(r:Row):Bool:=Vx (qU ps wy) (AL g) g.2.2<|AK cs ps r
theorem MG:(qU ps wy).length=(W0 cs ps).length:=by unfold qU W0;simp
theorem An.lex(hg:Gd cs)(hp:Pin cs ps)(h:An cs ps wy A):A.Pairwise λa b=>cN (qU ps wy) (AK cs ps a) (AK cs ps b)<0:=by have nd:A.Pairwise λa b=>a.1≠b.1:=List.pairwise_map.mp h.rg.2;refine(h.pw.and nd).imp_of_mem λ{a b} ha hb q=>?_;exact(EM hg (h.rg.1 a ha) (h.rg.1 b hb) (h.ky a ha) (h.ky b hb) q.2 hp).mp q.1
theorem An.mono(hg:Gd cs)(hp:Pin cs ps)(h:An cs ps wy A)(hv:Gp cs ps g):A.Pairwise λa b=>gP cs ps wy g b=true->gP cs ps wy g a=true:=by refine(h.lex hg hp).imp_of_mem λ{a b} ha hb q=>?_;exact Vy MG (JL hg hp (h.rg.1 a ha)<|h.ky a ha) (JL hg hp (h.rg.1 b hb)<|h.ky b hb) hv.vs q
inductive tw (ds:List D) (S:ay) (R:KD) (Z:KX):Prop where
 |mk (cs ps wy r) (h0:ds=[.tup<|cs.map aw,bU ps wy,aj r]) (h1:Gd cs) (h2:Pin cs ps) (h3:ps.length<=8) (h4:Wg cs r.2) (h5:R (GQ (ps.map λp=>ai cs r.2 p.1) r.1) S):tw ds S R Z
theorem AM(T:Txt w K mg t):Ok P w base T.sx 3 tw:=by
 refine T.sx.F.ck pH ?_;rintro _ _ _ _ _ _ _ S R Z hr ⟨cs,ps,wy,r,e,hg,hp,h8,hw,q⟩;subst e;refine{_,(sc (LH (i:=3) (N:=["part","columns","row"]) (src:=[none,some 0,some 2]) pH.nd (i6 (ae Cc) ["columns","order","row","values"] rfl rfl<|by trivial) (FP<|ix hr.u (dv 1) di) (mm<|show(["part","columns","row"]:List Str).Nodup by trivial) (aO rfl) aP (λ_ _ _ _ _=>px) λ_ _ _ _ _=>(aJ T.cz (dr T) hr<|ac (dv 1)<|ac (dv 2)<|ac (ix hr.u (dv 0) di) an))<|s1<|sr<|cy<|ac (ct fU T.bu aW<|ac (dv 3) an)<|ac (ix hr.u (dv 2) di) an),?_};refine !!{_,.inl rfl,?_};refine comp_map (λd=>match d with|.tup (.str z::_)=>ai cs r.2 z|_=>.av) trivial (by show(ps.map p3).length<=_;rw[zb];lia) (λd hd Q hQ=>?_) λp l9=>?_;obtain⟨pt,Vz,rfl⟩:=ze.mp hd;obtain⟨c,hc,ec⟩:=hp pt Vz;refine !!!!{cs,r,c,(by rw[ec];rfl),hg,hw,hc,?_};rw[ec];exact hQ;have e3:(ps.map p3).map (λd=>match d with|.tup (.str z::_)=>ai cs r.2 z|_=>.av)=ps.map λp=>ai cs r.2 p.1:=by rw[zt];rfl
 rw[show({ps.map p3,λ_=>True}:vW).xs=ps.map p3 from rfl,e3];exact !{_,_,rfl,.inl aa,_,rfl,_,rfl,bC,S,.new l9,q}
inductive gw (ds:List D) (S:ay) (R:KD) (Z:KX):Prop where
 |mk (ps:List Part) (wy:Str) (xs:List D) (k:Str) (ys:List D) (l:Str) (ks:List Str) (h0:ds=[bU ps wy,GQ xs k,GQ ys l]) (h1:ps.length=xs.length) (h2:ps.length=ys.length) (h3:Paired (λk x=>Vg k x) ks xs) (h4:Paired (λk x=>Vg k x) ks ys) (h5:k∈KS) (h6:l∈KS) (h7:R (.int<|cN (qU ps wy) (xs++[.str k])<|ys++[.str l]) S):gw ds S R Z
theorem mj(T:Txt w K mg t):Ok P w base T.eR 3 gw:=by refine T.eR.F.ck bI ?_;rintro _ _ _ _ _ _ _ S R Z hr ⟨ps,wy,xs,k,ys,l,ks,e,h1,h2,vx,vy,hk,hl,q⟩;subst e;refine{_,(sc (xW<|FR (ZF T.y8<|ac (ix hr.u (dv 0) di)<|ac (ix hr.u (dv 1) di)<|ac (ix hr.u (dv 2) di) an) (gt (n:=3)<|gc (gn (i:=3) bI.nd)<|gc (gn (i:=4) bI.nd)<|gc (gn (i:=5) bI.nd) g0)<|sc (cC (i:=6) bI.nd<|aJ T.compared (pS T) hr<|ac (dv 4)<|ac (dv 5)<|ac (ix hr.u (dv 3) di)<|ac (ix hr.u (dv 3) di) an)<|s1<|si (bp iI hr.u (dv 6) di) (s1<|sr<|dv 6) s0)<|s1<|sr<|aJ T.compared (pS T) hr<|ac (ix hr.u (dv 1) di)<|ac (ix hr.u (dv 2) di)<|ac (ix hr.u (dv 0) di)<|ac ds an),?_};refine{λaF S'=>∃(o3 o4 o5 o6:Option D),aF=[some<|bU ps wy,some<|GQ xs k,some<|GQ ys l,o3,o4,o5,o6]/\S'=S/\cN (qU ps wy) (xs++[.str k]) (ys++[.str l])=cV wy "last" (.str k) (.str l),?_,?_};{refine !!!!!!{_,_,_,rfl,by rw[zb];exact h1,by rw[zb];exact h2,?_};refine{λi aF S'=>∃(o3 o4 o5 o6:Option D),aF=[some<|bU ps wy,some<|GQ xs k,some<|GQ ys l,o3,o4,o5,o6]/\S'=S/\cN (qU ps wy) (xs++[.str k]) (ys++[.str l])=cN (qU (ps.drop i) wy) (xs.drop i++[.str k]) (ys.drop i++[.str l]),{_,_,_,_,rfl,rfl,rfl},λ_ _ _ _=>trivial,?_,?_};rintro i d aF S' hd ⟨o3,o4,o5,o6,rfl,rfl,he⟩;obtain⟨x,y,z,e1,e2,e3,rfl⟩:=oj hd;rw[zp]at e1;(cases e5:ps[i]? with|none=>(rw[e5]at e1;cases e1)|some p=>rw[e5]at e1;cases e1;obtain⟨i1,g1⟩:=zf.mp e5;obtain⟨i2,g2⟩:=zf.mp e2;obtain⟨i3,g3⟩:=zf.mp e3;rw[yd i1,yd i2,yd i3,g1,g2,g3]at he;have he:_=if cV p.2.1 p.2.2 y z=0 then cN (qU (ps.drop<|i+1) wy) (xs.drop (i+1)++[.str k]) (ys.drop (i+1)++[.str l]) else cV p.2.1 p.2.2 y z:=he;obtain⟨k1,q1,v1⟩:=cI vx e2;obtain⟨k2,q2,v2⟩:=cI vy e3;cases q1.symm.trans q2;refine !{rfl,_,_,rfl,_,_,rfl,_,_,rfl,rfl,?_};refine !!!!!!{y,z,p.2.1,p.2.2,rfl,⟨k1,v1,v2⟩,_,rfl,_,rfl,bB (λh=>?_) λh=>?_};have h:(!decide (cV p.2.1 p.2.2 y z=0))=true:=h;rw[if_neg<|zO<|nt h]at he;rw[he]at q;exact{_,rfl,fo q};have h:(!decide (cV p.2.1 p.2.2 y z=0))=false:=h;rw[if_pos<|zB<|nf h]at he;exact{_,_,_,_,rfl,rfl,he});{rintro aF S' ⟨o3,o4,o5,o6,rfl,rfl,he⟩;have he:_=cN (qU (ps.drop (jA (ps.map p3) xs ys).length) wy) (xs.drop (jA (ps.map p3) xs ys).length++[.str k]) (ys.drop (jA (ps.map p3) xs ys).length++[.str l]):=he;rw[oi (by rw[zb];exact h1)<|by rw[zb];exact h2,zb,List.drop_length,h1,List.drop_length,<-h1,h2,List.drop_length]at he;refine fo {o3,o4,o5,o6,rfl,rfl,he.trans ?_};show(if cV wy "last" (.str k) (.str l)=0 then 0 else cV wy "last" (.str k) (.str l))=_;split;{next h=>exact h.symm};rfl}};rintro aF S' ⟨o3,o4,o5,o6,rfl,rfl,he⟩;rw[he]at q;exact !!!!!!{_,_,_,_,rfl,{_,jh k hk,jh l hl},fo q}
inductive tD (ds:List D) (S:ay) (R:KD) (Z:KX):Prop where
 |mk (cs ps wy r g) (h0:ds=[bU ps wy,GQ (ps.map λp=>ai cs r.2 p.1) r.1,GR g]) (h1:Gd cs) (h2:Pin cs ps) (h3:Wg cs r.2) (h4:r.1∈KS) (h5:Gp cs ps g) (h6:R (.bl<|gP cs ps wy g r) S):tD ds S R Z
theorem AN(T:Txt w K mg t):Ok P w base T.sy 4 tD:=by refine T.sy.F.ck pI ?_;rintro _ _ _ _ _ _ _ S R Z hr ⟨cs,ps,wy,r,g,e,hg,hp,hw,hk,hv,q⟩;subst e;refine{_,(sc (cC (i:=3) pI.nd<|aJ T.eR (mj T) hr<|ac (dv 0)<|ac (dv 1)<|ac (ix hr.u (dv 2) di) an)<|sc (si (bp aL hr.u (dv 3) di) (s1<|sr<|cm aL hr.u (ix hr.u (dv 2) di) ds) s0)<|s1<|sr<|cm mF hr.u (dv 3) di),?_};refine !!!!{ps,wy,_,r.1,g.1,g.2.1,_,rfl,by rw[zb],hv.len.symm,xa hg hp hw,hv.pv,hk,hv.key,_,rfl,_,rfl,?_};unfold gP Vx at q;change R (.bl<|decide (cN (qU ps wy) ((ps.map λp=>ai cs r.2 p.1)++[.str r.1]) (g.1++[.str g.2.1])<0)||decide (cN (qU ps wy) ((ps.map λp=>ai cs r.2 p.1)++[.str r.1]) (g.1++[.str g.2.1])=0)&&decide (g.2.2 ="behind")) S at q;generalize cN (qU ps wy) _ _=n at q⊢;refine bB (λh=>?_) λh=>?_;have h:n=0:=zB h;subst h;exact !!⟨fo q⟩;have h:¬n=0:=zO h;rw[zu h,zS,Bool.or_false]at q;exact{_,rfl,fo q}
inductive lG (ds:List D) (S:ay) (R:KD) (Z:KX):Prop where
 |mk (cs ps wy A l g) (h0:ds=[.tup<|cs.map aw,bU ps wy,.ref l,GR g]) (h1:Gd cs) (h2:Pin cs ps) (h3:ps.length<=8) (h4:S l=some (.lst<|A.map aj)) (h5:An cs ps wy A) (h6:Gp cs ps g) (h7:R (.int ((A.countP (gP cs ps wy g):Nat):Int)) S):lG ds S R Z
theorem j9(T:Txt w K mg t):Ok P w base T.gb 5 lG:=by
 refine T.gb.F.ck b_ ?_;rintro _ _ _ _ _ _ _ S R Z hr ⟨cs,ps,wy,A,l,g,e,hg,hp,h8,hl,hA,hv,q⟩;subst e;refine{_,(sc (cC (i:=4) b_.nd di)<|sc (cC (i:=5) b_.nd<|cb bb T.aX aG<|ac (dv 2) an)<|sc (xW<|swh (bp mF hr.u (dv 4)<|dv 5)<|sc (cC (i:=6) b_.nd<|bo vT hr.u (bo bM hr.u (dv 4)<|dv 5) di)<|s1<|si (tv<|aJ T.sy (AN T) hr<|ac (dv 1)<|ac (aJ T.sx (AM T) hr<|ac (dv 0)<|ac (dv 1)<|ac (ix hr.u (dv 2)<|dv 6) an)<|ac (dv 3) an) (s1<|cC (i:=4) b_.nd<|bo bM hr.u (dv 6) di)<|s1<|cC (i:=5) b_.nd<|dv 6)<|s1<|sr<|dv 4),?_};refine !!⟨.inl {_,hl,?_}⟩;rw[zb];refine{λaF S'=>∃(o6:Option D),aF=[some<|.tup<|cs.map aw,some<|bU ps wy,some<|.ref l,some<|GR g,some<|.int ((A.countP (gP cs ps wy g):Nat):Int),some<|.int ((A.countP (gP cs ps wy g):Nat):Int),o6]/\S'=S,?_,?_};refine{λm aF S'=>∃(lo hi:Nat)(o6:Option D),aF=[some<|.tup<|cs.map aw,some<|bU ps wy,some<|.ref l,some<|GR g,some<|.int (lo:Nat),some<|.int (hi:Nat),o6]/\S'=S/\m=hi-lo/\lo<=hi/\hi<=A.length/\(∀i a,i<lo->A[i]?=some a->gP cs ps wy g a=true)/\(∀i a,hi<=i->A[i]?=some a->gP cs ps wy g a=false),{_,0,A.length,none,rfl,rfl,rfl,zY _,zo _,λi a h=>absurd h<|Nat.not_lt_zero _,λi a h e=>?_},?_};rw[List.getElem?_eq_none h]at e;cases e;rintro m aF S' ⟨lo,hi,o6,rfl,rfl,rfl,h1,h2,b1,b2⟩;refine !!!⟨bB (λh=>?_) λh=>?_⟩;have h:lo<hi:=by have:=zB h;lia
 have hm:(lo+hi)/2<A.length:=by lia
 have em:=zh hm;generalize A[(lo+hi)/2]=r at em;have vh:=zK em;have ed:(((lo:Nat):Int)+((hi:Nat):Int))/2=(((lo+hi)/2:Nat):Int):=by lia
 have mono:=hA.mono hg hp hv;refine !!⟨{by decide,by decide},?_⟩;rw[ed];refine !!!!!{_,aj r,hl,d_<|by rw[zp,em];rfl,cs,ps,wy,r,rfl,hg,hp,h8,hA.rg.1 r vh,_,rfl,cs,ps,wy,r,g,rfl,hg,hp,hA.rg.1 r vh,hA.ky r vh,hv,_,rfl,bB (λz=>?_) λz=>?_};refine !{hi-((lo+hi)/2+1),by lia,(lo+hi)/2+1,hi,_,rfl,rfl,rfl,by lia,h2,λi a Uw ei=>?_,b2};rcases Nat.lt_or_ge i ((lo+hi)/2) with eN|Wx;exact List.pairwise_iff_getElem.mp mono i _ (zf.mp ei).1 hm eN |> λk=>by rw[(zf.mp ei).2,(zf.mp em).2]at k;exact k z
 have:i=(lo+hi)/2:=by lia
 subst this;rw[em]at ei;cases ei;exact z;refine !{(lo+hi)/2-lo,by lia,lo,(lo+hi)/2,_,rfl,rfl,rfl,by lia,by lia,b1,λi a Uw ei=>?_};rcases Nat.lt_or_ge ((lo+hi)/2) i with eN|Wx;cases qa:gP cs ps wy g a with|false=>rfl|true=>have k:=List.pairwise_iff_getElem.mp mono _ i hm (zf.mp ei).1 eN;rw[(zf.mp ei).2,(zf.mp em).2]at k;exact tf (k qa) z
 have:i=(lo+hi)/2:=by lia
 subst this;rw[em]at ei;cases ei;exact z;have h:lo=hi:=by have:=zO h;lia
 subst h;have:=QQ (hA.mono hg hp hv) h2 b1 b2;subst this;exact fo !⟨rfl⟩;rintro aF S' ⟨o6,rfl,rfl⟩;exact{_,rfl,fo q}
noncomputable def seg{α:Type}(A:List α)(b e:Nat):List α:=(A.drop b).take<|e-b
theorem EO(h:b<=e)(h2:e<=A.length):(seg A b e).length=e-b:=by unfold seg;rw[zV,yC];omega
theorem ER(h:b<=e)(h2:e<=A.length):e_ (A.map aj) (some ((b:Nat):Int)) (some ((e:Nat):Int))=(seg A b e).map aj:=by unfold e_ seg;rw[HT.sIx_nat,HT.sIx_nat,zb,Nat.min_eq_left h2,Nat.min_eq_left<|zG h h2,List.map_take,List.map_drop]
noncomputable def Bd(p:Addr)(b c:Nat):D:=.tup [.ref p,.int (b:Nat),.int (c:Nat)]
noncomputable def QR(cs:List<|Str×Str)(ps:List Part)(wy:Str)(A:List Row)(n:Nat):Option ux->Nat|none=>n|some g=>A.countP<|gP cs ps wy g
theorem QS(h:n<=A.length):∀b,QR cs ps wy A n b<=A.length|none=>h|some _=>List.countP_le_length
structure NX(cs:List (Str×Str))(ps:List Part)(wy:Str)(n:Nat)(d:D)(rows A:List Row):Prop where
 an:An cs ps wy A
 pm:A.Perm (rows.filter λr=>bf cs r n d)
theorem NX.one(hg:Gd cs)(hp:Pin cs ps)(h:NX cs ps wy n d rows A)(h':NX cs ps wy n d rows A'):A=A':=Mr hg hp h'.an.rg h.an.pw h'.an.pw<|h.pm.trans h'.pm.symm
def Kc(rows:List Row):Prop:=∀r∈rows,r.1∈KS
theorem JM{cs:List<|Str×Str}{ps:List Part}{wy:Str}{n:Nat}{d:D}{rows A:List Row}(hr:Rg cs rows)(hk:Kc rows)(pm:A.Perm<|rows.filter λr=>bf cs r n d)(pw:A.Pairwise λa b=>a_ cs wy ps a b=true):NX cs ps wy n d rows A:={{(hr.sub yq).perm pm,λr h=>hk r (yn.mp<|pm.mem_iff.mp h).1,pw},pm}
noncomputable def AO(A:List Row)(b n:Nat):Nat:=min (b+n) A.length
def VA(t:hW)(f:List (Str×Str)->List Part->Str->List Row->Option ux->Nat->Nat×Nat):iJ:=λds S R _=>∃(a:Addr)(cs:List (Str×Str))(ps:List Part)(wy:Str)(d m:D)(n:Nat)(b:Option ux)(rows:List Row),ds=[.ref a,bU ps wy,d,.int (n:Nat),MF b,m]/\Gd cs/\Og cs ps wy/\Sg cs 4 d/\1<=n/\n<=1000/\Bg cs ps b/\Vw t.au S a cs m rows/\Kc rows/\Tb t S/\∀(A:List Row)(p:Addr),NX cs ps wy 4 d rows A->S p=none->R (Bd p (f cs ps wy A b n).1<|A.length-(f cs ps wy A b n).2) (S.set p<|.lst<|(seg A (f cs ps wy A b n).1 (f cs ps wy A b n).2).map aj)
noncomputable def oS(cs:List<|Str×Str)(ps:List Part)(wy:Str)(A:List Row)(b:Option ux)(n:Nat):Nat×Nat:=(QR cs ps wy A 0 b,AO A (QR cs ps wy A 0 b) n)
noncomputable def tE(cs:List<|Str×Str)(ps:List Part)(wy:Str)(A:List Row)(b:Option ux)(n:Nat):Nat×Nat:=(QR cs ps wy A A.length b-n,QR cs ps wy A A.length b)
theorem ES{S:ay}{p q:Addr}{c e:Ce}(h:S q=none)(hp:S p=none)(hn:q≠p):Sub (S.set q e) ((S.set p c).set q e):=λb x hb=>by by_cases z:b=q;subst z;rw[aa]at hb⊢;exact hb;rw[ag z]at hb⊢;rw[ag<|fS hb hp];exact hb
inductive j_ (ds:List D) (S:ay) (R:KD) (Z:KX):Prop where
 |mk (l:Addr) (A:List Row) (b e:Nat) (h0:ds=[.ref l,.int (b:Nat),.int (e:Nat)]) (h1:S l=some (.lst<|A.map aj)) (h2:b<=e) (h3:e<=A.length) (h4:∀p,S p=none->R (Bd p b<|A.length-e) (S.set p<|.lst<|(seg A b e).map aj)):j_ ds S R Z
theorem ji(T:Txt w K mg t):Ok P w base T.fb 1 j_:=by refine T.fb.F.ck ql ?_;rintro _ _ _ _ _ _ _ S R Z hr ⟨l,A,b,e,e0,hl,h1,h2,q⟩;subst e0;refine{_,(s1<|sr<|cy<|ac (WJ (dv 0) (o1<|dv 1)<|o1<|dv 2)<|ac (dv 1)<|ac (bo g7 hr.u (cb bb T.aX aG<|ac (dv 0) an)<|dv 2) an),?_};refine !!!!!{_,hl,λp hp=>?_};rw[ER h1 h2];refine !!!⟨.inl {_,(Sub.new hp) _ _ hl,_,rfl,gJ,?_}⟩;rw[zb,show((A.length:Nat):Int)-((e:Nat):Int)=((A.length-e:Nat):Int) by omega];exact fo<|q p hp
inductive pU (ds:List D) (S:ay) (R:KD) (Z:KX):Prop where
 |mk (l:Addr) (A:List Row) (b n:Nat) (h0:ds=[.ref l,.int (b:Nat),.int (n:Nat)]) (h1:S l=some (.lst<|A.map aj)) (h2:b<=A.length) (h3:∀p,S p=none->R (Bd p b<|A.length-AO A b n) (S.set p<|.lst<|(seg A b<|AO A b n).map aj)):pU ds S R Z
theorem xc(T:Txt w K mg t):Ok P w base T.oA 2 pU:=by
 refine T.oA.F.ck wK ?_;rintro _ _ _ _ _ _ _ S R Z hr ⟨l,A,b,n,e0,hl,h1,q⟩;subst e0;refine{_,(s1<|sr<|aJ T.fb (ji T) hr<|ac (dv 0)<|ac (dv 1)<|ac (cb Nk T.NI HP<|ac (bo bM hr.u (dv 1)<|dv 2)<|ac (cb bb T.aX aG<|ac (dv 0) an) an) an),?_};refine !!!!!!⟨.inl {_,hl,_,_,rfl,?_}⟩;rw[zb];have e1:(if decide (((A.length:Nat):Int)<((b:Nat):Int)+((n:Nat):Int))=true then ((A.length:Nat):Int) else ((b:Nat):Int)+((n:Nat):Int))=((AO A b n:Nat):Int):=by unfold AO;by_cases h:((A.length:Nat):Int)<((b:Nat):Int)+((n:Nat):Int);rw[if_pos<|zw h];omega;rw[if_neg<|by rw[zu h];exact zd];omega
 rw[e1];exact{l,A,b,AO A b n,rfl,hl,by unfold AO;omega,by unfold AO;omega,λp hp=>fo<|q p hp}
inductive nI (ds:List D) (S:ay) (R:KD) (Z:KX):Prop where
 |mk (l:Addr) (A:List Row) (e n:Nat) (h0:ds=[.ref l,.int (e:Nat),.int (n:Nat)]) (h1:S l=some (.lst<|A.map aj)) (h2:e<=A.length) (h3:∀p,S p=none->R (Bd p (e-n)<|A.length-e) (S.set p<|.lst<|(seg A (e-n) e).map aj)):nI ds S R Z
theorem uz(T:Txt w K mg t):Ok P w base T.l4 2 nI:=by
 refine T.l4.F.ck uf ?_;rintro _ _ _ _ _ _ _ S R Z hr ⟨l,A,e,n,e0,hl,h1,q⟩;subst e0;refine{_,(s1<|sr<|aJ T.fb (ji T) hr<|ac (dv 0)<|ac (cb Nl T.NJ IJ<|ac (bo g7 hr.u (dv 1)<|dv 2)<|ac di an)<|ac (dv 1) an),?_};refine !!!{_,_,rfl,?_};have e1:(if decide (((e:Nat):Int)-((n:Nat):Int)<0)=true then (0:Int) else ((e:Nat):Int)-((n:Nat):Int))=((e-n:Nat):Int):=by by_cases h:((e:Nat):Int)-((n:Nat):Int)<0;rw[if_pos<|zw h];omega;rw[if_neg<|by rw[zu h];exact zd];omega
 rw[e1];exact !{l,A,e-n,e,rfl,hl,Nat.sub_le _ _,h1,λp hp=>fo<|q p hp}
def NY(f:List (Str×Str)->List Part->Str->List Row->Option ux->Nat->Nat×Nat):iJ:=λds S R _=>∃(cs:List (Str×Str))(ps:List Part)(wy:Str)(l:Addr)(A:List Row)(n:Nat)(b:Option ux),ds=[.tup<|cs.map aw,bU ps wy,.ref l,.int (n:Nat),MF b]/\Gd cs/\Pin cs ps/\ps.length<=8/\S l=some (.lst<|A.map aj)/\An cs ps wy A/\Bg cs ps b/\∀p,S p=none->R (Bd p (f cs ps wy A b n).1<|A.length-(f cs ps wy A b n).2) (S.set p<|.lst<|(seg A (f cs ps wy A b n).1 (f cs ps wy A b n).2).map aj)
theorem uA(T:Txt w K mg t):Ok P w base T.lZ 6 (NY oS):=by refine T.lZ.F.ck lj ?_;rintro _ _ _ _ _ _ _ S R Z hr ⟨cs,ps,wy,l,A,n,b,e0,hg,hp,h8,hl,hA,hb,q⟩;subst e0;refine{_,(sc (cC (i:=5) lj.nd<|Rx (bp fP hr.u (dv 4) dn) di<|aJ T.gb (j9 T) hr<|ac (dv 0)<|ac (dv 1)<|ac (dv 2)<|ac (dv 4) an)<|s1<|sr<|aJ T.oA (xc T) hr<|ac (dv 2)<|ac (dv 5)<|ac (dv 3) an),?_};cases b with|none=>exact (!!⟨dP !!!{l,A,0,n,rfl,hl,zY _,λp hp=>fo<|q p hp}⟩)|some g=>exact !!⟨br !!!!{cs,ps,wy,A,l,g,rfl,hg,hp,h8,hl,hA,hb g rfl,_,rfl,_,rfl,_,rfl,l,A,_,n,rfl,hl,List.countP_le_length,λp hp=>fo<|q p hp}⟩
theorem qr(T:Txt w K mg t):Ok P w base T.iS 6 (NY tE):=by refine T.iS.F.ck jc ?_;rintro _ _ _ _ _ _ _ S R Z hr ⟨cs,ps,wy,l,A,n,b,e0,hg,hp,h8,hl,hA,hb,q⟩;subst e0;refine{_,(sc (cC (i:=5) jc.nd<|Rx (bp fP hr.u (dv 4) dn) (cb bb T.aX aG<|ac (dv 2) an)<|aJ T.gb (j9 T) hr<|ac (dv 0)<|ac (dv 1)<|ac (dv 2)<|ac (dv 4) an)<|s1<|sr<|aJ T.l4 (uz T) hr<|ac (dv 2)<|ac (dv 5)<|ac (dv 3) an),?_};cases b with|none=>refine !!⟨dP !!⟨.inl {_,hl,?_}⟩⟩;rw[zb];exact (!!!{l,A,A.length,n,rfl,hl,zo _,λp hp=>fo<|q p hp})|some g=>exact !!⟨br !!!!{cs,ps,wy,A,l,g,rfl,hg,hp,h8,hl,hA,hb g rfl,_,rfl,_,rfl,_,rfl,l,A,_,n,rfl,hl,List.countP_le_length,λp hp=>fo<|q p hp}⟩
theorem Dd(T:Txt w K mg t)(B:Bm mg base):Ok P w base T.qL 10 (VA t oS):=by
 refine T.qL.F.ck CB ?_;rintro _ _ _ _ _ _ _ S R Z hr ⟨a,cs,ps,wy,d,m,n,b,rows,e0,hg,ho,hd,h1,h2,hb,hv,hk,ht,q⟩;subst e0;obtain⟨F,dl,rs,hS,hn,WX,WY⟩:=hv.sh;obtain⟨ld,lr,ra,h,_⟩:=id hS;refine{_,(sc (se<|aJ T.iT (lF T) hr<|ac (t5 (dv 0) T.aq T.ba (cg T) hr)<|ac (dv 1)<|ac (dv 2)<|ac (dv 3)<|ac (dv 4) an)<|s1<|sr<|aJ T.lZ (uA T) hr<|ac (t5 (dv 0) T.aq T.ba (cg T) hr)<|ac (dv 1)<|ac (aJ T.dF (gu T B) hr<|ac (dv 0)<|ac (dv 1)<|ac (dv 2)<|ac (dv 5) an)<|ac (dv 3)<|ac (dv 4) an),?_};refine !{a,_,rfl,h.ins,rfl,a,F,cs,dl,rs,rfl,hS,_,rfl,_,rfl,_,rfl,_,rfl,cs,ps,wy,d,n,b,rfl,hg,ho,hd,by omega,by omega,hb,?_};refine !{a,_,rfl,h.ins,rfl,a,F,cs,dl,rs,rfl,hS,_,rfl,_,rfl,_,rfl,_,rfl,_,rfl,a,cs,ps,wy,d,m,rows,rfl,hg,ho,hd,hv,ht,λA l pm pw hl=>?_};have an:=JM hv.rg hk pm pw;refine !!{cs,ps,wy,l,A,n,b,rfl,hg,ho.pin,ho.len,aa,an.an,hb,λp hp=>?_};have dO:p≠l:=λe=>by rw[e,aa]at hp;cases hp
 have AQ:S p=none:=by rw[ag dO]at hp;exact hp
 exact{_,ES AQ hl dO,q A p an AQ}
theorem xf(T:Txt w K mg t)(B:Bm mg base):Ok P w base T.kl 10 (VA t tE):=by
 refine T.kl.F.ck wJ ?_;rintro _ _ _ _ _ _ _ S R Z hr ⟨a,cs,ps,wy,d,m,n,b,rows,e0,hg,ho,hd,h1,h2,hb,hv,hk,ht,q⟩;subst e0;obtain⟨F,dl,rs,hS,hn,WX,WY⟩:=hv.sh;obtain⟨ld,lr,ra,h,_⟩:=id hS;refine{_,(sc (se<|aJ T.iT (lF T) hr<|ac (t5 (dv 0) T.aq T.ba (cg T) hr)<|ac (dv 1)<|ac (dv 2)<|ac (dv 3)<|ac (dv 4) an)<|s1<|sr<|aJ T.iS (qr T) hr<|ac (t5 (dv 0) T.aq T.ba (cg T) hr)<|ac (dv 1)<|ac (aJ T.dF (gu T B) hr<|ac (dv 0)<|ac (dv 1)<|ac (dv 2)<|ac (dv 5) an)<|ac (dv 3)<|ac (dv 4) an),?_};refine !{a,_,rfl,h.ins,rfl,a,F,cs,dl,rs,rfl,hS,_,rfl,_,rfl,_,rfl,_,rfl,cs,ps,wy,d,n,b,rfl,hg,ho,hd,by omega,by omega,hb,?_};refine !{a,_,rfl,h.ins,rfl,a,F,cs,dl,rs,rfl,hS,_,rfl,_,rfl,_,rfl,_,rfl,_,rfl,a,cs,ps,wy,d,m,rows,rfl,hg,ho,hd,hv,ht,λA l pm pw hl=>?_};have an:=JM hv.rg hk pm pw;refine !!{cs,ps,wy,l,A,n,b,rfl,hg,ho.pin,ho.len,aa,an.an,hb,λp hp=>?_};have dO:p≠l:=λe=>by rw[e,aa]at hp;cases hp
 have AQ:S p=none:=by rw[ag dO]at hp;exact hp
 exact{_,ES AQ hl dO,q A p an AQ}
structure Qs(t:hW)(S:ay)(a:Addr)(cs:List (Str×Str))(ps:List Part)(wy:Str)(d m:D)(rows:List Row):Prop where
 g:Gd cs
 o:Og cs ps wy
 s:Sg cs 4 d
 v:Vw t.au S a cs m rows
 k:Kc rows
 t:Tb t S
theorem Qs.sub{t:hW}{S S':ay}{a:Addr}{cs:List<|Str×Str}{ps:List Part}{wy:Str}{d m:D}{rows:List Row}(h:Qs t S a cs ps wy d m rows)(b:Sub S S'):Qs t S' a cs ps wy d m rows:={h.g,h.o,h.s,h.v.sub b,h.k,h.t.sub b}
section
variable{t:hW}{S:ay}{a:Addr}{cs:List (Str×Str)}{ps:List Part}{wy:Str}{d m:D}{rows:List Row}(hq:Qs t S a cs ps wy d m rows)
include hq
end
theorem MH{S:ay}{a b:Addr}{ds:List D}{R:KD}(e1:S a=some (.lst ds))(e2:S b=some (.lst []))(h:∀d∈ds,Ly S 60 d)(q:R (.bl<|!ds.isEmpty) S):HW true (.ref a) (.ref b) S R:=by obtain⟨ps,k1,k2,k3,k4⟩:=Ly.all h;refine{.list ps,.list [],⟨ds,ps,e1,rfl,k1⟩,{[],[],e2,rfl,by simp only[DpAll]},by simp only[PyData.canLay0];exact k2,by simp only[PyData.canLay0,PyData.canLayAll0],.inl<|by simp only[PyData.depth];lia,?_};rw[if_pos rfl,Ao,show ps.isEmpty=ds.isEmpty by cases ps<;>cases ds<;>first|rfl|cases k4];exact q
theorem MI{cs:List<|Str×Str}{rows:List Row}(hr:Rg cs rows)(hk:Kc rows){S:ay} : ∀d∈rows.map aj,Ly S 60 d:=λd hd=>by obtain⟨r,h,rfl⟩:=ze.mp hd;exact QP (hk r h)<|hr.1 r h
noncomputable def gOf(cs:List<|Str×Str)(ps:List Part)(sd:Str)(r:Row):ux:=(ps.map λp=>ai cs r.2 p.1,r.1,sd)
theorem QT{cs:List<|Str×Str}(hg:Gd cs){ps:List Part}(hp:Pin cs ps){r:Row}(hw:Wg cs r.2)(hk:r.1∈KS){sd:Str}(hs:EN sd=true):Gp cs ps (gOf cs ps sd r):={xa hg hp hw,hk,hs}
inductive AR (ds:List D) (S:ay) (R:KD) (Z:KX):Prop where
 |mk (l) (h0:ds=[.ref l]) (h1:S l=some .well) (h2:∀n:Nat,1<=n->n<=1000->R (.int (n:Nat)) S):AR ds S R Z
theorem MJ(T:Txt w K mg t):Ok P w base T.Cs 2 AR:=by
 refine T.Cs.F.ck Gu ?_;rintro _ _ _ _ _ _ _ S R Z hr ⟨l,e,hw,q⟩;subst e;refine{_,(s1<|sr<|uX<|ix hr.u (cG<|ac di<|ac di<|ac di<|ac (bo bM hr.u di<|aJ T.aY (bL T) hr<|ac (dv 0)<|ac di an)<|ac (bo bM hr.u di<|aJ T.aY (bL T) hr<|ac (dv 0)<|ac di an)<|ac di an)<|aJ T.aY (bL T) hr<|ac (dv 0)<|ac di an),?_};refine !{l,_,rfl,(by decide),(by decide),hw,λn1 a0 a1=>!{l,_,rfl,(by decide),(by decide),hw,λn2 b0 b1=>{ZH,λp hp=>!{l,_,rfl,(by decide),(by decide),wl hw hp,λn h0 h1=>cF h0 h1 hp λd hd=>?_}}}};have a1:n1<9:=a1;have b1:n2<40:=b1;have hd:d∈[D.int 1,.int 2,.int 3,.int<|1+n1,.int<|13+n2,.int 1000]:=hd;have one:∀i:Int,d=.int i->1<=i->i<=1000->Fo S (R d):=λi e h1 h2=>by obtain⟨m,rfl⟩:=Int.eq_ofNat_of_zero_le (show 0<=i by lia);rw[e];exact fo<|q m (by lia)<|by lia
 simp only[zj,zI,or_false]at hd;rcases hd with h|h|h|h|h|h<;>exact one _ h (by lia) (by lia)
inductive ET (ds:List D) (S:ay) (R:KD) (Z:KX):Prop where
 |mk (l cs ps wy lr rows) (h0:ds=[.ref l,.tup<|cs.map aw,bU ps wy,.ref lr]) (h1:Gd cs) (h2:Og cs ps wy) (h3:S l=some .well) (h4:S lr=some (.lst<|rows.map aj)) (h5:Rg cs rows) (h6:Kc rows) (h7:rows.length<=50) (h8:∀b,Bg cs ps b->R (MF b) S):ET ds S R Z
theorem MK(T:Txt w K mg t):Ok P w base T.IY 4 ET:=by
 refine T.IY.F.ck jP ?_;rintro _ _ _ _ _ _ _ S R Z hr ⟨l,cs,ps,wy,lr,rows,e,hg,ho,hw,uZ,hrg,hk,WS,q⟩;subst e;refine{_,(sc (cC (i:=4) jP.nd<|aJ T.aY (bL T) hr<|ac (dv 0)<|ac di an)<|sc (cC (i:=5) jP.nd<|uX<|ix hr.u (cG<|ac ds<|ac ds an)<|aJ T.aY (bL T) hr<|ac (dv 0)<|ac di an)<|sc (si (bp aL hr.u (dv 4) di) (s1<|sr dn) s0)<|sc (xW<|si (twd<|twand (bp mF hr.u (dv 4) di)<|tw1<|bp iI hr.u (dv 3)<|cG an) (sc (cC (i:=6) jP.nd<|ix hr.u (dv 3)<|aJ T.aY (bL T) hr<|ac (dv 0)<|ac (cb bb T.aX aG<|ac (dv 3) an) an)<|s1<|sr<|cy<|ac (cy<|ac (ct fU T.bu aW<|ac (p_ (N:=["_law_part","_law_columns_here","_law_row"]) (src:=[none,some 1,some 6]) (i6 (ae Em) ["_law_well_here","_law_columns_here","_law_order_here","_law_rows","_law_way","_law_side_here","_law_row","_law_kinds"] rfl rfl<|by trivial) (FP<|ix hr.u (dv 2) di) (mm<|show(["_law_part","_law_columns_here","_law_row"]:List Str).Nodup by trivial) (aO rfl) aP (λ_ _ _ _ _=>px) λ_ _ _ _ _=>(aJ T.Cq (AB T) hr<|ac (dv 1)<|ac (dv 2)<|ac (ix hr.u (dv 0) di) an)) an)<|ac (ix hr.u (dv 6) di) an)<|ac (dv 5) an) s0)<|sc (cC (i:=7) jP.nd<|ct Il T.IU DL<|ac (dv 1) an)<|s1<|sr<|cy<|ac (cy<|ac (ct fU T.bu aW<|ac (p_ (N:=["_law_part","_law_well_here","_law_kinds"]) (src:=[none,some 0,some 7]) (i6 (ae Em) ["_law_well_here","_law_columns_here","_law_order_here","_law_rows","_law_way","_law_side_here","_law_row","_law_kinds"] rfl rfl<|by trivial) (FP<|ix hr.u (dv 2) di) (mm<|show(["_law_part","_law_well_here","_law_kinds"]:List Str).Nodup by trivial) (aO rfl) aP (λ_ _ _ _ _=>px) λ_ _ _ _ _=>(aJ T.mV (sR T) hr<|ac (dv 1)<|ac (ix hr.u (dv 2)<|ix hr.u (dv 0) di) an)) an)<|ac (aJ T.z_ (CO T) hr<|ac (dv 0) an) an)<|ac (dv 5) an),?_};refine !{l,_,rfl,(by decide),(by decide),hw,λn a0 a1=>{bC,λp hp=>!{l,_,rfl,(by decide),(by decide),wl hw hp,λn2 h0 h1=>cF h0 h1 hp λd hd=>?_}}};obtain⟨sd,rfl,hsd⟩:∃sd:Str,d=.str sd/\EN sd=true:=by have hd:d∈[D.str "ahead",.str "behind"]:=hd;simp only[zj,zI,or_false]at hd;rcases hd with h|h;exact{_,h,by trivial};exact{_,h,by trivial}
 have h8:=ho.len;refine !!⟨bB (λh=>fo<|q none nofun) λh=>?_⟩;refine{λaF S'=>aF=[some<|D.ref l,some<|.tup<|cs.map aw,some<|bU ps wy,some<|.ref lr,some<|.int n,some<|.str sd,none,none]/\Sub S S',?_,?_};refine !!⟨bB (λh=>!{Ag,λp2 gU=>MH ((Sub.new gU) _ _ uZ) aa (MI hrg hk) !⟨bB (λh2=>?_) λh2=>?_⟩}) λh=>fo {rfl,.refl _}⟩;have h2:(!(rows.map aj).isEmpty)=true:=h2;have xK:0<rows.length:=by cases rows with|nil=>(cases h2)|cons _ _=>exact Nat.succ_pos _
 have vJ:=(Sub.new (c:=.lst []) gU) _ _ uZ;have qH:=wl (c:=.lst []) hw gU;refine !!!!⟨.inl {_,vJ,?_}⟩;rw[zb];refine{l,_,rfl,by lia,wZ (by lia)<|by lia,qH,λm m0 m1=>?_};obtain⟨k,rfl⟩:=Int.eq_ofNat_of_zero_le m0;have Ww:k<rows.length:=by lia
 have ek:=zh Ww;generalize rows[k]=r at ek;have vh:=zK ek;refine{_,aj r,vJ,d_<|by rw[zp,ek];rfl,?_};refine !!{_,.inl rfl,?_};refine comp_map (λd=>match d with|.tup (.str z::_)=>ai cs r.2 z|_=>.av) trivial (by show(ps.map p3).length<=_;rw[zb];lia) (λd hd Q hQ=>?_) λp l9=>?_;obtain⟨pt,Vz,rfl⟩:=ze.mp hd;obtain⟨c,hc,ec⟩:=ho.pin pt Vz;refine !!!!{cs,r,c,(by rw[ec];rfl),hg,hrg.1 r vh,hc,?_};rw[ec];exact hQ;have e3:(ps.map p3).map (λd=>match d with|.tup (.str z::_)=>ai cs r.2 z|_=>.av)=ps.map λp=>ai cs r.2 p.1:=by rw[zt];rfl
 rw[show({ps.map p3,λ_=>True}:vW).xs=ps.map p3 from rfl,e3];refine{_,_,rfl,.inl aa,_,rfl,_,rfl,bC,_,rfl,bC,S,(Sub.new gU).trans<|.new l9,?_};exact q (some<|gOf cs ps sd r) λg PZ=>by cases PZ;exact QT hg ho.pin (hrg.1 r vh) (hk r vh) hsd
 exact fo {rfl,.new gU};rintro aF S' ⟨rfl,sb⟩;have ek:cs.map aw=(cs.map λc=>(c.1,D.str c.2)).map D_:=by rw[zt];rfl
 refine !{(cs.map λc=>(c.1,D.str c.2)),by rw[ek],λpd hpd=>?_};have g1:=sb.trans<|Sub.new (c:=.cO<|gF<|cs.map λc=>(c.1,D.str c.2)) hpd;have s1:(S'.set pd<|.cO<|gF<|cs.map λc=>(c.1,D.str c.2)) pd=some (.cO<|gF<|cs.map λc=>(c.1,D.str c.2)):=aa;generalize S'.set pd (.cO<|gF<|cs.map λc=>(c.1,D.str c.2))=S1 at g1 s1⊢;refine !!{_,.inl rfl,?_};refine fI (λd v=>∃z w e,d=.tup [.str z,.str w,.str e]/\Vg (Bc cs z) v) trivial (by show(ps.map p3).length<=_;rw[zb];lia) (λd hd Q hQ=>?_) λout FX p l9=>?_;obtain⟨pt,Vz,rfl⟩:=ze.mp hd;obtain⟨c,hc,ec⟩:=ho.pin pt Vz;have h1:=uY (cs.map λc=>(c.1,D.str c.2)) pt.1;rw[show(cs.map λc=>(c.1,D.str c.2)).any (λq=>decide<|q.1=pt.1)=true from List.any_eq_true.mpr {_,ze.mpr ⟨c,hc,rfl⟩,zw ec}]at h1;cases q3:cn (gF<|cs.map λc=>(c.1,D.str c.2)) (.inr pt.1) with|none=>(rw[q3]at h1;cases h1)|some d=>obtain⟨p',L_,e1,rfl⟩:=nu _ _ q3;obtain⟨c',JZ,rfl⟩:=ze.mp L_;have e1:c'.1=pt.1:=e1;have J5:Bc cs pt.1=c'.2:=(by unfold Bc;rw[<-e1,(sX hg JZ).1];rfl);refine !!!!{_,_,s1,q3,l,_,rfl,?_,g1 _ _ hw,λv hv=>?_};rcases (hg.2.2 c' JZ).2 with h|h;exact .inl (by show[D.str c'.2]=_;rw[h]);exact .inr (by show[D.str c'.2]=_;rw[h]);obtain⟨k,ek,hv⟩:=hv;cases ek;exact hQ v {_,_,_,rfl,by rw[J5];exact hv}
 have hv:Paired (λk x=>Vg k x) (ps.map λp=>Bc cs p.1) out:=by have:∀{ps:List Part}{out:List D},Paired (λd v=>∃z w e,d=D.tup [.str z,.str w,.str e]/\Vg (Bc cs z) v) (ps.map p3) out->Paired (λk x=>Vg k x) (ps.map λp=>Bc cs p.1) out:=(by intro ps;induction ps with|nil=>(intro out h;cases h;exact .nil)|cons x ps ih=>intro out h;cases h with|cons r t=>obtain⟨z,w,e,e1,hv⟩:=r;injection e1 with e1;injection e1 with e1 _;injection e1 with e1;refine .cons ?_<|ih t;show Vg (Bc cs x.1) _;rw[show x.1=z from e1];exact hv);exact this FX
 refine{_,_,rfl,.inl aa,?_};have g2:=g1.trans<|Sub.new (c:=.lst out) l9;generalize S1.set p (.lst out)=S2 at g2⊢;refine !{l,_,rfl,rfl,g2 _ _ hw,λd hd=>?_};obtain⟨z,hz,rfl⟩:=hd;refine{bC,_,rfl,bC,S,g2,?_};exact q (some (out,z,sd)) λg PZ=>by cases PZ;exact{hv,Al hz,hsd}
structure Kq where
 (k a:Addr)
 ps:List Part
 wy:Str
noncomputable def JN(C:Addr)(q:Kq):Ce:=.ins C [("shelf",.ref q.a),("order",bU q.ps q.wy)]
inductive lH (t:hW) (ds:List D) (S:ay) (R:KD) (Z:KX):Prop where
 |mk (k:Addr) (cs:List<|Str×Str) (ps:List Part) (wy:Str) (h0:ds=[.ref k,.tup<|cs.map aw,bU ps wy]) (h1:Gd cs) (h2:Og cs ps wy) (h3:S k=some (.ins t.aI []))
  (h4:∀S' F a,cA t.au S' a F cs [] []->S' k=some (JN t.aI ⟨k,a,ps,wy⟩)->k∉F->(∀b c,b≠k->S b=some c->b∉F/\S' b=some c)->R .av S'):lH t ds S R Z
theorem JO(T:Txt w K mg t):v7 P w mg base T.eS 7 (lH t):=by refine T.eS.F.ck l7 ?_;rintro _ _ _ _ _ _ _ S R Z hr ⟨k,cs,ps,wy,e,hg,ho,hk,q⟩;subst e;refine{_,(sc (sf T.bH T.cU (dv 0)<|mk T.IX (Me T) (hr.mono<|by decide) T.IW T.fE.b d0<|ac (dv 1) an)<|sc (se<|aJ T.f_ (j5 T) hr<|ac (dv 1)<|ac (dv 2) an)<|s1<|sf T.bH T.eQ (dv 0)<|dv 2),?_};refine{_,rfl,λa ha=>{a,cs,rfl,hg,aa,λS1 F1 Ep RQ=>{rfl,?_}}};have nka:k≠a:=fS hk ha;obtain⟨kF,Ww⟩:=RQ k _ (λm=>nka<|zE.mp m)<|(ag nka).trans hk;refine !{k,[],rfl,Ww,(show 0<1000 by decide),?_};refine !!{cs,ps,wy,rfl,hg,ho.tx,λ_=>?_,λz=>by rw[ho.ok]at z;cases z};refine !!{k,[("shelf",.ref a)],rfl,aa,(show 1<1000 by decide),?_};refine fo<|q _ F1 a ((Ep.off kF).off kF) aa kF λb c n e=>?_;have nba:b≠a:=fS e ha;obtain⟨bF,hb1⟩:=RQ b c (λm=>nba<|zE.mp m)<|(ag nba).trans e;exact{bF,by rw[ag n,ag n];exact hb1}
inductive gR (t:hW) (ds:List D) (S:ay) (R:KD) (Z:KX):Prop where
 |mk (q:Kq) (d:D) (h0:ds=[.ref q.k,d]) (h1:S q.k=some (JN t.aI q)) (h2:Dos t [.ref q.a,d] S (λ_=>R .av) Z):gR t ds S R Z
theorem EU(T:Txt w K mg t):v7 P w mg base T.gk 8 (gR t):=by have GS:Ok P w base T.qN 7 (Mo<|NO t):=Mm<|Mn T;refine T.gk.F.ck sG ?_;rintro _ _ _ _ _ _ _ S R Z hr ⟨q,d,e,hk,h⟩;subst e;refine{_,(s1<|se<|aJ T.qN GS hr<|ac (fl T.bH T.cU<|dv 0)<|ac (dv 1) an),?_};exact !{q.k,_,_,rfl,hk,rfl,_,rfl,λ_=>R .av,Z,h.of,λd S' r=>fo r,λC S' z=>fo z}
inductive QU (t:hW) (f:List (Str×Str)->List Part->Str->List Row->Option ux->Nat->Nat×Nat) (ds:List D) (S:ay) (R:KD) (Z:KX):Prop where
 |mk (q:Kq) (cs:List<|Str×Str) (d:D) (n:Nat) (b:Option ux) (rows:List Row) (h0:ds=[.ref q.k,d,.int (n:Nat),MF b]) (h1:S q.k=some (JN t.aI q)) (h2:Qs t S q.a cs q.ps q.wy d .av rows) (h3:1<=n) (h4:n<=1000) (h5:Bg cs q.ps b)
  (h6:∀(A:List Row)(p:Addr),NX cs q.ps q.wy 4 d rows A->S p=none->R (Bd p (f cs q.ps q.wy A b n).1<|A.length-(f cs q.ps q.wy A b n).2) (S.set p<|.lst<|(seg A (f cs q.ps q.wy A b n).1 (f cs q.ps q.wy A b n).2).map aj)):QU t f ds S R Z
theorem NZ(T:Txt w K mg t)(B:Bm mg base):v7 P w mg base T.km 11 (QU t oS):=by refine T.km.F.ck wO ?_;rintro _ _ _ _ _ _ _ S R Z hr ⟨q,cs,d,n,b,rows,e,hk,hq,h1,h2,hb,g⟩;subst e;refine{_,(s1<|sr<|cf ((Dd T B).mono<|by decide) hr T.qL.m T.qL.k T.y4 d1<|ac (fl T.bH T.cU<|dv 0)<|ac (fl T.bH T.eQ<|dv 0)<|ac (dv 1)<|ac (dv 2)<|ac (dv 3) an),?_};exact !{q.k,_,_,rfl,hk,rfl,_,rfl,q.k,_,_,rfl,hk,rfl,_,rfl,_,rfl,_,rfl,q.a,cs,q.ps,q.wy,d,.av,n,b,rows,rfl,hq.g,hq.o,hq.s,h1,h2,hb,hq.v,hq.k,hq.t,λA p an hp=>fo<|g A p an hp}
theorem EV(T:Txt w K mg t)(B:Bm mg base):v7 P w mg base T.fY 11 (QU t tE):=by refine T.fY.F.ck sH ?_;rintro _ _ _ _ _ _ _ S R Z hr ⟨q,cs,d,n,b,rows,e,hk,hq,h1,h2,hb,g⟩;subst e;refine{_,(s1<|sr<|cf ((xf T B).mono<|by decide) hr T.kl.m T.kl.k T.t_ d1<|ac (fl T.bH T.cU<|dv 0)<|ac (fl T.bH T.eQ<|dv 0)<|ac (dv 1)<|ac (dv 2)<|ac (dv 3) an),?_};exact !{q.k,_,_,rfl,hk,rfl,_,rfl,q.k,_,_,rfl,hk,rfl,_,rfl,_,rfl,_,rfl,q.a,cs,q.ps,q.wy,d,.av,n,b,rows,rfl,hq.g,hq.o,hq.s,h1,h2,hb,hq.v,hq.k,hq.t,λA p an hp=>fo<|g A p an hp}
theorem Df{as bs:List D}{i:Nat}{d:D}(h:(bc as bs)[i]?=some d):∃x y,as[i]?=some x/\bs[i]?=some y/\d=.tup [x,y]:=by unfold bc at h;obtain⟨x,y,h1,h2,h3⟩:=List.getElem?_zipWith_eq_some.mp h;exact⟨x,y,h1,h2,h3.symm⟩
theorem EW{S:ay}{p:Addr}{R:KD}(hp:S p=none)(b:Bool)(q:R (.int<|if b=true then -1 else 1) S):Wj (.ref p) (.int<|if b=true then 1 else 0) (S.set p<|.lst [.int 1,.int (-1)]) λd S'=>Fo S' λS'=>Fo S' (R d):=by cases b<;>exact{_,_,aa,rfl,S,.new hp,fo q}
inductive AS (ds:List D) (S:ay) (R:KD) (Z:KX):Prop where
 |mk (cs ps wy r g) (h0:ds=[.tup<|cs.map aw,bU ps wy,aj r,GQ g.1 g.2.1]) (h1:Gd cs) (h2:Pin cs ps) (h3:Wg cs r.2) (h4:r.1∈KS) (h5:Gp cs ps g) (h6:R (.int<|cN (qU ps wy) (AK cs ps r)<|AL g) S):AS ds S R Z
theorem ML(T:Txt w K mg t):Ok P w base T.Cr 2 AS:=by refine T.Cr.F.ck kz ?_;rintro _ _ _ _ _ _ _ S R Z hr ⟨cs,ps,wy,r,g,e,hg,hp,hw,hk,hv,q⟩;subst e;have hl:ps.length=g.1.length:=hv.len.symm;refine{_,(sc (xW<|FR (WN T.y8<|ac (ix hr.u (dv 1) di)<|ac (ix hr.u (dv 3) di) an) (gt (n:=2)<|gc (gn (i:=4) kz.nd)<|gc (gn (i:=5) kz.nd) g0)<|sc (cC (i:=6) kz.nd<|aJ T.Cq (AB T) hr<|ac (dv 0)<|ac (dv 2)<|ac (ix hr.u (dv 4) di) an)<|sc (si (bp iI hr.u (cm fP hr.u (dv 6) dn)<|cm fP hr.u (dv 5) dn) (s1<|sr<|uX<|ix hr.u (cG<|ac di<|ac (HY di) an)<|ct mG T.lg gC<|ac (cm aL hr.u (cm fP hr.u (dv 6) dn)<|cm aL hr.u (ix hr.u (dv 4) di) ds) an) s0)<|s1<|si (bp iI hr.u (dv 6)<|dv 5) (s1<|sr<|uX<|ix hr.u (cG<|ac di<|ac (HY di) an)<|ct mG T.lg gC<|ac (cm aL hr.u (cm mF hr.u (dv 6)<|dv 5)<|cm aL hr.u (ix hr.u (dv 4) di) ds) an) s0)<|sc (si (bp aL hr.u (ix hr.u (dv 2) di)<|ix hr.u (dv 3) di) (s1<|sr di) s0)<|s1<|sr<|uX<|ix hr.u (cG<|ac di<|ac (HY di) an)<|ct mG T.lg gC<|ac (cm aL hr.u (cm mF hr.u (ix hr.u (dv 2) di)<|ix hr.u (dv 3) di)<|cm aL hr.u (ix hr.u (dv 1) di) ds) an),?_};refine{λaF S'=>∃(o4 o5 o6:Option D),aF=[some<|.tup<|cs.map aw,some<|bU ps wy,some<|aj r,some<|GQ g.1 g.2.1,o4,o5,o6]/\S'=S/\cN (qU ps wy) (AK cs ps r) (AL g)=cV wy "last" (.str r.1) (.str g.2.1),?_,?_};{refine !!!!{_,_,rfl,by rw[zb];exact hl,?_};refine{λi aF S'=>∃(o4 o5 o6:Option D),aF=[some<|.tup<|cs.map aw,some<|bU ps wy,some<|aj r,some<|GQ g.1 g.2.1,o4,o5,o6]/\S'=S/\cN (qU ps wy) (AK cs ps r) (AL g)=cN (qU (ps.drop i) wy) (AK cs (ps.drop i) r) (g.1.drop i++[.str g.2.1]),{_,_,_,rfl,rfl,rfl},λ_ _ _ _=>trivial,?_,?_};rintro i d aF S' hd ⟨o4,o5,o6,rfl,rfl,he⟩;obtain⟨x,y,e1,e2,rfl⟩:=Df hd;rw[zp]at e1;(cases e5:ps[i]? with|none=>(rw[e5]at e1;cases e1)|some p=>rw[e5]at e1;cases e1;obtain⟨c,hc,ec⟩:=hp p<|zK e5;obtain⟨i1,g1⟩:=zf.mp e5;obtain⟨i2,g2⟩:=zf.mp e2;rw[yd i1,yd i2,g1,g2]at he;have he:_=if cV p.2.1 p.2.2 (ai cs r.2 p.1) y=0 then cN (qU (ps.drop<|i+1) wy) (AK cs (ps.drop<|i+1) r) (g.1.drop (i+1)++[.str g.2.1]) else cV p.2.1 p.2.2 (ai cs r.2 p.1) y:=he;obtain⟨k1,q1,v1⟩:=cI (xa hg hp hw) (show(ps.map λp=>ai cs r.2 p.1)[i]?=some (ai cs r.2 p.1) by rw[zp,e5];rfl);obtain⟨k2,q2,v2⟩:=cI hv.pv e2;cases q1.symm.trans q2;have cm:Cm (ai cs r.2 p.1) y:=⟨k1,v1,v2⟩;refine !{rfl,_,_,rfl,_,_,rfl,rfl,?_};refine !!!!{cs,r,c,(by rw[ec];rfl),hg,hw,hc,?_};rw[ec];have e0:=nF (w:=p.2.1) (e:=p.2.2) cm;refine !!⟨?_⟩;dsimp only[dC,Ry];refine gv !⟨bB (λh=>?_) λh=>?_⟩;have h:(!(ah (ai cs r.2 p.1)==ah y))=true:=h;have Ba:ah (ai cs r.2 p.1)≠ah y:=λe=>(by rw[e]at h;simp at h);rw[if_neg λz=>Ba<|by rw[e0.mp z]]at he;rw[he]at q;unfold cV cj at q;rw[oM Ba,if_neg zd,if_pos<|show(ah (ai cs r.2 p.1) != ah y)=true from h]at q;refine !{bC,λp0 AQ=>?_};refine !!!⟨?_⟩;dsimp only[dC,Ry];refine nE<|gv<|.inr !⟨?_⟩;exact EW AQ _ q;have h:(!(ah (ai cs r.2 p.1)==ah y))=false:=h;have heq:ah (ai cs r.2 p.1)=ah y:=(by simpa using h);refine !!⟨j6 v1.2 v2.2 !⟨bB (λh2=>?_) λh2=>?_⟩⟩;have h2:ma (ai cs r.2 p.1) y=false:=nt h2;rw[if_neg λz=>tf ((bh v1.2 v2.2).mpr<|e0.mp z) h2]at he;rw[he]at q;unfold cV cj at q;rw[h2,if_neg zd,if_neg<|show ¬(ah (ai cs r.2 p.1) != ah y)=true by rw[heq];simp]at q;have na:ai cs r.2 p.1≠.av:=λe=>(by have e2:y=.av:=cD (by rw[<-heq,e];rfl);rw[e,e2]at h2;cases h2);have nb:y≠.av:=λe=>na<|cD (by rw[heq,e];rfl);refine !{bC,λp0 AQ=>?_};refine !!⟨?_⟩;rcases j7 v1 v2 na nb with⟨i',j',e6,e7⟩|⟨i',j',e6,e7⟩;rw[e6,e7]at q⊢;refine !!⟨?_⟩;dsimp only[dC];exact nE<|gv<|.inr !⟨EW AQ _ q⟩;rw[e6,e7]at q⊢;refine !!⟨?_⟩;dsimp only[dC];exact nE<|gv<|.inr !⟨EW AQ _ q⟩;have h2:ma (ai cs r.2 p.1) y=true:=nf h2;rw[if_pos<|e0.mpr<|(bh v1.2 v2.2).mp h2]at he;exact{_,_,_,rfl,rfl,he});{rintro aF S' ⟨o4,o5,o6,rfl,rfl,he⟩;have he:_=cN (qU (ps.drop (bc (ps.map p3) g.1).length) wy) (AK cs (ps.drop (bc (ps.map p3) g.1).length) r) (g.1.drop (bc (ps.map p3) g.1).length++[.str g.2.1]):=he;rw[show(bc (ps.map p3) g.1).length=ps.length by unfold bc;rw[List.length_zipWith,zb];lia,List.drop_length,hl,List.drop_length]at he;refine fo {o4,o5,o6,rfl,rfl,he.trans ?_};show(if cV wy "last" (.str r.1) (.str g.2.1)=0 then 0 else cV wy "last" (.str r.1) (.str g.2.1))=_;split;{next h=>exact h.symm};rfl}};rintro aF S' ⟨o4,o5,o6,rfl,rfl,he⟩;rw[he]at q;have cm:Cm (.str r.1) (.str g.2.1):={_,jh _ hk,jh _ hv.key};refine !!!!⟨nE !⟨bB (λh=>?_) λh=>?_⟩⟩;have h:r.1=g.2.1:=zB h;rw[(nF cm).mpr<|by rw[h]]at q;exact fo q;have h:¬r.1=g.2.1:=zO h;unfold cV cj at q;rw[if_neg λz=>h<|D.str.inj<|(bh (jh _ hk).2 (jh _ hv.key).2).mp z]at q;refine !{bC,λp0 AQ=>!!!!!!⟨?_⟩};dsimp only[dC];exact nE<|gv<|.inr !⟨EW AQ _ q⟩
noncomputable def eO(wa:Str):List (Str×Str)->List Part->Str->List Row->Option ux->Nat->Nat×Nat:=if wa ="back" then tE else oS
theorem VB{S:ay}{p:Addr}{R:KD}{x y:Int}(hp:S p=none)(b:Bool)(q:R (.int<|if b=true then y else x) S):Wj (.ref p) (.int<|if b=true then 1 else 0) (S.set p<|.lst [.int x,.int y]) λd S'=>Fo S' (R d):=by cases b<;>exact{_,_,aa,rfl,S,.new hp,q}
noncomputable def Ke(cs:List<|Str×Str)(ps:List Part)(wy:Str)(g:ux):D->D|.tup [.str k,.tup ws]=>.int (cN (qU ps wy) (AK cs ps (k,ws))<|AL g)|_=>.av
noncomputable def JP(sd:Str):D->Bool|.int i=>decide (i<0)||(decide (i=0)&&decide (sd ="behind"))|_=>false
theorem AU{cs:List<|Str×Str}{ps:List Part}{wy:Str}{g:ux} : ∀A:List Row,(((A.map aj).map<|Ke cs ps wy g).filter<|JP g.2.2).length=A.countP (gP cs ps wy g)|[]=>rfl|r::A=>by rw[zy,zy,yp,List.countP_cons];have e:JP g.2.2 (Ke cs ps wy g<|aj r)=gP cs ps wy g r:=rfl;rw[e];have ih:=AU (cs:=cs) (ps:=ps) (wy:=wy) (g:=g) A;split;rw[zN,ih];rw[ih];rfl
inductive AV (ds:List D) (S:ay) (R:KD) (Z:KX):Prop where
 |mk (cs:List<|Str×Str) (ps:List Part) (wy:Str) (l:Addr) (A:List Row) (wa:Str) (n:Nat) (b:Option ux) (h0:ds=[.tup<|cs.map aw,bU ps wy,.ref l,.str wa,.int (n:Nat),MF b]) (h1:Gd cs) (h2:Pin cs ps) (h3:S l=some (.lst<|A.map aj)) (h4:A.length<=50) (h5:∀r∈A,Wg cs r.2) (h6:Kc A) (h7:Bg cs ps b) (h8:n<=1000)
  (h9:∀p,S p=none->R (Bd p (eO wa cs ps wy A b n).1<|A.length-(eO wa cs ps wy A b n).2) (S.set p<|.lst<|(seg A (eO wa cs ps wy A b n).1 (eO wa cs ps wy A b n).2).map aj)):AV ds S R Z
theorem AW(T:Txt w K mg t):Ok P w base T.wB 3 AV:=by
 refine T.wB.F.ck fh ?_;rintro _ _ _ _ _ _ _ S R Z hr ⟨cs,ps,wy,l,A,wa,n,b,e,hg,hp,hl,hA,hw,hk,hb,hn,q⟩;subst e;refine{_,(sc (cC (i:=6) fh.nd<|uX<|ix hr.u (cG<|ac di<|ac (cb bb T.aX aG<|ac (dv 2) an) an)<|ct mG T.lg gC<|ac (cm aL hr.u (dv 3) ds) an)<|sc (xW<|si (bp lM hr.u (dv 5) dn) (sc (LH (i:=7) (N:=["_law_row","_law_columns_here","_law_order_here","_law_gap_here"]) (src:=[none,some 0,some 1,some 5]) fh.nd (i6 (ae yX) ["_law_columns_here","_law_order_here","_law_rows","_law_way","_law_size_here","_law_gap_here","_law_many_here","_law_sides","_law_told"] rfl rfl<|by trivial) (il<|dv 2) (mm<|show(["_law_row","_law_columns_here","_law_order_here","_law_gap_here"]:List Str).Nodup by trivial) (aO rfl) aP (λ_ _ _ _ _=>px) λ_ _ _ _ _=>(aJ T.Cr (ML T) hr<|ac (dv 1)<|ac (dv 2)<|ac (dv 0)<|ac (ix hr.u (dv 3) di) an))<|s1<|cC (i:=6) fh.nd<|cb bb T.aX aG<|ac (p_ (N:=["_law_side_here","_law_gap_here"]) (src:=[none,some 5]) (i6 (ae yX) ["_law_columns_here","_law_order_here","_law_rows","_law_way","_law_size_here","_law_gap_here","_law_many_here","_law_sides","_law_told"] rfl rfl<|by trivial) (il<|dv 7) (mm<|show(["_law_side_here","_law_gap_here"]:List Str).Nodup by trivial) (aO rfl) aP (λ_ _ _ _ _=>(if1<|twd<|twor (bp mF hr.u (dv 0) di)<|tw1<|twd<|twand (bp aL hr.u (dv 0) di)<|tw1<|bp aL hr.u (ix hr.u (dv 1) di) ds)) λ_ _ _ _ _=>(dv 0)) an) s0)<|sc (si (bp aL hr.u (dv 3) ds) (sc (cC (i:=8) fh.nd<|WJ (dv 2) (o1<|cb Nl T.NJ IJ<|ac di<|ac (bo g7 hr.u (dv 6)<|dv 4) an)<|o1<|dv 6)<|s1<|sr<|cy<|ac (dv 8)<|ac (bo g7 hr.u (dv 6)<|cb bb T.aX aG<|ac (dv 8) an)<|ac (bo g7 hr.u (cb bb T.aX aG<|ac (dv 2) an)<|dv 6) an) s0)<|sc (cC (i:=8) fh.nd<|WJ (dv 2) (o1<|dv 6)<|o1<|bo HU hr.u (dv 6)<|dv 4)<|s1<|sr<|cy<|ac (dv 8)<|ac (dv 6)<|ac (bo g7 hr.u (bo g7 hr.u (cb bb T.aX aG<|ac (dv 2) an)<|dv 6)<|cb bb T.aX aG<|ac (dv 8) an) an),?_};refine !!⟨.inl {_,hl,?_}⟩;rw[zb];refine{bC,λp0 AQ=>!⟨?_⟩};dsimp only[dC];refine nE<|.inr !⟨VB AQ _ ?_⟩;generalize hm:(if (if false=true then !decide (wa ="back") else decide (wa ="back"))=true then ((A.length:Nat):Int) else 0)=m;have hm:m=((if wa ="back" then A.length else 0:Nat):Int):=by rw[<-hm];by_cases h:wa ="back"<;>simp[h]
 subst hm;refine{λaF S'=>∃o7,aF=[some<|.tup<|cs.map aw,some<|bU ps wy,some<|.ref l,some<|.str wa,some<|.int (n:Nat),some<|MF b,some<|.int ((QR cs ps wy A (if wa ="back" then A.length else 0) b:Nat):Int),o7,none]/\Sub S S',?_,?_};cases b with|none=>exact (!!⟨aV rfl<|fo !⟨.refl _⟩⟩)|some g=>have hgp:Gp cs ps g:=hb g rfl;refine !!⟨kQ rfl !{_,hl,?_}⟩;refine comp_map (Ke cs ps wy g) hl (by show(A.map aj).length<=_;rw[zb];lia) (λd hd Q hQ=>?_) λp CQ=>?_;obtain⟨r,vh,rfl⟩:=ze.mp hd;exact !!!!!{cs,ps,wy,r,g,rfl,hg,hp,hw r vh,hk r vh,hgp,hQ};rw[show({A.map aj,λS=>p7 S (.ref l)<|A.map aj}:vW).xs=A.map aj from rfl];have G9:(S.set p<|.lst<|(A.map aj).map<|Ke cs ps wy g) p=_:=aa;have JB:Sub S (S.set p<|.lst<|(A.map aj).map<|Ke cs ps wy g):=.new CQ;generalize S.set p (.lst<|(A.map aj).map<|Ke cs ps wy g)=S1 at G9 JB⊢;refine !{_,G9,?_};refine dq (JP g.2.2) id G9 (by show((A.map aj).map _).length<=_;rw[zb,zb];lia) (λd hd Q Q' hQ sQ=>?_) λp2 gU=>?_;obtain⟨x,hx,rfl⟩:=ze.mp hd;obtain⟨r,_,rfl⟩:=ze.mp hx;have e1:Ke cs ps wy g (aj r)=.int (cN (qU ps wy) (AK cs ps r)<|AL g):=rfl;rw[e1]at hQ sQ⊢;generalize cN (qU ps wy) (AK cs ps r) (AL g)=i at hQ sQ⊢;have hQ:(decide (i<0)||(decide (i=0)&&decide (g.2.2 ="behind")))=true->Q (.int i) S1:=hQ;have sQ:(decide (i<0)||(decide (i=0)&&decide (g.2.2 ="behind")))=false->Q' S1:=sQ;refine !!⟨bB (λh=>!⟨hQ ?_⟩) λh=>?_⟩;rw[show decide (i<0)=true from h];rfl;have h:decide (i<0)=false:=h;rw[h,yO]at hQ sQ;refine !!⟨bB (λh2=>?_) λh2=>?_⟩;have h2:decide (i=0)=true:=h2;rw[h2,ya]at hQ sQ;exact !!!⟨bB (λh3=>!⟨hQ h3⟩) λh3=>sQ h3⟩;have h2:decide (i=0)=false:=h2;rw[h2,zS]at hQ sQ;exact sQ rfl;refine{_,rfl,.inl {_,aa,?_}};rw[zb];rw[show({(A.map aj).map<|Ke cs ps wy g,λS=>p7 S (.ref p)<|(A.map aj).map<|Ke cs ps wy g}:vW).xs=(A.map aj).map (Ke cs ps wy g) from rfl,AU];exact fo !⟨JB.trans<|.new gU⟩
 rintro aF S' ⟨o7,rfl,sb⟩;have Of:=sb _ _ hl;generalize hN:QR cs ps wy A (if wa ="back" then A.length else 0) b=N;have hNl:N<=A.length:=by rw[<-hN];refine QS ?_ b;split<;>lia
 refine{_,rfl,?_};dsimp only[dC];refine nE !⟨bB (λh=>?_) λh=>?_⟩;have h:wa ="back":=zB h;have ef:eO wa cs ps wy A b n=(N-n,N):=by unfold eO tE;rw[if_pos h]at hN⊢;rw[hN]
 rw[ef]at q;refine !!!{_,_,rfl,?_};have e1:(if decide ((0:Int)<((N:Nat):Int)-((n:Nat):Int))=true then ((N:Nat):Int)-((n:Nat):Int) else 0)=((N-n:Nat):Int):=by by_cases h:(0:Int)<((N:Nat):Int)-((n:Nat):Int);rw[if_pos<|zw h];lia;rw[if_neg<|by rw[zu h];exact zd];lia
 rw[e1];refine !!!{_,Of,λp hp=>?_};rw[ER (Nat.sub_le _ _) hNl];have sl:=EO (A:=A) (Nat.sub_le N n) hNl;refine !!!!⟨.inl {_,aa,_,rfl,_,rfl,.inl {_,(Sub.new hp) _ _ Of,_,rfl,?_}}⟩;rw[zb,zb,sl,show((N:Nat):Int)-((N-(N-n):Nat):Int)=((N-n:Nat):Int) by lia];refine{gJ,?_};rw[show((A.length:Nat):Int)-((N:Nat):Int)=((A.length-N:Nat):Int) by lia];exact{_,eB sb,q p<|cB sb hp};have h:¬wa ="back":=zO h;have ef:eO wa cs ps wy A b n=(N,AO A N n):=by unfold eO oS;rw[if_neg h]at hN⊢;rw[hN]
 rw[ef]at q;refine !!!!!!{_,Of,λp hp=>?_};have h1:N<=AO A N n:=by unfold AO;lia
 have h2:AO A N n<=A.length:=by unfold AO;lia
 have sl:=EO h1 h2;have ec:e_ (A.map aj) (some ((N:Nat):Int)) (some<|((N:Nat):Int)+((n:Nat):Int))=(seg A N<|AO A N n).map aj:=by rw[show((N:Nat):Int)+((n:Nat):Int)=((N+n:Nat):Int) from rfl];unfold e_ seg AO;rw[HT.sIx_nat,HT.sIx_nat,zb,Nat.min_eq_left hNl,List.map_take,List.map_drop]
 rw[ec];refine !!!!⟨.inl {_,(Sub.new hp) _ _ Of,_,rfl,_,rfl,_,rfl,.inl {_,aa,?_}}⟩;rw[zb,zb,sl];refine{gJ,?_};rw[show((A.length:Nat):Int)-((N:Nat):Int)-((AO A N n-N:Nat):Int)=((A.length-AO A N n:Nat):Int) by lia];exact{_,eB sb,q p<|cB sb hp}
theorem Sg.up:∀{n:Nat}{d:D},Sg cs n d->Sg cs (n+1) d|0,_,h=>h.elim|n+1,d,h=>by rcases h with h|⟨e,h1,h2⟩|⟨o,ds,h1,h2,h3,h4⟩;exact .inl h;exact .inr<|.inl ⟨e,h1,h2.up⟩;exact .inr<|.inr {o,ds,h1,h2,h3,λe he=>(h4 e he).up}
noncomputable def Be:D->PyData|.int i=>.int i|.str z=>.str z|_=>.none
theorem QV(hx:dh x=true):Dp S x (Be x)/\(Be x).canLay0=true/\(Be x).depth<=0:=by cases x with|av=>exact{by simp only[Dp,Be],by simp only[Be,PyData.canLay0],by simp only[Be,PyData.depth];lia}|int i=>exact{by simp only[Dp,Be],by simp only[Be,PyData.canLay0],by simp only[Be,PyData.depth];lia}|str z=>refine{by simp only[Dp,Be],?_,by simp only[Be,PyData.depth];lia};unfold dh at hx;simp only[zL]at hx;simp only[Be,PyData.canLay0];exact hx.2|_=>cases hx
theorem EX:∀{xs:List D},(∀x∈xs,dh x=true)->DpAll S xs (xs.map Be)/\PyData.canLayAll0 (xs.map Be)=true/\PyData.depthAll (xs.map Be)<=0|[],_=>{by simp only[List.map_nil,DpAll],rfl,zY _}|x::xs,h=>by obtain⟨a,b,c⟩:=QV (S:=S)<|h x zr;obtain⟨a',b',c'⟩:=EX (S:=S) λy hy=>h y<|zg _ hy;exact{by simp only[zy,DpAll];exact{_,_,rfl,a,a'},by simp only[zy,PyData.canLayAll0,b,b',Bool.and_self],by simp only[zy,PyData.depthAll];lia}
noncomputable def N1(r:Row):PyData:=.tuple [.str r.1,.tuple<|r.2.map Be]
theorem QW(hw:Wg cs r.2):Dr S (aj r) (N1 r):=by refine .tup<|.cons (.str _)<|.cons (.tup ?_) .nil;have h:=Wg.all hw;generalize r.2=ws at h;induction ws with|nil=>exact .nil|cons v ws ih=>refine .cons ?_<|ih λd hd=>h d<|zg _ hd;have hv:=h v zr;cases v<;>first|exact .av|exact .int _|exact .str _|cases hv
theorem EY:∀{rows:List Row},(∀r∈rows,Wg cs r.2)->mq S (rows.map aj) (rows.map N1)|[],_=>.nil|r::rows,h=>.cons (QW<|h r zr)<|EY λx hx=>h x<|zg _ hx
theorem MM(hw:Wg cs r.2)(hk:r.1∈KS):(N1 r).canLay0=true/\(N1 r).depth<=2:=by obtain⟨_,b,c⟩:=EX (S:=λ_=>none)<|Wg.all hw;have z:=(gM _ hk).2.2;unfold N1;refine{by simp only[PyData.canLay0,PyData.canLayAll0,z,b,Bool.and_self],?_};simp only[PyData.depth,PyData.depthAll];lia
theorem AX:∀{rows:List Row},(∀r∈rows,Wg cs r.2)->Kc rows->PyData.canLayAll0 (rows.map N1)=true/\PyData.depthAll (rows.map N1)<=2|[],_,_=>{rfl,zY _}|r::rows,h,k=>by obtain⟨a,b⟩:=MM (h r zr)<|k r zr;obtain⟨a',b'⟩:=AX (λx hx=>h x<|zg _ hx) λx hx=>k x<|zg _ hx;exact{by simp only[zy,PyData.canLayAll0,a,a',Bool.and_self],by simp only[zy,PyData.depthAll];lia}
theorem xg(h:r∈seg A b e):r∈A:=List.mem_of_mem_drop<|List.mem_of_mem_take h
noncomputable def Kf(A:List Row)(b e:Nat):PyData:=.tuple [.list<|(seg A b e).map N1,.int (b:Nat),.int<|(A.length-e:Nat)]
theorem tG(hw:∀r∈A,Wg cs r.2)(h:S p=some (.lst<|(seg A b e).map aj)):Dr S (Bd p b<|A.length-e) (Kf A b e):=.tup<|.cons (.ref h<|EY λr hr=>hw r<|xg hr)<|.cons (.int _)<|.cons (.int _) .nil
theorem QX(hw:∀r∈A,Wg cs r.2)(hk:Kc A):(Kf A b e).canLay0=true/\(Kf A b e).depth<=4:=by obtain⟨a,c⟩:=AX (rows:=seg A b e) (λr hr=>hw r<|xg hr) λr hr=>hk r<|xg hr;unfold Kf;refine{by simp only[PyData.canLay0,PyData.canLayAll0,a,Bool.and_self],?_};simp only[PyData.depth,PyData.depthAll];lia
inductive vB (t:hW) (ds:List D) (S:ay) (R:KD) (Z:KX):Prop where
 |mk (q:Kq) (cs:List<|Str×Str) (wa:Str) (d:D) (n:Nat) (b:Option ux) (rows:List Row) (h0:ds=[.ref q.k,.str wa,d,.int (n:Nat),MF b]) (h1:S q.k=some (JN t.aI q)) (h2:Qs t S q.a cs q.ps q.wy d .av rows) (h3:1<=n) (h4:n<=1000) (h5:Bg cs q.ps b) (h6:wa ="on"\/wa ="back")
  (h7:∀(A:List Row)(p:Addr),NX cs q.ps q.wy 4 d rows A->S p=none->R (Bd p (eO wa cs q.ps q.wy A b n).1<|A.length-(eO wa cs q.ps q.wy A b n).2) (S.set p<|.lst<|(seg A (eO wa cs q.ps q.wy A b n).1 (eO wa cs q.ps q.wy A b n).2).map aj)):vB t ds S R Z
theorem AY(T:Txt w K mg t)(B:Bm mg base):Ok P w base T.qP 12 (vB t):=by refine T.qP.F.ck CD ?_;rintro _ _ _ _ _ _ _ S R Z hr ⟨q,cs,wa,d,n,b,rows,e,hk,hq,h1,h2,hb,W2,g⟩;subst e;refine{_,(sc (si (bp aL hr.u (dv 1) ds) (s1<|sr<|tM (dv 0) T.bH T.km (NZ T B) hr<|ac (dv 2)<|ac (dv 3)<|ac (dv 4) an) s0)<|s1<|sr<|tM (dv 0) T.bH T.fY (EV T B) hr<|ac (dv 2)<|ac (dv 3)<|ac (dv 4) an),?_};rcases W2 with rfl|rfl;exact !!⟨kQ (by trivial) !{q.k,_,rfl,hk,rfl,_,rfl,_,rfl,_,rfl,q,cs,d,n,b,rows,rfl,hk,hq,h1,h2,hb,λA p an hp=>fo<|g A p an hp}⟩;exact !!⟨aV (by trivial) !{q.k,_,rfl,hk,rfl,_,rfl,_,rfl,_,rfl,q,cs,d,n,b,rows,rfl,hk,hq,h1,h2,hb,λA p an hp=>fo<|g A p an hp}⟩
mutual
theorem Dr.sub(s:Sub S S'):Dr S d p->Dr S' d p|.av=>.av|.bl b=>.bl b|.int i=>.int i|.str z=>.str z|.tup h=>.tup (mq.sub s h)|.ref e h=>.ref (s _ _ e)<|mq.sub s h
theorem mq.sub{S S':ay}(s:Sub S S'){ds:List D}{ps:List PyData} : mq S ds ps->mq S' ds ps|.nil=>.nil|.cons a t=>.cons (Dr.sub s a)<|mq.sub s t
end
theorem mq.snoc(h:Dr S d p):∀{ds:List D}{ps:List PyData},mq S ds ps->mq S (ds++[d]) (ps++[p])|_,_,.nil=>.cons h .nil|_,_,.cons a t=>.cons a<|mq.snoc h t
theorem mq.len:∀{ds:List D}{ps:List PyData},mq S ds ps->ds.length=ps.length|_,_,.nil=>rfl|_,_,.cons _ t=>congrArg (·+1)<|mq.len t
inductive oU (t:hW) (ds:List D) (S:ay) (R:KD) (Z:KX):Prop where
 |mk (q:Kq) (cs:List<|Str×Str) (A0 rows:List Row) (lr l:Addr) (h0:ds=[.ref q.k,.tup<|cs.map aw,bU q.ps q.wy,.ref lr,.ref l]) (h1:S q.k=some (JN t.aI q)) (h2:Gd cs) (h3:∀c∈cs,c.1∈Bb) (h4:Og cs q.ps q.wy) (h5:Vw t.au S q.a cs .av rows) (h6:Kc rows) (h7:Tb t S) (h8:S lr=some (.lst<|A0.map aj)) (h9:An cs q.ps q.wy A0) (h10:A0.Perm rows) (h11:A0.length<=50) (WR:S l=some .well) (h13:R (.bl true) S):oU t ds S R Z
theorem AZ(T:Txt w K mg t)(B:Bm mg base):Ok P w base T.qQ 13 (oU t):=by
 refine T.qQ.F.ck bT ?_;rintro _ _ _ _ _ _ _ S R Z hr ⟨q,cs,A0,rows,lr,l,e,PU,hg,hN,ho,hv,hky,ht,uZ,RX,WT,h50,hw,fin⟩;subst e;refine{_,(sc (cC (i:=5) bT.nd<|uX<|ix hr.u (cG<|ac ds<|ac ds an)<|aJ T.aY (bL T) hr<|ac (dv 4)<|ac di an)<|sc (cC (i:=6) bT.nd<|aJ T.kx (oN T 3) hr<|ac (dv 4)<|ac (dv 1)<|ac di an)<|sc (cC (i:=7) bT.nd<|aJ T.Cs (MJ T) hr<|ac (dv 4) an)<|sc (cC (i:=8) bT.nd<|aJ T.IY (MK T) hr<|ac (dv 4)<|ac (dv 1)<|ac (dv 2)<|ac (dv 3) an)<|sc (cC (i:=9) bT.nd<|p_ (N:=["_law_row","_law_columns_here","_law_sieve_here"]) (src:=[none,some 1,some 6]) (i6 (ae u5) ["_law_keeper","_law_columns_here","_law_order_here","_law_rows","_law_well_here","_law_way","_law_sieve_here","_law_size_here","_law_gap_here","_law_left","_law_due","_law_found","_law_ends","_law_pages"] rfl rfl<|by trivial) (il<|dv 3) (mm<|show(["_law_row","_law_columns_here","_law_sieve_here"]:List Str).Nodup by trivial) (aO rfl) aP (λ_ _ _ _ _=>(if1<|tv<|aJ T.ig (mf T 4) hr<|ac (dv 1)<|ac (dv 2)<|ac (dv 0) an)) λ_ _ _ _ _=>(dv 0))<|sc (cC (i:=10) bT.nd<|aJ T.wB (AW T) hr<|ac (dv 1)<|ac (dv 2)<|ac (dv 9)<|ac (dv 5)<|ac (dv 7)<|ac (dv 8) an)<|sc (cC (i:=11) bT.nd<|aJ T.qP (AY T B) hr<|ac (dv 0)<|ac (dv 5)<|ac (dv 6)<|ac (dv 7)<|ac (dv 8) an)<|sc (si (twd<|twor (bZ<|tv<|cb bV T.ao ak<|ac (dv 11)<|ac (nN T.bu aW) an)<|twor (bp ND hr.u (dv 11)<|dv 10)<|tw1<|bZ<|tv<|cb bV T.ao ak<|ac (ix hr.u (dv 11) di)<|ac (nN T.Qq K9) an) (s1<|sr db) s0)<|sc (si (twd<|twor (tv<|cb bV T.ao ak<|ac (ix hr.u (dv 11) di)<|ac (nN T.Cj vN) an)<|tw1<|tv<|cb bV T.ao ak<|ac (ix hr.u (dv 11) di)<|ac (nN T.Cj vN) an) (s1<|sr db) s0)<|sc (se<|bm zR yf yg du (ix hr.u (dv 11) di)<|ac dn an)<|sc (LH (i:=12) (N:=["_law_one","_law_columns_here","_law_order_here","_law_left","_law_size_here"]) (src:=[none,some 1,some 2,some 9,some 7]) bT.nd (i6 (ae u5) ["_law_keeper","_law_columns_here","_law_order_here","_law_rows","_law_well_here","_law_way","_law_sieve_here","_law_size_here","_law_gap_here","_law_left","_law_due","_law_found","_law_ends","_law_pages"] rfl rfl<|by trivial) (il<|cG<|ac ds<|ac ds an) (mm<|show(["_law_one","_law_columns_here","_law_order_here","_law_left","_law_size_here"]:List Str).Nodup by trivial) (aO rfl) aP (λ_ _ _ _ _=>px) λ_ _ _ _ _=>(aJ T.wB (AW T) hr<|ac (dv 1)<|ac (dv 2)<|ac (dv 3)<|ac (dv 0)<|ac (dv 4)<|ac dn an))<|sc (cC (i:=13) bT.nd<|cG<|ac (Ui (dv 0) T.bH T.km.e ((NZ T B).mono<|by decide) hr T.ua d1<|ac (dv 6)<|ac (dv 7) an)<|ac (Ui (dv 0) T.bH T.fY.e ((EV T B).mono<|by decide) hr T.qg d1<|ac (dv 6)<|ac (dv 7) an) an)<|sc (si (bp ND hr.u (dv 13)<|dv 12) (s1<|sr db) s0)<|s1<|sr<|cm U6 hr.u (aJ T.qP (AY T B) hr<|ac (dv 0)<|ac (dv 5)<|ac (dv 6)<|ac (dv 7)<|ac (dv 8) an)<|dv 10),?_};refine{bC,λp0 AQ=>!{l,_,rfl,(by decide),(by decide),wl hw AQ,λn0 h0 h1=>cF h0 h1 AQ λdw W3=>?_}};obtain⟨wa,rfl,W2⟩:∃wa:Str,dw=.str wa/\(wa ="on"\/wa ="back"):=by have W3:dw∈[D.str "on",.str "back"]:=W3;simp only[zj,zI,or_false]at W3;rcases W3 with h|h;exact{_,h,.inl rfl};exact{_,h,.inr rfl}
 refine !!{l,cs,2,rfl,rfl,hg,hN,hw,λd hs=>?_};have hs4:Sg cs 4 d:=hs.up;refine !{l,rfl,hw,λn LL DC=>?_};refine !!!!{l,cs,q.ps,q.wy,lr,A0,rfl,hg,ho,hw,uZ,RX.rg,RX.ky,h50,λb hb=>?_};refine !{_,uZ,?_};refine dq (EC cs d) id uZ (by show(A0.map aj).length<=1000;rw[zb];omega) (λx hx Q Q' hQ sQ=>?_) λp9 hp9=>?_;obtain⟨r,hr,rfl⟩:=ze.mp hx;exact !!!{cs,d,r,rfl,hg,hs4,RX.rg.1 r hr,_,rfl,bB (λh=>!⟨hQ h⟩) λh=>sQ h};have e1:((A0.map aj).filter<|EC cs d).map id=(A0.filter λr=>bf cs r 4 d).map aj:=iy λr=>rfl;rw[show({A0.map aj,λS=>p7 S (.ref lr)<|A0.map aj}:vW).xs=A0.map aj from rfl,e1];have an:NX cs q.ps q.wy 4 d rows (A0.filter λr=>bf cs r 4 d):={{RX.rg.sub yq,λr h=>RX.ky r (yn.mp h).1,RX.pw.sublist yq},WT.filter _};have VC:(A0.filter λr=>bf cs r 4 d).length<=50:=zG (List.length_filter_le _ _) h50;generalize (A0.filter λr=>bf cs r 4 d)=L at an VC⊢;have h9:(S.set p9<|.lst<|L.map aj) p9=some (.lst<|L.map aj):=aa;have RY:Sub S (S.set p9<|.lst<|L.map aj):=.new hp9;generalize S.set p9 (.lst<|L.map aj)=S9 at h9 RY⊢;have hq:Qs t S q.a cs q.ps q.wy d .av rows:=⟨hg,ho,hs4,hv,hky,ht⟩;have Kg:=an.an.rg.1;have hLk:Kc L:=an.an.ky;refine !!!!!!{cs,q.ps,q.wy,p9,L,wa,n,b,rfl,hg,ho.pin,h9,VC,Kg,hLk,hb,DC,λVD QY=>?_};have GU:=RY.trans<|.new (c:=.lst<|(seg L (eO wa cs q.ps q.wy L b n).1 (eO wa cs q.ps q.wy L b n).2).map aj) QY;have h10:(S9.set VD<|.lst<|(seg L (eO wa cs q.ps q.wy L b n).1 (eO wa cs q.ps q.wy L b n).2).map aj) VD=some (.lst<|(seg L (eO wa cs q.ps q.wy L b n).1 (eO wa cs q.ps q.wy L b n).2).map aj):=aa;have W4:=(Sub.new (c:=.lst<|(seg L (eO wa cs q.ps q.wy L b n).1 (eO wa cs q.ps q.wy L b n).2).map aj) QY) _ _ h9;generalize S9.set VD (.lst<|(seg L (eO wa cs q.ps q.wy L b n).1 (eO wa cs q.ps q.wy L b n).2).map aj)=S10 at GU h10 W4⊢;refine !!!!!{q,cs,wa,d,n,b,rows,rfl,GU _ _ PU,hq.sub GU,LL,DC,hb,W2,λA Kh anA uB=>?_};cases an.one hg ho.pin anA;have pl:=λ(b e:Nat)=>QX (b:=b) (e:=e) Kg hLk;have n11:Kh≠VD:=λe=>by rw[e,h10]at uB;cases uB
 have QZ:=GU.trans<|.new (c:=.lst<|(seg L (eO wa cs q.ps q.wy L b n).1 (eO wa cs q.ps q.wy L b n).2).map aj) uB;have MN:=(Sub.new (c:=.lst<|(seg L (eO wa cs q.ps q.wy L b n).1 (eO wa cs q.ps q.wy L b n).2).map aj) uB) _ _ h10;have h9c:=(Sub.new (c:=.lst<|(seg L (eO wa cs q.ps q.wy L b n).1 (eO wa cs q.ps q.wy L b n).2).map aj) uB) _ _ W4;have h11:(S10.set Kh<|.lst<|(seg L (eO wa cs q.ps q.wy L b n).1 (eO wa cs q.ps q.wy L b n).2).map aj) Kh=some (.lst<|(seg L (eO wa cs q.ps q.wy L b n).1 (eO wa cs q.ps q.wy L b n).2).map aj):=aa;have N2:∀x c,S x=some c->x≠Kh:=λx c hx e=>by rw[e]at hx;rw[GU _ _ hx]at uB;cases uB
 generalize S10.set Kh (.lst<|(seg L (eO wa cs q.ps q.wy L b n).1 (eO wa cs q.ps q.wy L b n).2).map aj)=W5 at QZ MN h9c h11⊢;have dd:=tG Kg h11;have OV:=tG Kg MN;refine !{_,_,_,_,rfl,aR,rfl,_,rfl,br ?_};refine !!⟨rW dd OV (pl _ _).1 (zG (pl _ _).2<|by decide) !⟨br ?_⟩⟩;refine !!{_,_,_,_,rfl,GN,.inl {rfl,_,h11},_,rfl,aV rfl ?_};refine !!{_,_,_,_,rfl,rH,rfl,_,rfl,aV rfl !!{_,_,_,_,rfl,rH,rfl,_,rfl,aV rfl ?_}};refine !!⟨{rfl,_,h11},Kh,_,.av,rfl,rfl,h11,?_,?_⟩;rw[zb];have:(seg L (eO wa cs q.ps q.wy L b n).1 (eO wa cs q.ps q.wy L b n).2).length<=L.length:=by unfold seg;rw[zV,yC];omega
 exact bg (by omega);have GV:Sub S (W5.set Kh<|.lst<|(seg L (eO wa cs q.ps q.wy L b n).1 (eO wa cs q.ps q.wy L b n).2).map aj++[.av]):=λx c hx=>(ag<|N2 x c hx).trans<|QZ x c hx;have h9d:(W5.set Kh<|.lst<|(seg L (eO wa cs q.ps q.wy L b n).1 (eO wa cs q.ps q.wy L b n).2).map aj++[.av]) p9=some (.lst<|L.map aj):=(ag λe=>by rw[<-e,W4]at uB;cases uB).trans h9c;have VE:(W5.set Kh<|.lst<|(seg L (eO wa cs q.ps q.wy L b n).1 (eO wa cs q.ps q.wy L b n).2).map aj++[.av]) VD=some (.lst<|(seg L (eO wa cs q.ps q.wy L b n).1 (eO wa cs q.ps q.wy L b n).2).map aj):=(ag<|Ne.symm n11).trans MN;generalize W5.set Kh (.lst<|(seg L (eO wa cs q.ps q.wy L b n).1 (eO wa cs q.ps q.wy L b n).2).map aj++[.av])=W6 at GV h9d VE⊢;clear dd OV h11 MN h9c QZ N2 uB n11 GU h10 W4 QY RY h9;refine{bC,λpa VF=>{_,aa,?_}};have ha:(W6.set pa<|.lst [.str "on",.str "back"]) pa=some (.lst [.str "on",.str "back"]):=aa;have sba:Sub W6 (W6.set pa<|.lst [.str "on",.str "back"]):=.new VF;generalize W6.set pa (.lst [.str "on",.str "back"])=Sa at ha sba⊢;refine{λi out S'=>Sub Sa S'/\mq S' out (([("on": Str),"back"].take i).map λv=>Kf L (eO v cs q.ps q.wy L none n).1 (eO v cs q.ps q.wy L none n).2),{.refl _,.nil},?_,?_,?_};rintro i out S' ⟨sb,_⟩;exact sb _ _ ha;rintro i dx out S' hd ⟨sb,hD⟩;have hd:[D.str "on",.str "back"][i]?=some dx:=hd;obtain⟨v,rfl,hi,ht⟩:∃v:Str,dx=.str v/\i<2/\[("on": Str),"back"].take (i+1)=[("on": Str),"back"].take i++[v]:=by match i,hd with|0,h=>(cases h;exact !{by decide,rfl})|1,h=>cases h;exact !{by decide,rfl}
 have hl:=mq.len hD;rw[zb,zV]at hl;refine{bg<|by omega,_,rfl,_,rfl,_,rfl,_,rfl,_,rfl,cs,q.ps,q.wy,p9,L,v,n,none,rfl,hg,ho.pin,sb _ _<|sba _ _ h9d,VC,Kg,hLk,nofun,DC,λp hp=>{sb.trans<|.new hp,?_}};rw[ht,zJ];exact mq.snoc (tG Kg aa)<|mq.sub (.new hp) hD;rintro out S2 ⟨G4,hD⟩ p12 VG;have hD:mq S2 out [Kf L (eO "on" cs q.ps q.wy L none n).1 (eO "on" cs q.ps q.wy L none n).2,Kf L (eO "back" cs q.ps q.wy L none n).1 (eO "back" cs q.ps q.wy L none n).2]:=hD;have hD2:Dr (S2.set p12<|.lst out) (.ref p12) (.list _):=.ref aa<|mq.sub (.new VG) hD;have sc:=(sba.trans G4).trans<|.new (c:=.lst out) VG;generalize S2.set p12 (.lst out)=S3 at hD2 sc⊢;have k3:=sc _ _<|GV _ _ PU;refine !{q.k,_,rfl,k3,rfl,_,rfl,_,rfl,q,cs,d,n,none,rows,rfl,k3,hq.sub<|GV.trans sc,LL,DC,nofun,λA pA aA hpA=>?_};cases an.one hg ho.pin aA;have da:Dr (S3.set pA<|.lst<|(seg L (oS cs q.ps q.wy L none n).1 (oS cs q.ps q.wy L none n).2).map aj) (Bd pA (oS cs q.ps q.wy L none n).1<|L.length-(oS cs q.ps q.wy L none n).2) (Kf L (oS cs q.ps q.wy L none n).1 (oS cs q.ps q.wy L none n).2):=tG Kg aa;have sd:=sc.trans<|.new (c:=.lst<|(seg L (oS cs q.ps q.wy L none n).1 (oS cs q.ps q.wy L none n).2).map aj) hpA;have Tf:=Dr.sub (.new (c:=.lst<|(seg L (oS cs q.ps q.wy L none n).1 (oS cs q.ps q.wy L none n).2).map aj) hpA) hD2;generalize S3.set pA (.lst<|(seg L (oS cs q.ps q.wy L none n).1 (oS cs q.ps q.wy L none n).2).map aj)=S4 at da sd Tf⊢;have k4:=sd _ _<|GV _ _ PU;refine !{q.k,_,rfl,k4,rfl,_,rfl,_,rfl,q,cs,d,n,none,rows,rfl,k4,hq.sub<|GV.trans sd,LL,DC,nofun,λA pB aB hpB=>?_};cases an.one hg ho.pin aB;refine{bC,λp13 VH=>?_};have s13:=(Sub.new (c:=.lst<|(seg L (tE cs q.ps q.wy L none n).1 (tE cs q.ps q.wy L none n).2).map aj) hpB).trans<|.new (c:=.lst [Bd pA (oS cs q.ps q.wy L none n).1<|L.length-(oS cs q.ps q.wy L none n).2,Bd pB (tE cs q.ps q.wy L none n).1<|L.length-(tE cs q.ps q.wy L none n).2]) VH;have hD4:=Dr.sub s13 Tf;have db:=Dr.sub (.new (c:=.lst [Bd pA (oS cs q.ps q.wy L none n).1<|L.length-(oS cs q.ps q.wy L none n).2,Bd pB (tE cs q.ps q.wy L none n).1<|L.length-(tE cs q.ps q.wy L none n).2]) VH)<|tG Kg (S:=S4.set pB<|.lst<|(seg L (tE cs q.ps q.wy L none n).1 (tE cs q.ps q.wy L none n).2).map aj) (b:=(tE cs q.ps q.wy L none n).1) (e:=(tE cs q.ps q.wy L none n).2) aa;have dl:Dr ((S4.set pB<|.lst<|(seg L (tE cs q.ps q.wy L none n).1 (tE cs q.ps q.wy L none n).2).map aj).set p13<|.lst [Bd pA (oS cs q.ps q.wy L none n).1<|L.length-(oS cs q.ps q.wy L none n).2,Bd pB (tE cs q.ps q.wy L none n).1<|L.length-(tE cs q.ps q.wy L none n).2]) (.ref p13) (.list [Kf L (oS cs q.ps q.wy L none n).1 (oS cs q.ps q.wy L none n).2,Kf L (tE cs q.ps q.wy L none n).1 (tE cs q.ps q.wy L none n).2]):=.ref aa<|.cons (Dr.sub s13 da)<|.cons db .nil;have se:=sd.trans s13;generalize ay.set (S4.set pB _) p13 _=S5 at hD4 dl se⊢;refine !!⟨rW dl hD4 ?_ ?_ !⟨br ?_⟩⟩;simp only[PyData.canLay0,PyData.canLayAll0,(pl _ _).1,Bool.and_self];have h1:=(pl (oS cs q.ps q.wy L none n).1 (oS cs q.ps q.wy L none n).2).2;have h2:=(pl (tE cs q.ps q.wy L none n).1 (tE cs q.ps q.wy L none n).2).2;simp only[PyData.depth,PyData.depthAll];omega;have s5:=GV.trans se;refine !!!!!{q,cs,wa,d,n,b,rows,rfl,s5 _ _ PU,hq.sub s5,LL,DC,hb,W2,λA pZ aZ hpZ=>?_};cases an.one hg ho.pin aZ;exact{_,rfl,rW (tG Kg aa) (tG Kg<|(Sub.new hpZ) _ _<|se _ _ VE) (pl _ _).1 (zG (pl _ _).2<|by decide) {S,s5.trans<|.new hpZ,fin}}
section
variable{t:hW}{S0 S:ay}{a:Addr}{fs:List (Addr×Ce)}{F:List Addr}{cs:List (Str×Str)}{dl:List D}{rs:uo}{kn fi:Kn}{hs:List (List Row)}{d:D}{R:KD}{Z:KX}
def Ka(j:Nat)(kn:Kn):Prop:=∀x∈kn.map (·.1),x∈KT\/∃i,i<j/\x=kj i
theorem Ka.CM(h:Ka 0 kn)(hd:GD KT cs kn d)(hk:QE kn d fi):Ka 0 fi:=by
 have h1:Kr 40 kn:=λx hx=>(h x hx).imp id <| by rintro⟨i,hi,_⟩;exact absurd hi<|Nat.not_lt_zero _
 exact λx hx=>((h1.CM hd hk) x hx).imp id <| by rintro⟨i,h1,h2,_⟩;exact by lia
theorem Ka.many(h:Ka j kn)(hI:KI cs kn)(hm:Mny cs j d):GD KS cs kn d/\∃fi,QE kn d fi/\KI cs fi/\Ka (j+1) fi:=by
 obtain⟨hj,ws,hw,rfl⟩:=hm;obtain⟨k1,k2⟩:=Vv j hj;have hn:gr kn (kj j)=none:=by cases q:gr kn (kj j) with|none=>rfl|some w=>exfalso;rcases h (kj j) (ze.mpr {_,kD q,rfl}) with z|⟨i,hi,e⟩;exact k2 z;have:=QO j hj i (by lia) e;lia
 have hz:=zC KT k1;refine{.inl {kj j,ws,hz,hw,hn,rfl},_,.inl {"put",kj j,ws,.inl rfl,rfl,rfl},hI.put hz hw,λx hx=>?_};rcases vt hx with rfl|hx;exact .inr {j,yH _,rfl};exact(h x hx).imp id <| by rintro⟨i,hi,e⟩;exact{i,by lia,e}
def Lw(t:hW)(S0:ay)(q:Kq)(lk:Addr)(cs:List<|Str×Str)(fs:List<|Addr×Ce)(n:Nat)(kn:Kn)(S:ay):Prop:=∃F dl rs,St t S0 q.a ((q.k,JN t.aI q)::(lk,.cO<|fQ kn)::fs) F cs dl rs S/\KI cs kn/\RI rs dl.length kn/\dl.length=n
variable{q:Kq}{lk:Addr}{n:Nat}{R:KD}{Z:KX}{S':ay}
theorem Lw.sub(h:Lw t S0 q lk cs fs n kn S)(b:Sub S S'):Lw t S0 q lk cs fs n kn S':=by obtain⟨F,dl,rs,st,h⟩:=h;exact{F,dl,rs,st.sub b,h}
theorem Lw.at(h:Lw t S0 q lk cs fs n kn S)(i:Nat)(e:((q.k,JN t.aI q)::(lk,.cO<|fQ kn)::fs)[i]?=some (b,c)):S b=some c:=by obtain⟨F,dl,rs,st,h⟩:=h;exact st.at i e
theorem Lw.ki(h:Lw t S0 q lk cs fs n kn S):KI cs kn:=by obtain⟨F,dl,rs,st,h,_⟩:=h;exact h
theorem Lw.new(h:Lw t S0 q lk cs fs n kn S)(hp:S p=none)(c:Ce):Lw t S0 q lk cs (fs++[(p,c)]) n kn (S.set p c):=by obtain⟨F,dl,rs,st,h⟩:=h;exact{F,dl,rs,st.new hp c,h}
theorem Lw.drop(h:Lw t S0 q lk cs (fs++[x]) n kn S):Lw t S0 q lk cs fs n kn S:=by obtain⟨F,dl,rs,st,h⟩:=h;have sl:((q.k,JN t.aI q)::(lk,Ce.cO<|fQ kn)::fs).Sublist ((q.k,JN t.aI q)::(lk,.cO<|fQ kn)::(fs++[x])):=((List.sublist_append_left fs [x]).cons₂ _).cons₂ _;exact{F,dl,rs,st.less (st.nd.sublist<|sl.map _) λy hy=>sl.mem hy,h}
theorem Lw.kc(h:Lw t S0 q lk cs fs n kn S)(c:Ce):(S.set lk c) q.k=some (JN t.aI q):=by obtain⟨F,dl,rs,st,h⟩:=h;exact(st.put 1 rfl c).at 0 rfl
theorem Lw.feed(h:Lw t S0 q lk cs fs n kn S)(hg:Gd cs)(hn:n<=100)(hd:GD KS cs kn d)(Vu:QE kn d fi)(N3:KI cs fi)(k:∀S',Lw t S0 q lk cs fs (n+1) fi S'->R .av S'):gR t [.ref q.k,d] (S.set lk<|.cO<|fQ fi) R Z:=by obtain⟨F,dl,rs,st,hI,hR,hl⟩:=h;have Kw:=st.put 1 rfl<|.cO<|fQ fi;exact{q,d,rfl,Kw.at 0 rfl,GP Kw.sh hg hI hR (by lia) hd Vu λS' F' cM nO hK' hR' _=>k S' {F',dl++[d],cM,Kw.aak nO hK',N3,by rw[zH];exact hR',by rw[zH,hl];rfl}}
theorem Lw.right(h:Lw t S0 q lk cs fs n kn S)(hg:Gd cs)(hN:∀c∈cs,c.1∈Bb)(ho:Og cs q.ps q.wy)(tb:Tb t S0)(sb:Sub S S'){lr l:Addr}{A0:List Row}(uZ:S' lr=some (.lst<|A0.map aj))(hw:S' l=some .well){ss:List Str}(hp:ss.Perm (kn.map (·.1)))(hs:PyProof.Rows.sortedS ss=true)(pm:A0.Perm<|dN kn ss)(pw:A0.Pairwise λa b=>a_ cs q.wy q.ps a b=true)(fin:R (.bl true) S'):oU t [.ref q.k,.tup<|cs.map aw,bU q.ps q.wy,.ref lr,.ref l] S' R Z:=by obtain⟨F,dl,rs,st,hI,hR,hl⟩:=h;have VI:Snap rs cs dl.length (dN kn ss):={kn,ss,rfl,hI,hp,hs,λz=>hR.wt z};exact{q,cs,A0,dN kn ss,lr,l,rfl,sb _ _<|st.at 0 rfl,hg,hN,ho,(VI.vw st.sh hR rfl wV).sub sb,VI.key,(tb.sub st.Kb.sub).sub sb,uZ,{VI.rg.1.perm pm,λr hr=>VI.key r<|pm.mem_iff.mp hr,pw},pm,by rw[pm.length_eq];exact VI.rg.2,hw,fin}
end
theorem VJ(ns:List Int):(e_ ns (some 3)<|some 34).length<=31:=by unfold e_;rw[zV,show(some (3:Int))=some ((3:Nat):Int) from rfl,show(some (34:Int))=some ((34:Nat):Int) from rfl,HT.sIx_nat,HT.sIx_nat];lia
def N4(t:hW):iJ:=λds S R _=>∃ns:List Int,ds=[.iB<|ns.map D.int]/\ns.length<=63/\Tb t S/\R (.bl true) S
theorem MO(T:Txt w K mg t)(B:Bm mg base):Ok P w base T.ZG 20 (N4 t):=by
 refine T.ZG.F.okl dH ?_;rintro _ _ _ _ _ _ _ S R Z hr ⟨ns,e,P6,Yd,fin⟩;subst e;refine{_,(sc (cC (i:=1) dH.nd<|aJ T.oB (CP T) hr<|ac (aJ T.l6 (nh T) hr<|ac (aJ T.dk (dZ T) hr<|ac (dv 0)<|ac di an) an) an)<|sc (cC (i:=2) dH.nd<|aJ T.wA (JG T) hr<|ac (aJ T.l6 (nh T) hr<|ac (aJ T.dk (dZ T) hr<|ac (dv 0)<|ac di an) an)<|ac (dv 1) an)<|sc (cC (i:=3) dH.nd<|mk T.Gm (JO T) (hr.mono<|by decide) T.Gk T.eS.b d0<|ac (dv 1)<|ac (dv 2) an)<|sc (cC (i:=4) dH.nd TV)<|sc (xW<|FR (ien T.y9<|ac (bo bM hr.u (cG<|ac (aJ T.dk (dZ T) hr<|ac (dv 0)<|ac di an) an)<|WJ (dv 0) (o1 di)<|o1 di) an) (gt (n:=2)<|gc (gn (i:=5) dH.nd)<|gc (gn (i:=6) dH.nd) g0)<|sc (cC (i:=7) dH.nd<|aJ T.l6 (nh T) hr<|ac (dv 6) an)<|sc (cC (i:=8) dH.nd<|aJ T.Cp (Ml T) hr<|ac (dv 7)<|ac (dv 1)<|ac (dv 4) an)<|sc (se<|aJ T.qO (Aq T) hr<|ac (dv 4)<|ac (dv 8) an)<|sc (se<|tM (dv 3) T.bH T.gk (EU T) hr<|ac (dv 8) an)<|sc (cC (i:=9) dH.nd<|aJ T.mW (vn T) hr<|ac (dv 1)<|ac (dv 2)<|ac (p_ (N:=["_law_key_here","_law_known_here"]) (src:=[none,some 4]) (i6 (ae NF) ["_law_script","_law_columns_here","_law_order_here","_law_keeper","_law_known_here","_law_k","_law_cell","_law_well_here","_law_deed_here","_law_rows"] rfl rfl<|by trivial) (il<|cb mI T.eE dj<|ac (dv 4) an) (mm<|show(["_law_key_here","_law_known_here"]:List Str).Nodup by trivial) (aO rfl) aP (λ_ _ _ _ _=>px) λ_ _ _ _ _=>(cy<|ac (dv 0)<|ac (ix hr.u (dv 1)<|dv 0) an)) an)<|s1<|si (twd<|twand (bp n_ hr.u (dv 5) di)<|tw1<|bZ<|tv<|aJ T.qQ (AZ T B) hr<|ac (dv 3)<|ac (dv 1)<|ac (dv 2)<|ac (dv 9)<|ac (dv 7) an) (s1<|sr db) s0)<|sc (xW<|si (bp aL hr.u (bo kZ hr.u (aJ T.dk (dZ T) hr<|ac (dv 0)<|ac di an) di) di) (s1<|FR (il<|aJ T.Ct (MD T) hr<|ac (aJ T.l6 (nh T) hr<|ac (aJ T.dk (dZ T) hr<|ac (dv 0)<|ac di an) an)<|ac (dv 1)<|ac di<|ac di an) (gn (i:=8) dH.nd)<|sc (se<|aJ T.qO (Aq T) hr<|ac (dv 4)<|ac (dv 8) an)<|s1<|se<|tM (dv 3) T.bH T.gk (EU T) hr<|ac (dv 8) an) s0)<|sc (xW<|FR (PQ T.iO<|ac di an) (gn (i:=5) dH.nd)<|sc (cC (i:=9) dH.nd<|aJ T.mW (vn T) hr<|ac (dv 1)<|ac (dv 2)<|ac (p_ (N:=["_law_key_here","_law_known_here"]) (src:=[none,some 4]) (i6 (ae NF) ["_law_script","_law_columns_here","_law_order_here","_law_keeper","_law_known_here","_law_k","_law_cell","_law_well_here","_law_deed_here","_law_rows"] rfl rfl<|by trivial) (il<|cb mI T.eE dj<|ac (dv 4) an) (mm<|show(["_law_key_here","_law_known_here"]:List Str).Nodup by trivial) (aO rfl) aP (λ_ _ _ _ _=>px) λ_ _ _ _ _=>(cy<|ac (dv 0)<|ac (ix hr.u (dv 1)<|dv 0) an)) an)<|sc (cC (i:=7) dH.nd<|aJ T.l6 (nh T) hr<|ac (bo HU hr.u (aJ T.dk (dZ T) hr<|ac (dv 0)<|ac (bo HU hr.u di<|dv 5) an)<|dv 5) an)<|s1<|si (bZ<|tv<|aJ T.qQ (AZ T B) hr<|ac (dv 3)<|ac (dv 1)<|ac (dv 2)<|ac (dv 9)<|ac (dv 7) an) (s1<|sr db) s0)<|s1<|sr db),?_};refine !{ns,0,rfl,λc0=>{⟨c0,rfl⟩,λl0 WK=>{l0,rfl,aa,λcs hg hN=>?_}}};refine !{ns,1,rfl,λc1=>{⟨c1,rfl⟩,λl1 Je=>!{l1,cs,rfl,hg,aa,λps wy ho=>?_}}};have JB:Sub S ((S.set l0 .well).set l1 .well):=(Sub.new WK).trans<|.new Je;generalize (S.set l0 .well).set l1 .well=S1 at JB⊢;refine !!⟨λk hk=>{k,cs,ps,wy,rfl,hg,ho,aa,λS3 F a hS3 hk3 hkF hK3=>{rfl,?_}}⟩;refine λlk Zd=>?_;have lw0:Lw t S ⟨k,a,ps,wy⟩ lk cs [] 0 [] (S3.set lk<|.cO []):=by have st:St t S a [(k,JN t.aI ⟨k,a,ps,wy⟩)] F cs [] [] S3:={hS3,λx hx=>by rw[zE.mp hx];exact{hk3,hkF,cB JB hk},by simp,λb c e=>hK3 b c (fS (JB _ _ e) hk)<|(Sub.new hk) _ _<|JB _ _ e};exact{F,[],[],st.new Zd<|.cO [],KI.nil cs,RI.nil,rfl}
 generalize S3.set lk (.cO [])=S4 at lw0⊢;refine{λaF S'=>∃(o5 o6 o7 o8 o9:Option D)(n:Nat)(kn:Kn),aF=[some<|.iB<|ns.map D.int,some<|.tup<|cs.map aw,some<|bU ps wy,some<|.ref k,some<|.ref lk,o5,o6,o7,o8,o9]/\Lw t S ⟨k,a,ps,wy⟩ lk cs [] n kn S'/\n<=32/\Ka 0 kn,?_,?_};refine !{ns,2,rfl,λc2=>{sI,λp1 CQ=>!!!⟨λp2 gU=>{_,_,(Sub.new gU) _ _ aa,aa,?_,λlf Jj=>{_,_,rfl,aa,?_}}⟩}};rw[AH,zb];have:=ME ns (some 3)<|some 34;exact sm (by show 1+_<=_;lia);rw[AH]at Jj⊢;have eL:([D.int c2]++(e_ ns (some 3)<|some 34).map D.int)=(c2::e_ ns (some 3) (some 34)).map D.int:=rfl;have VC:(c2::e_ ns (some 3) (some 34)).length<=32:=by have:=VJ ns;rw[zN];lia
 generalize (c2::e_ ns (some 3) (some 34))=ls at eL VC;rw[eL];have lw1:=(lw0.sub<|(Sub.new (c:=.lst [.int c2]) CQ).trans<|.new (c:=.lst<|(e_ ns (some 3)<|some 34).map D.int) gU).new Jj<|.lst<|ls.map D.int;generalize ((S4.set p1<|.lst [.int c2]).set p2<|.lst<|(e_ ns (some 3)<|some 34).map D.int).set lf (.lst<|ls.map D.int)=S5 at lw1⊢;refine{λi aF S'=>∃(o5 o6 o7 o8 o9:Option D)(kn:Kn),aF=[some<|.iB<|ns.map D.int,some<|.tup<|cs.map aw,some<|bU ps wy,some<|.ref k,some<|.ref lk,o5,o6,o7,o8,o9]/\Lw t S ⟨k,a,ps,wy⟩ lk cs [(lf,.lst<|ls.map D.int)] i kn S'/\Ka 0 kn,{_,_,_,_,_,[],rfl,lw1,λ_ h=>(nomatch h)},?_,?_,?_};rintro i aF S' ⟨_,_,_,_,_,kn,_,h,_⟩;exact h.at 2 rfl;rintro i d aF S' hd ⟨o5,o6,o7,o8,o9,kn,rfl,h,N5⟩;obtain⟨x,ex,rfl⟩:=D9 hd;have hi:i<ls.length:=by have:=(zf.mp ex).1;rwa [zb]at this
 obtain⟨c,hc,rfl⟩:=ze.mp<|zK ex;refine !{rfl,_,_,rfl,_,_,rfl,rfl,?_};refine !{⟨c,rfl⟩,λl hl=>?_};have h1:=h.new hl .well;refine !!!{l,cs,lk,kn,rfl,hg,aa,h1.at 1 rfl,h1.ki,λde VL=>?_};obtain⟨fi,J5,N3⟩:=(GD.up VL).as h1.ki;have hkl:=h1.ki.len;refine !!{lk,kn,de,fi,rfl,h1.at 1 rfl,by lia,J5,?_};refine !{k,_,rfl,h1.kc _,rfl,_,rfl,h1.feed hg (by lia) (GD.up VL) J5 N3 λS6 h6=>?_};have Q0:=N5.CM VL J5;have ek:(fQ fi).map (·.1)=(fi.map (·.1)).map Sum.inr:=by unfold fQ;rw[zt,zt];rfl
 have Q1:=N3.len;refine !!!{lk,fQ fi,fi.map (·.1),rfl,h6.at 1 rfl,ek,by unfold fQ;rw[zb];lia,λss hp hs p l9=>{_,aa,?_}};have h7:=h6.sub<|.new (c:=.lst<|ss.map D.str) l9;have VM:Sub S6 (S6.set p<|.lst<|ss.map D.str):=.new l9;have G9:(S6.set p<|.lst<|ss.map D.str) p=some (.lst<|ss.map D.str):=aa;generalize S6.set p (.lst<|ss.map D.str)=S7 at h7 VM G9⊢;have hsl:ss.length<=50:=by rw[hp.length_eq,zb];exact Q1
 refine comp_map (λd=>match d with|.str z=>.tup [.str z,oO fi z]|_=>.av) G9 (by show(ss.map D.str).length<=1000;rw[zb];lia) (λd hd Q hQ=>?_) λlw RW=>?_;obtain⟨z,hz,rfl⟩:=ze.mp hd;obtain⟨ws,kP⟩:=jY<|hp.mem_iff.mp hz;have MC:oO fi z=.tup ws:=by unfold oO;rw[kP]
 have hQ:Q (.tup [.str z,oO fi z]) S7:=hQ;rw[MC]at hQ;exact !!!{fQ fi,.tup ws,h7.at 1 rfl,by rw[nj,kP];rfl,bC,hQ};have em:(ss.map D.str).map (λd=>match d with|.str z=>D.tup [.str z,oO fi z]|_=>.av)=(dN fi ss).map aj:=by rw[oQ hp,zt];rfl
 rw[show({ss.map D.str,λS=>p7 S (.ref p)<|ss.map D.str}:vW).xs=ss.map D.str from rfl,em];refine{cs,ps,wy,lw,_,rfl,hg,ho.pin,aa,Nat.lt_of_le_of_lt (oR N3 hp)<|by decide,s_ N3 hp,λA0 pa pm pw VF=>?_};have Q2:=VM.trans<|(Sub.new (c:=.lst<|(dN fi ss).map aj) RW).trans<|.new (c:=.lst<|A0.map aj) VF;have ha:((S7.set lw<|.lst<|(dN fi ss).map aj).set pa<|.lst<|A0.map aj) pa=some (.lst<|A0.map aj):=aa;generalize (S7.set lw<|.lst<|(dN fi ss).map aj).set pa (.lst<|A0.map aj)=S8 at Q2 ha⊢;have nx:∃(o5 o6 o7 o8 o9:Option D)(kn:Kn),[some<|D.iB<|ns.map D.int,some<|.tup<|cs.map aw,some<|bU ps wy,some<|.ref k,some<|.ref lk,some<|.int (i:Nat),some<|.int c,some<|.ref l,some de,some<|.ref pa]=[some<|.iB<|ns.map D.int,some<|.tup<|cs.map aw,some<|bU ps wy,some<|.ref k,some<|.ref lk,o5,o6,o7,o8,o9]/\Lw t S ⟨k,a,ps,wy⟩ lk cs [(lf,.lst<|ls.map D.int)] (i+1) kn S8/\Ka 0 kn:={_,_,_,_,_,fi,rfl,(Lw.drop (fs:=[_]) h6).sub Q2,Q0};refine !!⟨bB (λh=>?_) λh=>nx⟩;exact !!!!!⟨h6.right hg hN ho Yd Q2 ha (Q2 _ _<|h6.at 3 rfl) hp hs pm pw !⟨br nx⟩⟩;rintro aF S' ⟨o5,o6,o7,o8,o9,kn,rfl,h,N5⟩;have e:(P1<|ls.map D.int).length=ls.length:=by rw[D4,zb]
 exact fo {_,_,_,_,_,_,kn,rfl,Lw.drop (fs:=[]) h,(by show(P1<|ls.map D.int).length<=32;lia),N5};rintro aF S' ⟨o5,o6,o7,o8,o9,n,kn,rfl,h,hn,N5⟩;clear lw0;refine{λaF S''=>∃(o5 o6 o7 o8 o9:Option D)(n:Nat)(kn:Kn),aF=[some<|.iB<|ns.map D.int,some<|.tup<|cs.map aw,some<|bU ps wy,some<|.ref k,some<|.ref lk,o5,o6,o7,o8,o9]/\Lw t S ⟨k,a,ps,wy⟩ lk cs [] n kn S'',?_,?_};refine !{ns,1,rfl,λc1=>{(by decide),_,rfl,bB (λhc=>?_) λhc=>fo {_,_,_,_,_,_,_,rfl,h}}};refine !{ns,36,rfl,λc2=>{⟨c2,rfl⟩,λl1 Je=>!{l1,cs,rfl,hg,aa,λout p P9 KN hp=>{_,aa,?_}}}};have h1:=(h.sub<|.new (c:=.well) Je).new hp<|.lst out;generalize ay.set (S'.set l1 .well) p _=S2 at h1⊢;refine{λi aF S'=>∃(o5 o6 o7 o8 o9:Option D)(kn:Kn),aF=[some<|.iB<|ns.map D.int,some<|.tup<|cs.map aw,some<|bU ps wy,some<|.ref k,some<|.ref lk,o5,o6,o7,o8,o9]/\Lw t S ⟨k,a,ps,wy⟩ lk cs [(p,.lst out)] (n+i) kn S'/\Ka i kn,{_,_,_,_,_,kn,rfl,h1,N5},?_,?_,?_};rintro i aF S' ⟨_,_,_,_,_,kn,_,h,_⟩;exact h.at 2 rfl;rintro i d aF S' hd ⟨o5,o6,o7,o8,o9,kn,rfl,h,N5⟩;have hd:out[i]?=some d:=hd;have hi:=(zf.mp hd).1;obtain⟨VL,fi,J5,N3,Q0⟩:=N5.many h.ki<|KN i d hd;have hkl:=h.ki.len;refine !!{lk,kn,d,fi,rfl,h.at 1 rfl,by lia,J5,?_};exact !{k,_,rfl,h.kc _,rfl,_,rfl,h.feed hg (by lia) VL J5 N3 λS6 h6=>{_,_,_,_,_,fi,rfl,h6,Q0}};rintro aF S' ⟨o5,o6,o7,o8,o9,kn,rfl,h,_⟩;exact fo {_,_,_,_,_,_,kn,rfl,Lw.drop (fs:=[]) h};rintro aF S'' ⟨o5,o6,o7,o8,o9,n,kn,rfl,h⟩;clear N5 hn;refine{λaF S'=>Sub S S',?_,λaF S' h=>⟨S,h,fin⟩};refine{2,rfl,by decide,by decide,?_};refine{λi aF S'=>∃(o5 o6 o7 o8 o9:Option D),aF=[some<|.iB<|ns.map D.int,some<|.tup<|cs.map aw,some<|bU ps wy,some<|.ref k,some<|.ref lk,o5,o6,o7,o8,o9]/\Lw t S ⟨k,a,ps,wy⟩ lk cs [] n kn S',{_,_,_,_,_,rfl,h},λ_ _ _ _=>trivial,?_,?_};rintro i d aF W7 hd ⟨o5,o6,o7,o8,o9,rfl,h3⟩;obtain⟨hi,rfl⟩:=g_ hd;have ek:(fQ kn).map (·.1)=(kn.map (·.1)).map Sum.inr:=by unfold fQ;rw[zt,zt];rfl
 have hI:=h3.ki;have Q1:=hI.len;refine !!!{lk,fQ kn,kn.map (·.1),rfl,h3.at 1 rfl,ek,by unfold fQ;rw[zb];lia,λss hp hs p l9=>{_,aa,?_}};have h7:=h3.sub<|.new (c:=.lst<|ss.map D.str) l9;have VM:Sub W7 (W7.set p<|.lst<|ss.map D.str):=.new l9;have G9:(W7.set p<|.lst<|ss.map D.str) p=some (.lst<|ss.map D.str):=aa;generalize W7.set p (.lst<|ss.map D.str)=S7 at h7 VM G9⊢;have hsl:ss.length<=50:=by rw[hp.length_eq,zb];exact Q1
 refine comp_map (λd=>match d with|.str z=>.tup [.str z,oO kn z]|_=>.av) G9 (by show(ss.map D.str).length<=1000;rw[zb];lia) (λd hd Q hQ=>?_) λlw RW=>?_;obtain⟨z,hz,rfl⟩:=ze.mp hd;obtain⟨ws,kP⟩:=jY<|hp.mem_iff.mp hz;have MC:oO kn z=.tup ws:=by unfold oO;rw[kP]
 have hQ:Q (.tup [.str z,oO kn z]) S7:=hQ;rw[MC]at hQ;exact !!!{fQ kn,.tup ws,h7.at 1 rfl,by rw[nj,kP];rfl,bC,hQ};have em:(ss.map D.str).map (λd=>match d with|.str z=>D.tup [.str z,oO kn z]|_=>.av)=(dN kn ss).map aj:=by rw[oQ hp,zt];rfl
 rw[show({ss.map D.str,λS=>p7 S (.ref p)<|ss.map D.str}:vW).xs=ss.map D.str from rfl,em];refine{cs,ps,wy,lw,_,rfl,hg,ho.pin,aa,Nat.lt_of_le_of_lt (oR hI hp)<|by decide,s_ hI hp,λA0 pa pm pw VF=>?_};have Q2:=VM.trans<|(Sub.new (c:=.lst<|(dN kn ss).map aj) RW).trans<|.new (c:=.lst<|A0.map aj) VF;have ha:((S7.set lw<|.lst<|(dN kn ss).map aj).set pa<|.lst<|A0.map aj) pa=some (.lst<|A0.map aj):=aa;generalize (S7.set lw<|.lst<|(dN kn ss).map aj).set pa (.lst<|A0.map aj)=S8 at Q2 ha⊢;refine !!{ns,34+i,(by rw[Int.zero_add];rfl),λc=>!⟨{_,rfl},λl hl=>?_⟩};have RY:=Q2.trans<|.new (c:=.well) hl;refine !!!!!⟨h3.right hg hN ho Yd RY ((Sub.new hl) _ _ ha) aa hp hs pm pw !⟨br ?_⟩⟩;exact{_,_,_,_,_,rfl,h3.sub RY};rintro aF S' ⟨o5,o6,o7,o8,o9,rfl,F,dl,rs,st,_⟩;exact fo st.Kb.sub
def JQ(t:hW)(K:Frag):Sp:=λvs H Q _=>qG K (N4 t) vs H Q E0
theorem Q3(T:Txt w K mg t)(B:Bm mg base):bO P w K mg base V9 20 t.NG t.IQ ["_law_script"] (JQ t K):=bO.calm<|MO T B
theorem JR{w:World}{K:Frag}{mg:Str->Option Value}{t:hW}(T:Txt w K mg t){H:Hp}{a:Addr}{ns:List Int}(hl:ns.length<=63)(hO:x_ t.ts H)(hS:iZ K H a<|ns.map V.int):JQ t K [.ref a] H (λv _=>v=.bl true) λ_ _ _=>False:=by
 have hR:Nd K H a (ns.map V.int):=by rcases hS with (h|h)|h;rcases hO.all a with q|⟨o,xs,q⟩|⟨_,q⟩;rw[q]at h;cases h;rw[q]at h;cases h;rw[q]at h;cases h;exact .inl h;exact .inr h
 have Ba:t.aM≠t.aU:=λe=>by have:=T.np;rw[e]at this;simp at this
 have tok:∀q,DU H q #[]:=λq=>{trivial,λ_ _ e=>by cases e};refine{[.iB<|ns.map D.int],λb=>if b=t.aU then some (.tab qK) else if b=t.aM then some (.tab qV) else none,λd _=>d=.bl true,λ_ _=>False,aS (HR hR<|DR ns) bD,λb c e=>?_,{ns,rfl,hl,{if_pos rfl,(if_neg Ba).trans<|if_pos rfl},rfl},λd S v H' e r _ _=>by subst e;exact r.bl,λ_ _ _ z=>z.elim};by_cases h1:b=t.aU;have e:=(if_pos h1).symm.trans e;cases e;rw[h1];exact{#[],hO.tab _ T.mT,tok _};by_cases h2:b=t.aM;have e:=(if_neg h1).symm.trans e;have e:=(if_pos h2).symm.trans e;cases e;rw[h2];exact{#[],hO.tab _ T.kL,tok _};have e:=(if_neg h1).symm.trans e;have e:=(if_neg h2).symm.trans e;cases e
theorem Q4{P:Program}{w:World}{K:Frag}{mg:Str->Option Value}{fa:Addr}{ts:List Addr}(Pd:mg "law"= some (.ref fa))(T:∃t:hW,t.ts=ts/\Txt w K mg t):∃(fd:FuncData) (sp:Sp),(∀b∈ts,∃c,codeHdIn K c b=true)/\(∀(s:Shared) (u:Value),BindsTo s fd {[u],[]} [("_law_script",u)])/\(∀base:Heap,Bm mg base->K.In base->base.Ns mainGlobals mg->bO P w K mg base V9 20 fa fd ["_law_script"] sp)/\∀(H:Hp) (a:Addr) (ns:List Int),ns.length<=63->x_ ts H->iZ K H a (ns.map V.int)->sp [.ref a] H (λv _=>v=.bl true) λ_ _ _=>False:=by obtain⟨t,et,T⟩:=T;have e0:=Pd.symm.trans T.ZG.m;cases e0;subst et;exact{_,_,λb hb=>(T.ta b<|hb).elim (λe=>{_,e ▸ T.dD}) λe=>{_,e ▸ T.cQ},T.bl,λbase B kb nb=>Q3 T B,λH a ns hl hO hS=>JR T hl hO hS}
end My
end Tactic
open Tactic
local macro_rules|`(command|universe $xs*)=>do return Lean.mkNullNode (← (xs[0]!.getId.toString.foldl (fun (h,n,k,l) c=>let n:=n*62+(if c.isDigit then c.toNat-48 else if c.isUpper then c.toNat-55 else c.toNat-61);if k=9 then (h+n-10*62^9,0,0,l.push (h+n-10*62^9)) else (h,n,k+1,l)) (0,0,0,(#[]:Array Nat))).2.2.2.mapM fun v=>`(command|theorem $(Lean.mkIdent (.mkSimple s!"tw{v}")):ident : True:=trivial))
namespace PySem.W.Fast
universe BDCqdunqoCA4uJQdpndzBAsyBOhwkAAPVj52eS1xBqmOO83huLDHaz2HRi8yCbb2eGPtLdAHYvJJri1WAsTGFwCf5RAAjUzN57trFFKLIe0daOArahelcvSyA38dG6LmxEAnatnjPcs0ACtZJ8mjbBDwwcKNbbDHAD1hIsSmiBAUWMdRh85WD8i2OCzTrHE5TXHi4MOcFVjKaAlh6eARLSz6uh2xBE2UK3DjDxDv3mV2E8QZBCkIN3OhiuAVQCW4Zb4KBg3JbuKBOYAeTzwG3FTlACq02xFcpGBuR678KsQ3AEZpDiXb24Bl2zZHKYrwASvzqZ6NMjCM8j9cdR3cAa6ZLvKkVsBEW3rzNp8cAHSJFbHzNTBp4YAJQpgiBPkBDa2p6GA4MxhhfNMeCPLYFzorMPCELD39fAQ3CWlElu7M8sAgoqWF1pvGAYxndfpLKxAaKicJxqtrAw4QBf6sziBB3n5yGvIrF6s5FxE0yVBA5tAdpoUfCBTdQd0NpBA4v2j35q44ENEVKnD56iC6KiXfTLG8BeN6fuhUo8DW7zCd4a4aB4mGoL6NhqCFvesvrix2DZ7mjrEy4kArr0JI70z0BNZW94xA3oAM4T2feEVxAO1LOylwJMBxr6c9UgYQAl1cLJoTahC6CJjH0LIvCVPQTExy0HAgodKdP75QFOYnWMEny6CCtCLCf2rdBVMsv4TUlgCR1PBXKz9XCpOv31mMnSAYzZreYpwTAWgliHTDWvChV047kqs7CYewo1iscgD6dZtEAns7BnXVcaMwzEFAigpqcZzxDobKFzJ2quAmLs1c4kOSBhBonCv4hqBGvWsfp2NsAEWblRS9veA10zRYyplcBcT90qSqVfD0CCj1NRZ8AKT4VXWbgsBlHqyzQFe0AMiDpmr0NjACXHmM9uvjBuE7UL5cHgA2FN1Dt4tPAN22aj1mdRAMUTH8vgqeAhFcdSbdUPD5SD4hrFFICoGb5ueer2AWLwBSGwToA2mEZT07YUArxHI3uQahBNDBYZQkXzA3i064QJZYAheN75rrXsADIloujs61BzvRETiucgAu5dJlkgPjD6YLlQFHqWG5KmGaPYy1As7oTF1i7kC7b9FtAxtGA4fojt10MaJ30l0zjC0cCARBIFKmdKAeMDYXBEogCr9uMJcpV3ANkM7D6R0TA776FTUp6FBFwOZDwbvxAmhm8TML3mAXj6oMA8JSGjM3BumgKRA3bTzpezRJCRSmRzspJACPgkGPmKalAZJb2IlOUhAmcJ2vIK4NBJKHpHy5peAuD6rVpLbwAfzVYGoXgwB3tCsvo5kQBqc4c5qMKfB19Jg9zNhRB4NRIgeJr4Al5wbtnoZGA0fZDGCgHBBq0VsFJyF8EYWDroBv0EA8u3Cy1fJZB3gA0N9eEKAc60tjjMpID6kOaVxXatANg9HvgBSxEtMb0KKTO1AdFSWoc2KqBdCKbXvLVBAxo933T4RDAUHoSNcC9OAFOX8n2iO9AP2mCHIgyjAyr3JcXhbrAA1p5FJKs2Ajva9hbKSXABqANhl7xfBC0DlNVt9uAFesMjsVZ5AGRBFh3gWtDgKegJEM0GCrQRjSNHm4CO5ZvUYPgrBYYaJchNWzAnQ4c2r6IYBcwcjI3SENCteFM2foaQAdPES9BxZrA2K60Y2nMSBtXAUTJ4lJCegOzgDuu2B58o5ksxWuBAc4sEUZTSFkVVLII5MUFOXnonf5JxA7K8Ts5VEXAyAWX1F103A3r3Uz7IjJAw2RESCuaILGFcZPsGyhBK1bdAFpsyC6M9nx7p5EAvLDoj43SmA3KjMQVGXkAPdUxjdFWyACOS1leTQPCpEMjiPHTeF0MZ0oeq6FCAMbphaLNmA0FYIM7fPRB27tzEXiGSAwpptjY7ykBvQMHXJ4DVAcoxuB14STBGHqX2NgrBA09lgpEBoKDqsqclKHGdA39N4ByYM1D256qe4LxYAolURBYhdJBFIcGnpr8VBOi6mFHaqUA9U1uwhkcrDIBXZ5fd0WDC3fC9obYLA6FikBVYOICQzm4h58rSA6umWpUWZGD9IHOlKD3QA3hKNHFWyqBFGuJ0G62RB4mj7jEaMiEaK1m6LLHOCmiJtajk1DEuoHIyVKeWBDOdaRifJpEkajpvoyKrBXXMVGJlDNC7S1JfYvT3AabXL2nyMnD5b2wqmwScFSwfMrXnr5Ci5TCQwTueD0xv8KrNaDAyUpVWa202DsWxurXX0uAiTkfKH9wdA56kEBpxibBQHOaeBu50EBTNMHW5XuA2SXEHqO4XCRDnV2wOs7AZWsJ9QD1FCQbJsFRP5xBUqS2l3nHUC4tGgbI6stBbB27YY2OvAVX0EFsdumBa9CLfFqwDLEpGeGywZUAP2uOTppotAlQnCNZniUAwFnjg8YKJBFYJqixg3SA4EzLG30ecCrSc8sjrMkAVIlfmbuiTBtaCcXbjkeAx4O7HVkiEFl2sbMVrYZB890ivsfdsAnzkUJNgjFAq84n6c8v3AjF4Xs9KifAiqt06xcMGDkY5vegRNVAEByJUcN5LEJ3eyqcqC8CsxJwXeRjOBlpYGvk9OJD17iP9lWdcA48Smj85dYALj3GwKRE1BbJIRhZKyVATIOi1FQ0cCvMyRuZbNpAM1heYMsa3AR3UcaFWyVAvPJIsCgziAPTxVgGo9YAE1gyyurnKDOqmZjzjoPCs7u7ytN3UCVb2xddWcsB9ulpnfx89APlykAQaY8AILduUwPKDA2ccl1KnteGiYzp3dWsnBio2PBQgkBAVxoQtaqNJAVaDjhFfcdDO3sOpAjFLABuoqDPbhPCEWceQHXe2BOQcMAHPE6DfthktAPzoB6uh6uqINiASHRusjJNgBOBOWvCY58B4c7jFV0OCBI0txyAg82B8UHeNmUQqANsfhDPJtcC9ez8PYxoXB6iVxwv8hMC1FGEYeAKQAj7rIUX9wdBvR89VC6ScBOxQvvlg0aC2yXbKVzj0B2Kw0HvxRvAXthP7ZPrMAOMBT8SOqdACnbZ54eOsBzX4KTYyegDgX81gqWJLB4YkZUckodBRs1NwnyXdBXL8ztNo8ABWCoD8FWeZA1xzlJ9RVdBF5lcFnCC5Bcuf0RMkoZD737AgHM9vBdqk9MnmnSA5MiLsAXIPAF0xKpDgujBPwCbs2MN3Adkpl2AraUCDHZTAhHlJA94ymoh2q7Cu3U2gYM6HB8yR5Ma5xYB7TK1DGm4zAUV2BTirGCA1XzG4CV4EAjfjBjPBvlAxsy1cT0K9AxNTCT1DjNA2zzjMKNG4CBrDYoKHshBFLr41WYgWCRGTt9wwuJCiYxwHziqNAwVjcuO64ZE2PNn1Z9sSDYujA13B9KAALpUwY65rAXA54bwC4bArBxlA8tVbBOxOGR8V5MIASAcAo7kVBTWr1qOE8RATYCHUuzFzAe6FA9CTKyBUJinjXrpaBCOfgi7fw7AowfnDu6IdCVIoyJnxniB0PcxXYdNLBJuf2LbFlEAFUETaTtWDBnWihPjVBqALd1IrXw7RA7YZcwgitlAIrEE9zlqIHqynBjcCGXAb96YhQbdwA6cRIpGip2A0RRnzzGOQB5eaSm5TzqA0q5J8lIpFFVmOfFINqOA8GmRK8TMVAIIH2YGz0YB68i91htfkCFl12VZBVqARmEdhhIpuD0nLaKILw6A0SjbiU4uAAzaECrDWKODJFi2OeE9pBE4KFmlFD4AZGwLUjxI3C0fOXazIqRBzHH8OAawWAIwg4iVpdSCVczKdzHvnCCIrOatvfbC3a4RSzNGsCY9cblnzTUBUwhhT2tZxAo8bIgwk8LBFJ0U9GOidB3mYNPSgJeCHWkTrB00KAUg1tkM1vADrDm8LkO8xAHVJgBnTgNBuLIopqFo7K0BTFwBpTNB1o76bWxv7BpRKGxLDJxAZR9boiYESB5GYo25RFOA4R20nZsTBCiPhFSdcT5Dzy5g6iclJCwW5qJ0jHQBuKeMzlRj7ArsZcRUsfyA2LGPfNEPXAL2vllVpYDC8ii5EFv1HB6vHEQkFWNApSeY1pWZEA04ZlsGebHATA7MQT1mNA5tQhxZccIBB1PYYSYubB3VKrZRhqzAH7iDAd2wMCL05X3lhXjCCOpeBGfnZBwyn2UcZ7TA4ipd412TfAKm0i7Q8UnAVfXSwaYr2At6YMk97Y1ASC5bpJ9fJASr9afCJONBDVtlMeYfFARr3aUF0QeA3FdezjdTOACVuskzaSRAKnVmouNRBClHeoxZqZBAsaiuPBW2wAOfAMn5GvaCW8Igsqeh7B4TleH4b2KB8bVnQqlRKEvbKq6OK18DDZrsEfMHMBJcMoL20tmCTfndZds7KDCiOhD9WcDAsFj1EBJ5bAtWrupztILApRo9ptOzrDzEMi4C8miFY5qpt6JAgAL6hEqqwVeAx7yfehOWTAcucEXYW9wA7u8TvPOIxAZSmqSsZATAzEyiNmOZLD2dQ2NuKznBzrUQyS1IxDVVfulRtg7Ad98rh7lWEAb2ulQ3oq0CXqVthnOhZCsIeX2er85BRf8stw1QNBRQ8XFJy4gAK3GfhmHErCfZAUtBvBUCDf3osi9XFBWN4QhvGcDAtMtwMahMrC4BX5gVaVEAz7wkvCnyMAcCDTkvev4AkSnOzzjudAUQW0zTLIRH6isSFPDbJBsQpK4jgUSBAi9RMd7iAECiM3pGpaXDcKoQadinwACIsaMLWYMCsYJl7X4KjArKjJ8eFp8AVChgL10gyA1NqzP84KJC6Yud7JhEQAzjXV0MxJuCNx9kHuxHeA8Ezpid2WzB4fQrPzrGuAVWZZCEYUBA6DlogrvKAB9OqbZG3wCB8ToxEMt6pA3PvJr0cfGBZUuHgaiojAflKpXCs9FAqmbf1G9UhAxMJxFxKbDAltsn9hGdwFa3Z925dpdA7ND05MvfTDW5XPpdjFGCOtcPuxMoTAGrDb1y0H4AwUBuKmtFDBW0SgRGl6ABkyTPRRGa8AYNggUZkv8AUlVwGUl08BbkSr839JBA2Dx8F0BVwD0wor3hypcAWLx6wFvImAANRDOKiS0BNRKuY8RVKB36uuqaRNlA50uCjJJmuA7hWA0cNJUAhBK8nGsJGA3D7fRQ65FAN91KlKLcVAlg1kg7m8jBnBWXejRbqAFkmqR3wtbD5jISDhhQoAs3Yzxw2xQAZPYyOlCSMAvJqHLBB9jHWFxBlko3cA77TuUvTLPCE1kc4e4oYB6Ba8v0A4YB0dQrL7oa8ALE2zNit60BFMi5YXLGeD9bpun1x9TABy8u1aNxmAszRweAOdkBBGbLdHUToBfn0Lj5b1AApfkSH8ZGMB2Hzvj6eWTC4NkmxgfbgBbfVjiWwdrBCjTRNYx2TBreKP3UYbdAbte14qTCNAMTBWlCt9pAPCYVVvQwUAHUZqkGIJGBxkuAdVx9GAJgDn5uZx8AWVbvXsfgOBtinnaiuiIAdnAemcSS3BocB0oczcoC6kCm6AZJsCJnnfF1h2rAPSquembWtA0o7XPPNVoB7dB7sL8zyD2Aag2wBZiA1Mzb9mbMAB1xDMGSrESBY9WmVLDIADfmKETClg0ADBdkpUDPGAvgo0pStWOA0GuhPMsOuAEF5kwVUsaAehlgSboGgCIYulFg6j3CmSXdea7ITAuvdHp9ZAgBnUWhLS2x0E1Ty4iljtuA0AmepxhdxAcenef2jQbBYTTLzIYWbDENulyfta9Du4FfLIiabBn0jcUUulSAopEqxNOkcATNaLXcvizCMIIeRtenHA8JapZYZp4AVsI5UcyOBAgCmXbtT89BH9pKBDy1nB4Lrypc1IBBG0NJtdvCRBbcnvCFk2NAzkDA1Y8BlAOTlmPDY0GAqeRbiSQKJBZDDs9u331At2uzx13WSBOuixzrfM6FqSCxZNwNiAzYpnRINjTAt6jThNg0IA5tq1GpSX2CFp2kLbjeZBrbrlxLdEcBIs1cdqgX7AIaBaoiyn3FLBxk3RnKpCSOjbOqGqBALyYs1brE7E6giL6XeN4A0DgSMpILPAXywFehn51C2uFOz0QyFCZ619RG0UeAGx7FiPUXwBlethQkkCqFBTNDbX5t4AyyHIXCiENAgMDIwH2PYCfTzTCCCu1Kf6D8dwWJeACMOs8SIfvEYqPEjxgWFBbM0RUUmFbDH7Z1DSLAhDtuKq4woxUA9SUt3CtbpA9TsCTRLQVFAioCSmGNJAe9bAAGFeIC7mWNpc4BNAvezJuez3mAk9BTEeSyHC0tM6fu8M0BxpEF8xErvA0jzltwZwXB4mVQdQ96NCA45dz9KC5AhOD31DJQWAhFkN3xEpvDeEp6k2ab1AmfKeYdxT5Az4y9eBo42DAvvjemVoiAEgYYNYp2rAssXL2B0z9C27g6DIKgfD7zArN13JvBgSiqxcu49C8tvIr2LMiDvgSrvopfSA0eALxZmmzBVk99RrIJkAHKe8Izn19AehylAZT0bA2iGgmL2yHAIBbJFVdIKAAobzWbPipC8MqNapfOrCmSL2UUX17ALfnHJ3WN8Btrmc8d8x3C7ild9xYXTACP3bF3cOgBogN1dImgzBBwWOsBdfUBSEuElLR5vA2SvO105jOCkiPZHBZFLAO4IyqMNDJBVOaIjzACZAA14oyZSwTADga04573FE7f0mB9b6SBJ0enp53e9AIIoNwkifqDVeZ1vZjszA7gIjhYLkcC2nUnDCnhWBhrcqOerYBADeqvX9JwNAtMsVhPH6LAgPdebOTMFB3IJ3oAG7AA1UfMnOJ9vA9Uy3KSdqsC6qrgrlRQTDjUKQgIAVoB45hDozf58D7rtAt0ICpA7bMpcky0cAwVOpODN3fAMAaIGpahaAGlPkTgSVhAFN27rphKXCilg5KV9mmBsumW7ZHrqAAiHHc6QeeA0O0Xky4OCDGMK4BRhNCBA59BqmUfnAuSWLwZ3FtH8bFypSpFTAsBhZqNQQ5A9uMKETuzNAK63rSFXuTAk0dcVKRrdAWixXWfi5TACs6ZRaUkkBLoZlcw9dXA3QSvrtIg1CgP7335caaCJJidWdwQuE9P9EPX7LoDNX15Acs7JC7lkRErdHMBD1dzCTNk9BUOTGZJvgVAy24w6V1f4CuXPEr06YnBVz8iuPO32DWw7fv7ZT2AdGriZCjWCAF2DXdXWs0D39wdRQJnABg231RziPMBM5CXnxpqGDfzGmS8uVvAfeYYTV4ftCiOTGCmfJvAzJckBV88kCxYTrRyg5OBM0EjgKT4aAja9vA2xU8CYtSgkpIbmC6ougTaKDjAhSqQ9t8zcDvH9E3LQGZDEGvdP0yolAxRdTD2yvYAeFPGx9p4YBZQDsTtwAnANaKlIfpqNAWqcbIA7BBAEWo9thurkAs1DzDLE9JAPgFNNfJeuBpO9hodVZ1AmcmHdJNNGBwpdXGGI36A74HEpFRpKFx8O9LV6aFDot6ZYZXQGBykaB4cxPOCxiKwfb7hLDRHuU2sProAV8FXPjVAsC05XSQCnQHBCUC15RVMDBTHbjdQFajIIkAQRUD9BGetOADWgrJB4UhEPgo74CzVuwQM96xABtxe7WLcFAftpqlxLhWBlLb42wlVbAgyWrO05gHA3BjsPsxsaAv2HNGMRgWB5Zukv9IDOACODyPsIoZFkpvdJN9wKBfaZDKucJVCGaO0uOjrpAjvI8wtWIJBOhnSDcWcTAzE8NcMulGA8od9giMcHBNA3VhE3fLE15ymwTozNCDbSSm6KD2BIWEhmzNRTADJcFMSQa8D4WsvygllMAKqgjbP6a0CZ8JeqWsgQE4EgGVvJ1uCoowvuVZtsCk2hBG5PMwBSLALvqhq8APwc9x9wO2AgnKx8jh72Bf8bh5wPJMBOlFBBAyl9BevPxXIwYUBc7AIewZxVAf7frUNPKLA5ApBZNhceAkB7ddDkysB9CfHhISHBBo7KmKZYS0AelhLjACHNBmHDXX1g98CHQ80cZvWtA6LDGdhezCAKouIm0rBTABv8ICgMzsAJgKc3Ck18AIz2nBieaoA9AzyVbEPrCicRVR3GtSBEc3SaKQN1B7AgjKxdboBJlTkWdakRAt58x16l4MDCQaB6ic4IDbEB8z3F50AM4qV51YP2AVeU3Iub8cBMKFbRT3v9ADGIMdAzk0CcMZ63rbQfADCxSajV6ADlTmdXsnZSDOlpx1UTL3AYmivpdPUWAJZWEC1qnKCfZnL3ZiIbEUlNBTIGYHIUxzvOYljFAulYZmM2TCANca3cAtwUBdqoRFZAodA8Hfih7v0aAeiASJBJssCbRyczb2O6AL7Jx4f4P2Az9gOaroOfB2Lu6xOewfBK6vg9uXiDCDwTaJzx2bA773KEEYzWCRV3XYpK1KBvq772FmMPDZ2mHT1e28AS27K1lsbOBJqHuvG5pjAS9QTUiHaDDUCLrey6z6BZWmhVAmfCAuYxz8fm4xDpXkJedkD2BPPaI966pbH2I76Sv8B6AFG1IHxLcyBWKW04aKyiBor2WORKzjA1O4jVEXLoC01aQxgEn4
end PySem.W.Fast
open PySem PySem.W PyProof.Rows
set_option maxRecDepth 100000 in
set_option maxHeartbeats 0 in
theorem PySem.Challenge.cw_pageturns_k48_whole_keepers_pages_holds : PySem.Challenge.rw_pageturns_k48_whole_keepers_pages.Holds := by
 w_on;o_law;k_head;(case hw=>w_witness2)
 k_fill
 refine L2.IF (l:=PySem.Challenge.rw_pageturns_k48_whole_keepers_pages) (n:=63) (k:=20) (x := "_law_script") (CX:=L2.V9) rfl (by decide) rfl ⟨rfl,by decide,by decide⟩ (fun w h Y=>PySem.W.km_in_of Y) (fun w h Y=>PySem.W.km_tabs_of Y) (fun w h Y=>L2.LR Y (by trivial)) ?tF fun _ _ _ _ z=>z
 intro w mg fa h KX G Pd
 refine My.Q4 Pd ?_
 refine' L2.gvc KX G "Shelf" ?a1 ?b1 ?c1 ?d1 ?e1 ?f1 ?g1 fun MP au MQ k_Shelf=>?z1
 (case a1|b1|c1|d1|e1|f1|g1=>k_is)
 refine' L2.gvc KX G "Keeper" ?a2 ?b2 ?c2 ?d2 ?e2 ?f2 ?g2 fun JS aI JT k_Keeper=>?z2
 (case a2|b2|c2|d2|e2|f2|g2=>k_is)
 refine' L2.afx KX G (l:=[18,19,20,21,22,23,24,25,26,27,30,31,32,33,34,35,36,42,43,44,45,46,47,48,49,50,51,52,58,59,60,61,62,63,64,66,67,68,70,74,75,80,81,82,83,84,85,86,87,88,91,95,96,97,98,99,100,101,102,103,104,105,106,107,108,109,110,111,112,113,114,115,116]) (top:=My.top) ?xF fun f0 g0 A0=>?zF
 case xF =>
  repeat' (refine' L2.af KX G _ (by decide) ?a ?b ?c ?d ?e ?_;(case a|b|c|d=>k_is);(case e=>first|exact L2.RL fun _=>rfl|exact L2.ln2 fun _ _=>rfl|exact L2.Qf fun _ _ _=>rfl|exact L2.RM fun _ _ _ _=>rfl|exact L2.U0 fun _ _ _ _ _=>rfl|exact L2.U1 fun _ _ _ _ _ _=>rfl|exact L2.WI rfl))
  exact L2.af0
 refine' L2.amx au (l:=[0,1,2,3,4,5,6,7,8,13]) (q := "Shelf.") (cl:=My.bA) ?xMShelf fun Ci aau Dg=>?zMShelf
 case xMShelf =>
  repeat' (refine' L2.am au _ (by decide) ?a ?b ?c ?d ?f ?e ?_;(case a|b|c|d|f=>k_is);(case e=>first|exact L2.RL fun _=>rfl|exact L2.ln2 fun _ _=>rfl|exact L2.Qf fun _ _ _=>rfl|exact L2.RM fun _ _ _ _=>rfl|exact L2.U0 fun _ _ _ _ _=>rfl|exact L2.U1 fun _ _ _ _ _ _=>rfl|exact L2.WI rfl))
  exact L2.am0
 refine' L2.amx aI (l:=[0,1]) (q := "Keeper.") (cl:=My.cR) ?xMKeeper fun v_ W8 xh=>?zMKeeper
 case xMKeeper =>
  repeat' (refine' L2.am aI _ (by decide) ?a ?b ?c ?d ?f ?e ?_;(case a|b|c|d|f=>k_is);(case e=>first|exact L2.RL fun _=>rfl|exact L2.ln2 fun _ _=>rfl|exact L2.Qf fun _ _ _=>rfl|exact L2.RM fun _ _ _ _=>rfl|exact L2.U0 fun _ _ _ _ _=>rfl|exact L2.U1 fun _ _ _ _ _ _=>rfl|exact L2.WI rfl))
  exact L2.am0
 refine' L2.Zv KX G "sorted_by_keys" (My.top 69) ["rows","way"] ?a3 ?b3 ?c3 ?d3 ?e3 fun d0 e0 B0 F0=>?z3
 (case a3|b3|c3|d3=>k_is)
 (case e3=>exact L2.ln2 fun _ _=>rfl)
 refine' L2.Zv KX G "sorted_by_values" (My.top 71) ["columns","part","rows"] ?a4 ?b4 ?c4 ?d4 ?e4 fun d1 e1 B1 F1=>?z4
 (case a4|b4|c4|d4=>k_is)
 (case e4=>exact L2.Qf fun _ _ _=>rfl)
 refine' L2.U9 KX G "page_on" (My.top 78) ["shelf","order","sieve","size","gap","moment"] #[.none,.none] ?a5 ?b5 ?c5 ?d5 ?e5 ?f5 ?g5 fun d2 F2 D2=>?z5
 (case a5|b5|c5|d5|e5=>k_is)
 (case f5=>intro s us t;revert us;exact L2.U1 fun _ _ _ _ _ _=>.of_defaults rfl t rfl rfl rfl)
 (case g5=>intro s us t;revert us;exact L2.U5 fun _ _ _ _ _=>.of_defaults rfl t rfl rfl rfl)
 refine' L2.U9 KX G "page_back" (My.top 79) ["shelf","order","sieve","size","gap","moment"] #[.none,.none] ?a6 ?b6 ?c6 ?d6 ?e6 ?f6 ?g6 fun d3 F3 D3=>?z6
 (case a6|b6|c6|d6|e6=>k_is)
 (case f6=>intro s us t;revert us;exact L2.U1 fun _ _ _ _ _ _=>.of_defaults rfl t rfl rfl rfl)
 (case g6=>intro s us t;revert us;exact L2.U5 fun _ _ _ _ _=>.of_defaults rfl t rfl rfl rfl)
 refine' L2.Zv KX G "law" (My.top 117) ["_law_script"] ?a7 ?b7 ?c7 ?d7 ?e7 fun d4 e4 B4 F4=>?z7
 (case a7|b7|c7|d7=>k_is)
 (case e7=>exact L2.RL fun _=>rfl)
 refine' L2.WH au "worths_at" "Shelf.worths_at" ((L2.inClass My.bA 9)) ["self","key","moment"] ?a8 ?b8 ?c8 ?d8 ?e8 ?f8 ?g8 ?h8 fun d5 F5 D5=>?z8
 (case a8|b8|c8|d8|e8|f8=>k_is)
 (case g8=>intro s us t;revert us;exact L2.Qf fun _ _ _=>.of_defaults rfl t rfl rfl rfl)
 (case h8=>intro s us t;revert us;exact L2.Zx fun _ _=>.of_defaults rfl t rfl rfl rfl)
 refine' L2.WH au "all_at" "Shelf.all_at" ((L2.inClass My.bA 10)) ["self","moment"] ?a9 ?b9 ?c9 ?d9 ?e9 ?f9 ?g9 ?h9 fun d6 F6 D6=>?z9
 (case a9|b9|c9|d9|e9|f9=>k_is)
 (case g9=>intro s us t;revert us;exact L2.ln2 fun _ _=>.of_defaults rfl t rfl rfl rfl)
 (case h9=>intro s us t;revert us;exact L2.Zw fun _=>.of_defaults rfl t rfl rfl rfl)
 refine' L2.WH aI "on" "Keeper.on" ((L2.inClass My.cR 3)) ["self","sieve","size","gap"] ?a10 ?b10 ?c10 ?d10 ?e10 ?f10 ?g10 ?h10 fun d7 F7 D7=>?z10
 (case a10|b10|c10|d10|e10|f10=>k_is)
 (case g10=>intro s us t;revert us;exact L2.RM fun _ _ _ _=>.of_defaults rfl t rfl rfl rfl)
 (case h10=>intro s us t;revert us;exact L2.U4 fun _ _ _=>.of_defaults rfl t rfl rfl rfl)
 refine' L2.WH aI "back" "Keeper.back" ((L2.inClass My.cR 4)) ["self","sieve","size","gap"] ?a11 ?b11 ?c11 ?d11 ?e11 ?f11 ?g11 ?h11 fun d8 F8 D8=>?z11
 (case a11|b11|c11|d11|e11|f11=>k_is)
 (case g11=>intro s us t;revert us;exact L2.RM fun _ _ _ _=>.of_defaults rfl t rfl rfl rfl)
 (case h11=>intro s us t;revert us;exact L2.U4 fun _ _ _=>.of_defaults rfl t rfl rfl rfl)
 refine' L2.L5 KX G "MOST_NAME_SIGNS" 8 ?a12 fun nJ=>?z12
 (case a12=>k_is)
 refine' L2.L5 KX G "MOST_KEY_SIGNS" 12 ?a13 fun oV=>?z13
 (case a13=>k_is)
 refine' L2.L5 KX G "MOST_WORD_SIGNS" 40 ?a14 fun nK=>?z14
 (case a14=>k_is)
 refine' L2.L5 KX G "MOST_COLUMNS" 8 ?a15 fun tH=>?z15
 (case a15=>k_is)
 refine' L2.L5 KX G "MOST_PARTS_orders" 8 ?a16 fun kU=>?z16
 (case a16=>k_is)
 refine' L2.L5 KX G "MOST_DEEP" 8 ?a17 fun A1=>?z17
 (case a17=>k_is)
 refine' L2.L5 KX G "MOST_PARTS_sieves" 200 ?a18 fun kW=>?z18
 (case a18=>k_is)
 refine' L2.L5 KX G "MOST_IN_A_TUPLE" 8 ?a19 fun nL=>?z19
 (case a19=>k_is)
 refine' L2.L5 KX G "MOST_ROWS" 1000 ?a20 fun A2=>?z20
 (case a20=>k_is)
 refine' L2.RK KX G "KINDS" ?a21 ?b21 fun MR w_KINDS=>?z21
 (case a21|b21=>k_is)
 refine' L2.RK KX G "OTHER_WAY" ?a22 ?b22 fun A3 w_OTHER_WAY=>?z22
 (case a22|b22=>k_is)
 refine' L2.RK KX G "OTHER_END" ?a23 ?b23 fun A4 w_OTHER_END=>?z23
 (case a23|b23=>k_is)
 refine' L2.RK KX G "OTHER_SIDE" ?a24 ?b24 fun xi w_OTHER_SIDE=>?z24
 (case a24|b24=>k_is)
 refine' L2.RK KX G "LENGTHS_sieves" ?a25 ?b25 fun oW w_LENGTHS_sieves=>?z25
 (case a25|b25=>k_is)
 refine' L2.RK KX G "LENGTHS_deeds" ?a26 ?b26 fun qt w_LENGTHS_deeds=>?z26
 (case a26|b26=>k_is)
 refine' L2.xo KX G "len" ?a27 fun VN=>?z27
 (case a27=>k_is)
 refine' L2.xo KX G "all" ?a28 fun VO=>?z28
 (case a28=>k_is)
 refine' L2.xo KX G "any" ?a29 fun VP=>?z29
 (case a29=>k_is)
 refine' L2.xo KX G "isinstance" ?a30 fun xj=>?z30
 (case a30=>k_is)
 refine' L2.xo KX G "range" ?a31 fun MS=>?z31
 (case a31=>k_is)
 refine' L2.xo KX G "int" ?a32 fun VQ=>?z32
 (case a32=>k_is)
 refine' L2.xo KX G "str" ?a33 fun VR=>?z33
 (case a33=>k_is)
 refine' L2.xo KX G "bool" ?a34 fun Q5=>?z34
 (case a34=>k_is)
 refine' L2.xo KX G "tuple" ?a35 fun MT=>?z35
 (case a35=>k_is)
 refine' L2.xo KX G "list" ?a36 fun Q6=>?z36
 (case a36=>k_is)
 refine' L2.xo KX G "dict" ?a37 fun Q7=>?z37
 (case a37=>k_is)
 refine' L2.xo KX G "set" ?a38 fun VS=>?z38
 (case a38=>k_is)
 refine' L2.xo KX G "zip" ?a39 fun VT=>?z39
 (case a39=>k_is)
 refine' L2.xo KX G "sorted" ?a40 fun JU=>?z40
 (case a40=>k_is)
 refine' L2.xo KX G "min" ?a41 fun VU=>?z41
 (case a41=>k_is)
 refine' L2.xo KX G "max" ?a42 fun VV=>?z42
 (case a42=>k_is)
 refine' L2.xo KX G "enumerate" ?a43 fun A5=>?z43
 (case a43=>k_is)
 refine' L2.xo KX G "reversed" ?a44 fun Dh=>?z44
 (case a44=>k_is)
 refine' L2.J4 KX G "BadColumns" ?a45 ?b45 fun xk dA=>?z45
 (case a45=>k_is)
 (case b45=>k_exc)
 refine' L2.J4 KX G "BadRow" ?a46 ?b46 fun JV ib=>?z46
 (case a46=>k_is)
 (case b46=>k_exc)
 refine' L2.J4 KX G "BadOrder" ?a47 ?b47 fun Di cY=>?z47
 (case a47=>k_is)
 (case b47=>k_exc)
 refine' L2.J4 KX G "BadSieve" ?a48 ?b48 fun Dj iP=>?z48
 (case a48=>k_is)
 (case b48=>k_exc)
 refine' L2.J4 KX G "BadPlace" ?a49 ?b49 fun Dk cZ=>?z49
 (case a49=>k_is)
 (case b49=>k_exc)
 refine' L2.J4 KX G "BadSize" ?a50 ?b50 fun GW ou=>?z50
 (case a50=>k_is)
 (case b50=>k_exc)
 refine' L2.J4 KX G "HasKey" ?a51 ?b51 fun JW su=>?z51
 (case a51=>k_is)
 (case b51=>k_exc)
 refine' L2.J4 KX G "NoKey" ?a52 ?b52 fun MU wj=>?z52
 (case a52=>k_is)
 (case b52=>k_exc)
 refine' L2.J4 KX G "NoMoment" ?a53 ?b53 fun Dm lW=>?z53
 (case a53=>k_is)
 (case b53=>k_exc)
 refine' L2.J4 KX G "BadDeed" ?a54 ?b54 fun GX kr=>?z54
 (case a54=>k_is)
 (case b54=>k_exc)
 refine' L2.UZ au "columns" ?a55 fun qu=>?z55
 (case a55=>k_is)
 refine' L2.UZ au "deeds" ?a56 fun uC=>?z56
 (case a56=>k_is)
 refine' L2.UZ au "runs" ?a57 fun xl=>?z57
 (case a57=>k_is)
 refine' L2.UZ aI "shelf" ?a58 fun tI=>?z58
 (case a58=>k_is)
 refine' L2.UZ aI "order" ?a59 fun tJ=>?z59
 (case a59=>k_is)
 refine' L2.gvm KX e0 ?a60 ?b60 ?c60 fun oX=>?z60
 (case a60=>k_is)
 (case b60=>rfl)
 (case c60=>first|rfl|decide|simp [codeHdIn])
 refine' L2.gvm KX e1 ?a61 ?b61 ?c61 fun ml=>?z61
 (case a61=>k_is)
 (case b61=>rfl)
 (case c61=>first|rfl|decide|simp [codeHdIn])
 exact⟨⟨_,_,_,_,_,_,_,_,_,_,_,_,_,_,_,_,_,_,_,_,_,_,_,_,_,_,_,_,_,_,_,_,_,_,_,_,_,_,_,_,_,_,_,_,_,_,_,_,_,_,_,_,_,_,_,_⟩,rfl,⟨A0,Dg,xh,F0,F1,F2,D2,F3,D3,F4,F5,D5,F6,D6,F7,D7,F8,D8,nJ,oV,nK,tH,kU,A1,kW,nL,A2,MR,fun H=>L2.Nf (xs:=[.str "number",.str "word"]) ⟨_,_,_,w_KINDS,rfl,rfl,(by rw[zX];show 2≤16777216;decide),.cons ⟨_,rfl⟩ (.cons ⟨_,rfl⟩ (.nil))⟩ (L2.vS ["number","word"]),A3,⟨by first|rfl|decide,_,_,_,w_OTHER_WAY,⟨rfl,rfl,rfl⟩,rfl,.cons ⟨rfl,⟨_,rfl⟩,⟨_,rfl⟩⟩ (.cons ⟨rfl,⟨_,rfl⟩,⟨_,rfl⟩⟩ (.nil)),by trivial⟩,A4,⟨by first|rfl|decide,_,_,_,w_OTHER_END,⟨rfl,rfl,rfl⟩,rfl,.cons ⟨rfl,⟨_,rfl⟩,⟨_,rfl⟩⟩ (.cons ⟨rfl,⟨_,rfl⟩,⟨_,rfl⟩⟩ (.nil)),by trivial⟩,xi,⟨by first|rfl|decide,_,_,_,w_OTHER_SIDE,⟨rfl,rfl,rfl⟩,rfl,.cons ⟨rfl,⟨_,rfl⟩,⟨_,rfl⟩⟩ (.cons ⟨rfl,⟨_,rfl⟩,⟨_,rfl⟩⟩ (.nil)),by trivial⟩,oW,⟨by first|rfl|decide,_,_,_,w_LENGTHS_sieves,⟨rfl,rfl,rfl⟩,rfl,.cons ⟨rfl,⟨_,rfl⟩,⟨_,rfl⟩⟩ (.cons ⟨rfl,⟨_,rfl⟩,⟨_,rfl⟩⟩ (.cons ⟨rfl,⟨_,rfl⟩,⟨_,rfl⟩⟩ (.cons ⟨rfl,⟨_,rfl⟩,⟨_,rfl⟩⟩ (.cons ⟨rfl,⟨_,rfl⟩,⟨_,rfl⟩⟩ (.cons ⟨rfl,⟨_,rfl⟩,⟨_,rfl⟩⟩ (.cons ⟨rfl,⟨_,rfl⟩,⟨_,rfl⟩⟩ (.cons ⟨rfl,⟨_,rfl⟩,⟨_,rfl⟩⟩ (.cons ⟨rfl,⟨_,rfl⟩,⟨_,rfl⟩⟩ (.nil))))))))),by trivial⟩,qt,⟨by first|rfl|decide,_,_,_,w_LENGTHS_deeds,⟨rfl,rfl,rfl⟩,rfl,.cons ⟨rfl,⟨_,rfl⟩,⟨_,rfl⟩⟩ (.cons ⟨rfl,⟨_,rfl⟩,⟨_,rfl⟩⟩ (.cons ⟨rfl,⟨_,rfl⟩,⟨_,rfl⟩⟩ (.nil))),by trivial⟩,VN,VO,VP,xj,MS,VQ,VR,Q5,MT,Q6,Q7,VS,VT,JU,VU,VV,A5,Dh,xk,dA,JV,ib,Di,cY,Dj,iP,Dk,cZ,GW,ou,JW,su,MU,wj,Dm,lW,GX,kr,MP,au,⟨MQ,(Dg 0 (by decide)).e.at_,(Dg 0 (by decide)).e.fn,k_Shelf⟩,qu,uC,xl,JS,aI,⟨JT,(xh 0 (by decide)).e.at_,(xh 0 (by decide)).e.fn,k_Keeper⟩,tI,tJ,e0,oX,by simp,e1,ml,by simp,by simp,by simp,fun s v=>B4 s [v] rfl⟩⟩
